import PyProof.Rows.All
import Wide.All
import OpenK.AllK
import Wide.FinOn
import Lean
import PyProof.EqAt
import PyProof.EqKinds
import PyProof.TupleCall
import PySem.Challenge.RW_kinghall_k02_no_hall
import PyProof.StationsW
import PyProof.ExcClass3
import PyProof.NsDelKeeps
import PyProof.Rows.CatchOwn
import PyProof.DictWalks
import PyProof.Rows.SetFrom
set_option Elab.async false
set_option linter.all false
set_option maxRecDepth 100000
namespace L2
open PySem PySem.Spec PyProof.Rows
abbrev Key := Sum Int Str
def keyIs : Key → Value → Bool
  | .inl k, v => Value.isInt k v
  | .inr x, v => Value.isStrOf x v
def keyH (w : World) : Key → Int
  | .inl k => hashInt k
  | .inr x => hashStr w x
theorem keyIs_shape : ∀ {k : Key} {v : Value}, keyIs k v = true → (∃ i t, k = Sum.inl i ∧ v = Value.int i t) ∨ (∃ x t, k = Sum.inr x ∧ v = Value.str x t)
  | .inl i, v, h => by
    obtain ⟨t, e⟩ := Value.isInt_shape (k := i) (v := v) h
    exact .inl ⟨i, t, rfl, e⟩
  | .inr x, v, h => by
    obtain ⟨t, e⟩ := Value.isStrOf_shape (x := x) (v := v) h
    exact .inr ⟨x, t, rfl, e⟩
theorem key_ll (a b : Int) : decide ((Sum.inl a : Key) = Sum.inl b) = (a == b) := by
  by_cases e : a = b
  · subst e; simp
  · have h : ¬ (Sum.inl a : Key) = Sum.inl b := fun q => e (Sum.inl.inj q)
    rw [decide_eq_false h]
    exact (beq_eq_false_iff_ne.mpr e).symm
theorem key_rr (a b : Str) : decide ((Sum.inr a : Key) = Sum.inr b) = decide (a = b) := by
  by_cases e : a = b
  · subst e; simp
  · have h : ¬ (Sum.inr a : Key) = Sum.inr b := fun q => e (Sum.inr.inj q)
    rw [decide_eq_false h, decide_eq_false e]
theorem key_lr (a : Int) (b : Str) : decide ((Sum.inl a : Key) = Sum.inr b) = false := decide_eq_false (fun q => nomatch q)
theorem key_rl (a : Str) (b : Int) : decide ((Sum.inr a : Key) = Sum.inl b) = false := decide_eq_false (fun q => nomatch q)
def mixKind (prog : Program) (w : World) : PySem.KeyKind prog w Key where
  is := keyIs
  hash := keyH w
  inj := fun v a b ha hb => by
    rcases keyIs_shape ha with ⟨i, t, rfl, rfl⟩ | ⟨x, t, rfl, rfl⟩
    · rcases keyIs_shape hb with ⟨j, u, rfl, e⟩ | ⟨y, u, rfl, e⟩
      · injection e with e1 _; rw [e1]
      · exact nomatch e
    · rcases keyIs_shape hb with ⟨j, u, rfl, e⟩ | ⟨y, u, rfl, e⟩
      · exact nomatch e
      · injection e with e1 _; rw [e1]
  byValue := fun k v h => by
    rcases keyIs_shape h with ⟨i, t, rfl, rfl⟩ | ⟨x, t, rfl, rfl⟩ <;> rfl
  pyHash := fun hv h => by
    rcases keyIs_shape hv with ⟨i, t, rfl, rfl⟩ | ⟨x, t, rfl, rfl⟩
    · exact wpAny_pyHash_int h
    · exact wpAny_pyHash_str h
  eqBool := fun hu hv h => by
    rcases keyIs_shape hu with ⟨i, t, rfl, rfl⟩ | ⟨x, t, rfl, rfl⟩
    · rcases keyIs_shape hv with ⟨j, u, rfl, rfl⟩ | ⟨y, u, rfl, rfl⟩
      · rw [key_ll] at h; exact wpAny_eqBool_int h
      · rw [key_lr] at h; exact SeqAt.EqAt.int_str i t y u _ _ _ _ h
    · rcases keyIs_shape hv with ⟨j, u, rfl, rfl⟩ | ⟨y, u, rfl, rfl⟩
      · rw [key_rl] at h; exact SeqAt.EqAt.str_int x t j u _ _ _ _ h
      · rw [key_rr] at h; exact wpAny_eqBool_str h
  «strs» := fun k x t v h => by
    rcases keyIs_shape h with ⟨i, u, rfl, e⟩ | ⟨y, u, rfl, e⟩
    · exact nomatch e
    · injection e with e1 _
      subst e1
      cases v <;> rfl
end L2
namespace L2
open PySem PySem.Spec PyProof.Rows
inductive V where
  | non | bl (b : Bool) | int (i : Int) | str (x : Str) | byt (b : Array UInt8) | flt (b : UInt64) | ref (a : Addr) | ty (n : String)
  deriving DecidableEq
def RelV : V → Value → Prop
  | .non, u => u = Value.none
  | .bl b, u => u = Value.bool b
  | .int i, u => ∃ t, u = Value.int i t
  | .str x, u => ∃ t, u = Value.str x t
  | .byt b, u => ∃ t, u = Value.bytes b t
  | .flt b, u => ∃ t, u = Value.float b t
  | .ref a, u => u = Value.ref a
  | .ty n, u => u = Value.type n
abbrev Vals : List V → List Value → Prop := Paired RelV
theorem Vals.length {xs : List V} {us : List Value} (r : Vals xs us) : xs.length = us.length := Paired.length r
theorem Vals.get : ∀ {xs : List V} {us : List Value} {i : Nat} {x : V}, Vals xs us → xs[i]? = some x → ∃ u, us[i]? = some u ∧ RelV x u
  | _, _, _, _, .nil, e => by simp at e
  | _, _, 0, _, .cons r _, e => by simp at e; subst e; exact ⟨_, rfl, r⟩
  | _, _, i + 1, x, .cons _ t, e => by
    obtain ⟨u, h1, h2⟩ := Vals.get (i := i) (x := x) t (by simpa using e)
    exact ⟨u, by simpa using h1, h2⟩
theorem Vals.set {x : V} {u : Value} (r : RelV x u) : ∀ {xs : List V} {us : List Value} (i : Nat), Vals xs us → Vals (xs.set i x) (us.set i u)
  | _, _, _, .nil => .nil
  | _, _, 0, .cons _ t => .cons r t
  | _, _, i + 1, .cons q t => .cons q (Vals.set r i t)
theorem Vals.append : ∀ {xs ys : List V} {us ws : List Value}, Vals xs us → Vals ys ws → Vals (xs ++ ys) (us ++ ws)
  | _, _, _, _, .nil, s => s
  | _, _, _, _, .cons r t, s => .cons r (Vals.append t s)
theorem Vals.take : ∀ {xs : List V} {us : List Value} (n : Nat), Vals xs us → Vals (xs.take n) (us.take n)
  | _, _, 0, _ => .nil
  | _, _, _ + 1, .nil => .nil
  | _, _, n + 1, .cons r t => .cons r (Vals.take n t)
theorem Vals.drop : ∀ {xs : List V} {us : List Value} (n : Nat), Vals xs us → Vals (xs.drop n) (us.drop n)
  | _, _, 0, r => r
  | _, _, _ + 1, .nil => .nil
  | _, _, n + 1, .cons _ t => Vals.drop n t
def RelO : Option V → Option Value → Prop
  | some v, some u => RelV v u
  | none, none => True
  | _, _ => False
def KV {κ : Type} : List (κ × V) → List (κ × Value) → Prop := Paired fun (p : κ × V) (q : κ × Value) => p.1 = q.1 ∧ RelV p.2 q.2
def kV : Key → V
  | .inl i => .int i
  | .inr x => .str x
inductive HO where
  /-- a list -/
  | lst (xs : List V)
  /-- a tuple (never changes) -/
  | tup (xs : List V)
  /-- a dict whose keys are ints and texts; one whose keys are tuples of ints and texts (the empty one is both) -/
  | dK (kvs : List (Key × V)) | dT (kvs : List (List Key × V))
  /-- a set of ints: its members, its size -/
  | set (S : Int → Bool) (n : Nat)
  /-- an instance of the class at C, its dict at dx, its attributes -/
  | ins (C dx : Addr) (fs : List (Str × V))
  /-- the dict of the instance at x -/
  | own (x : Addr)
  /-- the dict of an exception -/
  | xd (fs : List (Str × V))
  /-- a bound method, f of x -/
  | met (f x : Addr)
  /-- a range object lo, lo + 1, .. below hi -/
  | rng (lo hi : Int)
  /-- a thing that is known to the object (the script; a dict while a loop walks it): read, never written while it is so -/
  | frz (o : Obj) (u : HO)
  /-- a code object's table -/
  | tbl (ps : Array Value)
  /-- any other thing, by what is true of its one object (a def of one's own: SetO a S n := HO.ext fun h => ..) -/
  | ext (φ : Heap → Prop)
abbrev Hp := Addr → Option HO
def upd (H : Hp) (a : Addr) (o : HO) : Hp := fun b => if b = a then some o else H b
theorem upd_same {H : Hp} {a : Addr} {o : HO} : upd H a o a = some o := by unfold upd; rw [if_pos rfl]
theorem upd_ne {H : Hp} {a b : Addr} {o : HO} (h : b ≠ a) : upd H a o b = H b := by unfold upd; rw [if_neg h]
theorem ne_of_none {H : Hp} {a b : Addr} {o : HO} (h : H a = some o) (h' : H b = none) : a ≠ b := by
  intro e; subst e; rw [h] at h'; cases h'
section
variable (P : Program) (w : World)
def ObjOk (H : Hp) (h : Heap) (a : Addr) : HO → Prop
  | .lst xs => xs.length ≤ sizeLine ∧ ∃ (its : List Value) (n : Nat), Vals xs its ∧ h.get? a = some { cls := .type "list", data := .seq its.toArray n }
  | .tup xs => xs.length ≤ sizeLine ∧ ∃ its : List Value, Vals xs its ∧ IsTup h a its.toArray
  | .dK kvs => kvs.length ≤ sizeLine ∧ (a == sysModules) = false ∧ ∃ vs, KV kvs vs ∧ h.DictOf (mixKind P w) a vs
  | .dT kvs => kvs.length ≤ sizeLine ∧ (a == sysModules) = false ∧ ∃ xs : List (List Key × Addr × Value),
      Paired (fun (p : List Key × V) (q : List Key × Addr × Value) => p.1 = q.1 ∧ H q.2.1 = some (.tup (p.1.map kV)) ∧ RelV p.2 q.2.2) kvs xs ∧
      ∃ o es ep, h.get? a = some o ∧ o.ExactDict ∧ o.data = .dict es ep ∧ es.toList = xs.map (entryOfKey (tupleKind (mixKind P w))) ∧ (xs.map (·.1)).Nodup
  | .set S n => h.SetOf (intKind P w) a S n
  | .ins C dx fs => H dx = some (.own a) ∧ fs.length ≤ 1000 ∧ dx ≠ a ∧ h.get? a = some (PySem.W.instObj C dx) ∧
      ∃ mA, h.Ns1 dx mA ∧ (∀ f, RelO (fs.lookup f) (mA f)) ∧ PySem.Within mA (fs.map (·.1))
  | .own _ => ∃ o, h.get? a = some o
  | .xd fs => ∃ mA, h.Ns1 a mA ∧ ∀ f, RelO (fs.lookup f) (mA f)
  | .rng lo hi => ∃ t u v, h.get? a = some { cls := .type "range", data := .fields #[.int lo t, .int hi u, .int 1 v] }
  | .frz o u => h.get? a = some o ∧ ObjOk H h a u
  | .tbl ps => h.get? a = some { cls := .none, data := .fields ps }
  | .met f x => h.get? a = some (PySem.W.methodObj (.ref f) (.ref x))
  | .ext φ => φ h ∧ (∃ o, h.get? a = some o) ∧ ∀ h1 h2 : Heap, φ h1 → (∀ o, h1.get? a = some o → h2.get? a = some o) → φ h2
def HOk (H : Hp) (h : Heap) : Prop := ∀ a o, H a = some o → ObjOk P w H h a o
end
section
variable {P : Program} {w : World} {H H' : Hp} {h h' : Heap} {a : Addr} {o : HO}
theorem ObjOk.lt (x : ObjOk P w H h a o) : a < h.objs.size := by
  cases o with
  | lst xs => obtain ⟨_, _, _, _, e⟩ := x; exact Heap.lt_size e
  | tup xs => obtain ⟨_, _, _, p⟩ := x; exact p.lt
  | dK kvs => obtain ⟨_, _, _, _, o, _, _, e, _⟩ := x; exact Heap.lt_size e
  | dT kvs => obtain ⟨_, _, _, _, o, _, _, e, _⟩ := x; exact Heap.lt_size e
  | set S n => obtain ⟨o, _, _, _, e, _⟩ := x; exact Heap.lt_size e
  | ins C dx fs => obtain ⟨_, _, _, e, _⟩ := x; exact Heap.lt_size e
  | own y => obtain ⟨_, e⟩ := x; exact Heap.lt_size e
  | xd fs => obtain ⟨_, ⟨_, _, _, e, _⟩, _⟩ := x; exact Heap.lt_size e
  | rng lo hi => obtain ⟨_, _, _, e⟩ := x; exact Heap.lt_size e
  | frz ob u => obtain ⟨e, _⟩ := x; exact Heap.lt_size e
  | tbl ps => exact Heap.lt_size (show h.get? a = some _ from x)
  | met f y => exact Heap.lt_size (show h.get? a = some _ from x)
  | ext φ => obtain ⟨_, ⟨_, e⟩, _⟩ := x; exact Heap.lt_size e
theorem Paired.mapP {α β : Type} {F G : α → β → Prop} : ∀ {l₁ : List α} {l₂ : List β}, Paired F l₁ l₂ → (∀ a b, F a b → G a b) → Paired G l₁ l₂
  | _, _, .nil, _ => .nil
  | _, _, .cons r t, f => .cons (f _ _ r) (Paired.mapP t f)
theorem ObjOk.stay (x : ObjOk P w H h a o) (k : ∀ b u, (b = a ∨ H b = some (.own a)) → h.get? b = some u → h'.get? b = some u)
    (ho : ∀ b, H b = some (.own a) → H' b = some (.own a)) (ht : ∀ b xs, H b = some (.tup xs) → H' b = some (.tup xs)) : ObjOk P w H' h' a o := by
  induction o with
  | lst xs => obtain ⟨z, its, n, r, e⟩ := x; exact ⟨z, its, n, r, k _ _ (.inl rfl) e⟩
  | tup xs => obtain ⟨z, its, r, ob, e, c⟩ := x; exact ⟨z, its, r, ob, k _ _ (.inl rfl) e, c⟩
  | dK kvs => obtain ⟨z, y, vs, r, ob, es, ep, e, c⟩ := x; exact ⟨z, y, vs, r, ob, es, ep, k _ _ (.inl rfl) e, c⟩
  | dT kvs =>
    obtain ⟨z, y, xs, r, ob, es, ep, e, c⟩ := x
    exact ⟨z, y, xs, Paired.mapP r fun p q z => ⟨z.1, ht _ _ z.2.1, z.2.2⟩, ob, es, ep, k _ _ (.inl rfl) e, c⟩
  | set S n => obtain ⟨ob, es, ep, t, e, c⟩ := x; exact ⟨ob, es, ep, t, k _ _ (.inl rfl) e, c⟩
  | ins C dx fs =>
    obtain ⟨d, z, ne, e, mA, ⟨od, es, ep, e2, c⟩, r⟩ := x
    exact ⟨ho _ d, z, ne, k _ _ (.inl rfl) e, mA, ⟨od, es, ep, k _ _ (.inr d) e2, c⟩, r⟩
  | own y => obtain ⟨ob, e⟩ := x; exact ⟨ob, k _ _ (.inl rfl) e⟩
  | xd fs => obtain ⟨mA, ⟨od, es, ep, e, c⟩, r⟩ := x; exact ⟨mA, ⟨od, es, ep, k _ _ (.inl rfl) e, c⟩, r⟩
  | rng lo hi => obtain ⟨t, u, v, e⟩ := x; exact ⟨t, u, v, k _ _ (.inl rfl) e⟩
  | frz ob u ih => obtain ⟨e, q⟩ := x; exact ⟨k _ _ (.inl rfl) e, ih q⟩
  | tbl ps =>
    have e : h.get? a = some { cls := .none, data := .fields ps } := x
    show h'.get? a = some { cls := .none, data := .fields ps }
    exact k a _ (.inl rfl) e
  | met f y =>
    have e : h.get? a = some (PySem.W.methodObj (.ref f) (.ref y)) := x
    show h'.get? a = some (PySem.W.methodObj (.ref f) (.ref y))
    exact k a _ (.inl rfl) e
  | ext φ => obtain ⟨p, ⟨o, e⟩, st⟩ := x; exact ⟨st _ _ p fun o q => k _ _ (.inl rfl) q, ⟨o, k _ _ (.inl rfl) e⟩, st⟩
theorem HOk.lt (x : HOk P w H h) (e : H a = some o) : a < h.objs.size := (x a o e).lt
theorem HOk.fresh (x : HOk P w H h) (e : h.objs.size ≤ a) : H a = none := by
  cases q : H a with
  | none => rfl
  | some u => exact absurd (Nat.lt_of_lt_of_le (x.lt q) e) (Nat.lt_irrefl _)
theorem HOk.kept (x : HOk P w H h) (k : ∀ b u, h.get? b = some u → h'.get? b = some u) : HOk P w H h' := fun a o e =>
  (x a o e).stay (fun b u _ q => k b u q) (fun _ q => q) fun _ _ q => q
theorem HOk.laid (x : HOk P w H h) (k : ∀ b u, h.get? b = some u → h'.get? b = some u) (hp : h.objs.size ≤ a) (new : ObjOk P w (upd H a o) h' a o) : HOk P w (upd H a o) h' := fun b u e => by
  have hn := x.fresh hp
  by_cases hb : b = a
  · subst hb; rw [upd_same] at e; cases e; exact new
  · rw [upd_ne hb] at e
    exact (x b u e).stay (fun c v _ q => k c v q) (fun c q => by rw [upd_ne (ne_of_none q hn)]; exact q) fun c xs q => by rw [upd_ne (ne_of_none q hn)]; exact q
end
def Rd (H : Hp) (a : Addr) (u : HO) : Prop := H a = some u ∨ ∃ o, H a = some (.frz o u)
theorem Rd.ok {P : Program} {w : World} {H : Hp} {h : Heap} {a : Addr} {u : HO} (r : Rd H a u) (x : HOk P w H h) : ObjOk P w H h a u := by
  rcases r with r | ⟨o, r⟩
  · exact x a u r
  · obtain ⟨_, q⟩ := x a _ r
    exact q
def Mut : Option HO → Prop
  | some (.lst _) => True
  | some (.dK _) => True
  | some (.dT _) => True
  | some (.set _ _) => True
  | some (.ins _ _ _) => True
  | some (.ext _) => True
  | _ => False
section
variable {P : Program} {w : World} {H : Hp} {h h' : Heap} {x e : Addr} {o' : HO}
theorem HOk.write (ok : HOk P w H h) (mu : Mut (H x)) (he : e = x ∨ H e = some (.own x)) (k : ∀ b u, b ≠ e → h.get? b = some u → h'.get? b = some u) (heo : ∃ u, h'.get? e = some u)
    (new : ObjOk P w (upd H x o') h' x o') : HOk P w (upd H x o') h' := fun b u q => by
  have nown : ∀ c y, H c = some (.own y) → c ≠ x := fun c y r z => by subst z; rw [r] at mu; exact mu
  have ntup : ∀ c xs, H c = some (.tup xs) → c ≠ x := fun c xs r z => by subst z; rw [r] at mu; exact mu
  by_cases hb : b = x
  · subst hb; rw [upd_same] at q; cases q; exact new
  · rw [upd_ne hb] at q
    by_cases hbe : b = e
    · have q' : H b = some (.own x) := by
        rcases he with z | z
        · exact absurd (hbe.trans z) hb
        · rw [hbe]; exact z
      rw [q] at q'; cases q'
      obtain ⟨v, hv⟩ := heo
      exact ⟨v, by rw [hbe]; exact hv⟩
    · refine (ok b u q).stay (fun c v hc r => k c v ?_ r) (fun c r => by rw [upd_ne (nown c b r)]; exact r) fun c xs r => by rw [upd_ne (ntup c xs r)]; exact r
      rcases hc with rfl | hc
      · exact hbe
      · rintro rfl
        rcases he with z | z
        · exact nown c b hc z
        · rw [hc] at z; cases z; exact hb rfl
end
structure Un (fs ex : List Addr) (H H' : Hp) (h h' : Heap) : Prop where
  keep : ∀ b o, h.get? b = some o → H b = none → b ∉ fs → b ∉ ex → h'.get? b = some o
  slot : ∀ b o, h.get? b = some o → H b = none → b ∈ fs → b ∉ ex → ∃ sl, h'.get? b = some { o with slots := sl }
  free : ∀ b o, h.get? b = some o → H b = none → b ∉ ex → H' b = none
  there : ∀ b o, h.get? b = some o → b ∉ ex → ∃ o', h'.get? b = some o'
  tups : ∀ b xs, H b = some (.tup xs) → H' b = some (.tup xs)
  frzs : ∀ b o u, H b = some (.frz o u) → H' b = some (.frz o u)
  tbls : ∀ b ps, H b = some (.tbl ps) → ∃ more, H' b = some (.tbl (ps ++ more))
section
variable {fs fs' ex ex' : List Addr} {H H1 H2 : Hp} {h h1 h2 h' : Heap} {a x e : Addr} {o : HO}
theorem Un.any (u : Un fs ex H H1 h h1) {b : Addr} {ob : Obj} (q : h.get? b = some ob) (n : H b = none) (hx : b ∉ ex) : ∃ sl, h1.get? b = some { ob with slots := sl } := by
  by_cases hb : b ∈ fs
  · exact u.slot b ob q n hb hx
  · exact ⟨ob.slots, u.keep b ob q n hb hx⟩
theorem Un.trans (a : Un fs ex H H1 h h1) (b : Un fs ex H1 H2 h1 h2) : Un fs ex H H2 h h2 where
  keep := fun c ob q n hc hx => b.keep c ob (a.keep c ob q n hc hx) (a.free c ob q n hx) hc hx
  slot := fun c ob q n hc hx => by
    obtain ⟨sl, e1⟩ := a.slot c ob q n hc hx
    obtain ⟨sl', e2⟩ := b.slot c _ e1 (a.free c ob q n hx) hc hx
    exact ⟨sl', e2⟩
  free := fun c ob q n hx => by
    obtain ⟨o', e1⟩ := a.there c ob q hx
    exact b.free c o' e1 (a.free c ob q n hx) hx
  there := fun c ob q hx => by
    obtain ⟨o', e1⟩ := a.there c ob q hx
    exact b.there c o' e1 hx
  tups := fun c xs q => b.tups c xs (a.tups c xs q)
  frzs := fun c ob xs q => b.frzs c ob xs (a.frzs c ob xs q)
  tbls := fun c ps q => by
    obtain ⟨m1, e1⟩ := a.tbls c ps q
    obtain ⟨m2, e2⟩ := b.tbls c _ e1
    exact ⟨m1 ++ m2, by rw [e2, Array.append_assoc]⟩
theorem Un.kept (k : ∀ b u, h.get? b = some u → h'.get? b = some u) : Un fs ex H H h h' :=
  ⟨fun b ob q _ _ _ => k b ob q, fun b ob q _ _ _ => ⟨ob.slots, k b ob q⟩, fun _ _ _ n _ => n, fun b ob q _ => ⟨ob, k b ob q⟩, fun _ _ q => q, fun _ _ _ q => q, fun _ ps q => ⟨#[], by rw [q]; simp⟩⟩
theorem Un.refl : Un fs ex H H h h := Un.kept fun _ _ q => q
theorem Un.laid (k : ∀ b u, h.get? b = some u → h'.get? b = some u) (hp : h.objs.size ≤ a) (hn : H a = none) : Un fs ex H (upd H a o) h h' where
  keep := fun b u q _ _ _ => k b u q
  slot := fun b u q _ _ _ => ⟨u.slots, k b u q⟩
  free := fun b u q n _ => by rw [upd_ne (Nat.ne_of_lt (Nat.lt_of_lt_of_le (Heap.lt_size q) hp))]; exact n
  there := fun b u q _ => ⟨u, k b u q⟩
  tups := fun b xs q => by rw [upd_ne (ne_of_none q hn)]; exact q
  frzs := fun b u xs q => by rw [upd_ne (ne_of_none q hn)]; exact q
  tbls := fun b ps q => ⟨#[], by rw [upd_ne (ne_of_none q hn), q]; simp⟩
theorem Un.write (mu : Mut (H x)) (he : e = x ∨ H e = some (.own x)) (k : ∀ b u, b ≠ e → h.get? b = some u → h'.get? b = some u) (heo : ∃ u, h'.get? e = some u) : Un fs ex H (upd H x o) h h' := by
  have hx : ∀ b, H b = none → b ≠ x := fun b n z => by subst z; rw [n] at mu; exact mu
  have hb : ∀ b, H b = none → b ≠ e := fun b n z => by
    subst z
    rcases he with r | r
    · exact hx b n r
    · rw [n] at r; cases r
  have hm : ∀ b u, H b = some u → ¬ Mut (some u) → b ≠ x := fun b u q nm z => by subst z; rw [q] at mu; exact nm mu
  refine ⟨fun b u q n _ _ => k b u (hb b n) q, fun b u q n _ _ => ⟨u.slots, k b u (hb b n) q⟩, fun b u q n _ => by rw [upd_ne (hx b n)]; exact n, fun b u q _ => ?_,
    fun b xs q => by rw [upd_ne (hm b _ q fun z => z)]; exact q, fun b u xs q => by rw [upd_ne (hm b _ q fun z => z)]; exact q, fun b ps q => ⟨#[], by rw [upd_ne (hm b _ q fun z => z), q]; simp⟩⟩
  by_cases hbe : b = e
  · subst hbe; exact heo
  · exact ⟨u, k b u hbe q⟩
end
def trk (h : Heap) (H : Hp) : List Addr := (List.range h.objs.size).filter fun a => (H a).isSome
def hidT (h : Heap) (H : Hp) : Heap := PySem.W.hideAll h (trk h H)
theorem hidT_size (h : Heap) (H : Hp) : (hidT h H).objs.size = h.objs.size := PySem.W.hideAll_size _ _
theorem hidT_get {h : Heap} {H : Hp} {b : Addr} {o : Obj} (e : h.get? b = some o) (n : H b = none) : (hidT h H).get? b = some o :=
  PySem.W.hideAll_get _ e fun hm => by
    have q : (H b).isSome = true := (List.mem_filter.mp hm).2
    rw [n] at q; simp at q
theorem of_hidT {h : Heap} {H : Hp} {b : Addr} {o : Obj} (e : (hidT h H).get? b = some o) : h.get? b = some o ∧ H b = none := by
  have e' : h.get? b = some o := PySem.W.of_hideAll (trk h H) e
  refine ⟨e', ?_⟩
  cases q : H b with
  | none => rfl
  | some x =>
    have hm : b ∈ trk h H := List.mem_filter.mpr ⟨List.mem_range.mpr (Heap.lt_size e'), by simp [q]⟩
    have z : (hidT h H).get? b = none := PySem.W.hideAll_none (trk h H) hm
    rw [z] at e; cases e
end L2
namespace L2
open PySem PySem.Spec PyProof.Rows
structure Mod (K : PySem.W.Frag) (mg : Str → Option Value) (base : Heap) : Prop where
  kin : K.In base
  glob : base.Ns mainGlobals mg
  blt : ∃ mb, base.Ns builtinsNs mb ∧ ∀ x : Str, x ≠ "__name__" → mb x = bootBuiltins x
  nolimit : base.NoLimit
structure Cx where
  prog : Program
  w : World
  K : PySem.W.Frag
  mg : Str → Option Value
  base : Heap
  A : Around
  N : List Str
  s₀ : Shared
  H₀ : Hp
  env : Env
  outer : List Env
  stack : List Env
  ex : List Addr
  fn : Str → Bool
  calm : Bool
  pn : List (Addr × Obj)
  xe : Value → Shared → Prop
def frs (l : List Env) : List Addr := l.filterMap (·.frame)
abbrev Cx.fs (X : Cx) : List Addr := frs X.outer
def Vis (sc : Scope) (x : Str) : Prop := sc.names.lookup x = some .local ∨ sc.names.lookup x = some .cell ∨ sc.names.lookup x = some .free
def Loc (sc : Scope) (x : Str) : Prop := sc.names.lookup x = some .local ∨ sc.names.lookup x = some .cell
def Look (env : Env) (h : Heap) (m : Str → Option Value) (x : Str) (u : Value) : Prop :=
  (env.kindOf x = some .local ∧ m x = some u) ∨ ((env.kindOf x = some .cell ∨ env.kindOf x = some .free) ∧ ∃ c, env.cells.lookup x = some c ∧ h.IsCell c (some u))
structure Cx.Ok (X : Cx) : Prop where
  mod : Mod X.K X.mg X.base
  kind : X.env.scope.kind = .function
  glob : X.env.globals = mainGlobals
  blt : X.env.builtins = builtinsNs
  above : X.s₀.heap.objs.size ≤ X.env.locals
  inj : ∀ x y c, X.env.cells.lookup x = some c → X.env.cells.lookup y = some c → x = y
  has : ∀ x, (X.env.kindOf x = some .cell ∨ X.env.kindOf x = some .free) → ∃ c, X.env.cells.lookup x = some c
  cab : ∀ x c, X.fn x = true → X.env.cells.lookup x = some c → X.s₀.heap.objs.size ≤ c
  hd : X.calm = true → X.A.handled = none
  frames : X.A.frames = some X.stack
  stk : X.stack = X.outer ∨ (X.stack = X.env :: X.outer ∧ X.env.frame = some X.env.locals)
  exf : ∀ b ∈ X.ex, b ≠ X.env.locals ∧ ∀ x c, X.env.cells.lookup x = some c → c ≠ b
  bs : ∀ b o, X.base.get? b = some o → X.s₀.heap.get? b = some o ∧ X.H₀ b = none
  bsz : X.base.objs.size ≤ X.s₀.heap.objs.size
  noex : ∀ b o, X.base.get? b = some o → b ∉ X.ex
  exfs : ∀ b ∈ X.ex, b ∉ X.fs
  funs : X.s₀.heap.FunFrames X.base X.outer
  frf : ∀ b ∈ X.fs, X.H₀ b = none
structure Inv (X : Cx) (pins : List (Addr × Obj)) (σ : List (Option V)) (H : Hp) (s : Shared) : Prop where
  ok : X.Ok
  os : s.os = X.s₀.os
  bare : AllBare s.gens
  base : Un X.fs X.ex X.H₀ H X.s₀.heap s.heap
  loc : ∃ m, s.heap.Ns X.env.locals m ∧ ∀ (i : Nat) (x : Str) (v : V), X.N[i]? = some x → σ[i]? = some (some v) → Vis X.env.scope x → ∃ u, RelV v u ∧ Look X.env s.heap m x u
  cell : ∀ x c, X.env.cells.lookup x = some c → ∃ v, s.heap.IsCell c v
  free : H X.env.locals = none
  freeC : ∀ x c, X.env.cells.lookup x = some c → H c = none
  pin : ∀ p ∈ X.pn ++ pins, s.heap.get? p.1 = some p.2 ∧ H p.1 = none ∧ p.1 ≠ X.env.locals ∧ p.1 ∉ X.fs ∧ ∀ v, p.2.data ≠ .cell v
  hok : HOk X.prog X.w H s.heap
  len : σ.length = X.N.length
section
variable {X : Cx} {pins : List (Addr × Obj)} {σ : List (Option V)} {H H' : Hp} {s : Shared} {h' : Heap}
theorem Cx.Ok.nofr (ok : X.Ok) {b : Addr} {o : Obj} (e : X.base.get? b = some o) : b ∉ X.fs := fun hb => by
  have := (ok.funs.mem hb).1
  rw [e] at this; cases this
theorem Inv.bs (I : Inv X pins σ H s) : ∀ b o, X.base.get? b = some o → s.heap.get? b = some o ∧ H b = none := fun b o e =>
  ⟨I.base.keep b o (I.ok.bs b o e).1 (I.ok.bs b o e).2 (I.ok.nofr e) (I.ok.noex b o e), I.base.free b o (I.ok.bs b o e).1 (I.ok.bs b o e).2 (I.ok.noex b o e)⟩
theorem Inv.bk (I : Inv X pins σ H s) : ∀ b o, X.base.get? b = some o → s.heap.get? b = some o := fun b o e => (I.bs b o e).1
theorem Inv.mod (I : Inv X pins σ H s) : Mod X.K X.mg X.base := I.ok.mod
theorem Inv.kIn (I : Inv X pins σ H s) : X.K.In s.heap := I.ok.mod.kin.keeps I.bk
theorem Inv.fr (I : Inv X pins σ H s) : ∃ m, Fr X.base X.env.locals s.heap m :=
  let ⟨m, hn, _⟩ := I.loc
  ⟨m, hn, I.bk, Nat.le_trans I.ok.bsz I.ok.above⟩
theorem Inv.lt (I : Inv X pins σ H s) : X.env.locals < s.heap.objs.size := let ⟨_, hn, _⟩ := I.loc; hn.lt
theorem Inv.sz (I : Inv X pins σ H s) : X.s₀.heap.objs.size ≤ s.heap.objs.size := Nat.le_trans I.ok.above (Nat.le_of_lt I.lt)
theorem Inv.nofs (I : Inv X pins σ H s) {a : Addr} (h : s.heap.objs.size ≤ a) : a ∉ X.fs := fun hb => by
  obtain ⟨_, o, ho, _⟩ := I.ok.funs.mem hb
  exact absurd (Nat.lt_of_lt_of_le (Heap.lt_size ho) (Nat.le_trans I.sz h)) (Nat.lt_irrefl _)
theorem Inv.cne (I : Inv X pins σ H s) : ∀ x c, X.env.cells.lookup x = some c → c ≠ X.env.locals := fun x c e z => by
  obtain ⟨v, o, ho, hd⟩ := I.cell x c e
  obtain ⟨m, ⟨o', es, ep, ho', hd', _⟩, _⟩ := I.loc
  rw [z, ho'] at ho; cases ho; rw [hd'] at hd; cases hd
theorem Inv.funs (I : Inv X pins σ H s) : s.heap.FunFrames X.base X.outer := by
  have all : ∀ (l : List Env), (∀ b ∈ frs l, b ∈ X.fs) → X.s₀.heap.FunFrames X.base l → s.heap.FunFrames X.base l := by
    intro l
    induction l with
    | nil => intro _ _; trivial
    | cons env r ih =>
      intro hs hl
      obtain ⟨hk, ⟨L, o, hf, hn, ho, hd⟩, hr⟩ := hl
      have hL : L ∈ X.fs := hs L (by unfold frs; rw [List.filterMap_cons, hf]; exact List.mem_cons_self)
      obtain ⟨sl, e⟩ := I.base.slot L o ho (I.ok.frf L hL) hL fun z => I.ok.exfs L z hL
      exact ⟨hk, ⟨L, _, hf, hn, e, hd⟩, ih (fun b hb => hs b (by unfold frs; rw [List.filterMap_cons, hf]; exact List.mem_cons_of_mem _ hb)) hr⟩
  exact all X.outer (fun _ hb => hb) I.ok.funs
theorem Inv.stack (I : Inv X pins σ H s) : s.heap.FunFrames X.base X.stack := by
  rcases I.ok.stk with e | ⟨e, hf⟩
  · rw [e]; exact I.funs
  · rw [e]
    obtain ⟨m, hn, _⟩ := I.loc
    refine .cons (by rw [I.ok.kind]; decide) hf hn ?_ I.funs
    exact Heap.get?_none_of_le (Nat.le_trans I.ok.bsz I.ok.above)
theorem Inv.stkSub (I : Inv X pins σ H s) : ∀ b ∈ frs X.stack, b ∈ X.env.locals :: X.fs := fun b hb => by
  rcases I.ok.stk with e | ⟨e, hf⟩
  · rw [e] at hb; exact List.mem_cons_of_mem _ hb
  · rw [e] at hb
    unfold frs at hb
    rw [List.filterMap_cons, hf] at hb
    exact hb
theorem Inv.stkFree (I : Inv X pins σ H s) : ∀ b ∈ frs X.stack, H b = none := fun b hb => by
  rcases List.mem_cons.mp (I.stkSub b hb) with e | hb
  · rw [e]; exact I.free
  · obtain ⟨_, o, ho, _⟩ := I.ok.funs.mem hb
    exact I.base.free b o ho (I.ok.frf b hb) fun z => I.ok.exfs b z hb
theorem Inv.step {g' : Array GenState} {t' : Nat} {d' : Drawn} {ch : List Addr} (I : Inv X pins σ H s)
    (hch : ∀ b ∈ ch, (b ∈ X.ex ∨ X.s₀.heap.objs.size ≤ b) ∧ b ≠ X.env.locals ∧ (∀ x c, X.env.cells.lookup x = some c → c ≠ b) ∧ ∀ p ∈ X.pn ++ pins, p.1 ≠ b)
    (keep : ∀ b o, b ≠ X.env.locals → b ∉ X.fs → b ∉ ch → s.heap.get? b = some o → H b = none → h'.get? b = some o)
    (slot : ∀ b o, b ≠ X.env.locals → b ∈ X.fs → b ∉ ch → s.heap.get? b = some o → H b = none → ∃ sl, h'.get? b = some { o with slots := sl }) (free : ∀ b o, b ∉ ch → s.heap.get? b = some o → H b = none → H' b = none)
    (there : ∀ b o, b ∉ ch → s.heap.get? b = some o → ∃ o', h'.get? b = some o')
    (tups : ∀ b xs, H b = some (.tup xs) → H' b = some (.tup xs)) (frzs : ∀ b o u, H b = some (.frz o u) → H' b = some (.frz o u)) (tbls : ∀ b ps, H b = some (.tbl ps) → ∃ more, H' b = some (.tbl (ps ++ more)))
    (ns : ∀ m, s.heap.Ns X.env.locals m → h'.Ns X.env.locals m) (hok : HOk X.prog X.w H' h') (hg : AllBare g') :
    Inv X pins σ H' { s with heap := h', gens := g', drawn := d', toks := t' } := by
  have neL : ∀ b o, X.s₀.heap.get? b = some o → b ≠ X.env.locals := fun b o e => Nat.ne_of_lt (Nat.lt_of_lt_of_le (Heap.lt_size e) I.ok.above)
  have neC : ∀ b o, X.s₀.heap.get? b = some o → b ∉ X.ex → b ∉ ch := fun b o e hx hb => by
    rcases (hch b hb).1 with z | z
    · exact hx z
    · exact absurd (Nat.lt_of_lt_of_le (Heap.lt_size e) z) (Nat.lt_irrefl _)
  have cellK : ∀ x c, X.env.cells.lookup x = some c → ∀ v, s.heap.IsCell c v → h'.IsCell c v := fun x c e v ⟨o, ho, hd⟩ => by
    have nch : c ∉ ch := fun z => (hch c z).2.2.1 x c e rfl
    by_cases hc : c ∈ X.fs
    · obtain ⟨sl, q⟩ := slot c o (I.cne x c e) hc nch ho (I.freeC x c e)
      exact ⟨_, q, hd⟩
    · exact ⟨o, keep c o (I.cne x c e) hc nch ho (I.freeC x c e), hd⟩
  refine ⟨I.ok, I.os, hg, ⟨fun b o e n hb hx => ?_, fun b o e n hb hx => ?_, fun b o e n hx => ?_, fun b o e hx => ?_, fun b xs e => tups b xs (I.base.tups b xs e), fun b o xs e => frzs b o xs (I.base.frzs b o xs e), fun b ps e => ?_⟩, ?_, fun x c e => ?_, ?_, fun x c e => ?_, fun p hp => ?_, hok, I.len⟩
  · exact keep b o (neL b o e) hb (neC b o e hx) (I.base.keep b o e n hb hx) (I.base.free b o e n hx)
  · obtain ⟨sl, e1⟩ := I.base.slot b o e n hb hx
    obtain ⟨sl', e2⟩ := slot b _ (neL b o e) hb (neC b o e hx) e1 (I.base.free b o e n hx)
    exact ⟨sl', e2⟩
  · obtain ⟨o', e1⟩ := I.base.there b o e hx
    exact free b o' (neC b o e hx) e1 (I.base.free b o e n hx)
  · obtain ⟨o', e1⟩ := I.base.there b o e hx
    exact there b o' (neC b o e hx) e1
  · obtain ⟨m1, e1⟩ := I.base.tbls b ps e
    obtain ⟨m2, e2⟩ := tbls b _ e1
    exact ⟨m1 ++ m2, by rw [e2, Array.append_assoc]⟩
  · obtain ⟨m, hn, hl⟩ := I.loc
    refine ⟨m, ns m hn, fun i x v e1 e2 e3 => ?_⟩
    obtain ⟨u, r, l⟩ := hl i x v e1 e2 e3
    refine ⟨u, r, ?_⟩
    rcases l with l | ⟨k, c, e, z⟩
    · exact .inl l
    · exact .inr ⟨k, c, e, cellK x c e _ z⟩
  · obtain ⟨v, z⟩ := I.cell x c e
    exact ⟨v, cellK x c e v z⟩
  · obtain ⟨m, ⟨o, _, _, ho, _⟩, _⟩ := I.loc
    exact free _ o (fun z => (hch _ z).2.1 rfl) ho I.free
  · obtain ⟨v, o, ho, hd⟩ := I.cell x c e
    exact free c o (fun z => (hch c z).2.2.1 x c e rfl) ho (I.freeC x c e)
  · obtain ⟨e, n, ne, nf, d⟩ := I.pin p hp
    have nch : p.1 ∉ ch := fun z => (hch p.1 z).2.2.2 p hp rfl
    exact ⟨keep p.1 p.2 ne nf nch e n, free p.1 p.2 nch e n, ne, nf, d⟩
theorem Inv.un {t' : Nat} (I : Inv X pins σ H s) (u : Un X.fs [] H H' s.heap h') (hok : HOk X.prog X.w H' h') : Inv X pins σ H' { s with heap := h', toks := t' } := by
  obtain ⟨m, ⟨o, es, ep, ho, r⟩, _⟩ := id I.loc
  obtain ⟨sl, hL⟩ := u.any ho I.free (by simp)
  exact I.step (g' := s.gens) (d' := s.drawn) (ch := []) (fun _ z => nomatch z) (fun b o _ hb _ e n => u.keep b o e n hb (by simp)) (fun b o _ hb _ e n => u.slot b o e n hb (by simp)) (fun b o _ e n => u.free b o e n (by simp)) (fun b o _ e => u.there b o e (by simp)) u.tups u.frzs u.tbls (fun m' hm => by
    obtain ⟨o', es', ep', ho', r'⟩ := hm
    rw [ho] at ho'; cases ho'
    exact ⟨_, es', ep', hL, r'⟩) hok I.bare
theorem Inv.call {g' : Array GenState} {t' : Nat} {d' : Drawn} {ch : List Addr} (I : Inv X pins σ H s) (u : Un (frs X.stack) ch H H' s.heap h') (hok : HOk X.prog X.w H' h') (hg : AllBare g')
    (hch : ∀ b ∈ ch, (b ∈ X.ex ∨ X.s₀.heap.objs.size ≤ b) ∧ b ≠ X.env.locals ∧ (∀ x c, X.env.cells.lookup x = some c → c ≠ b) ∧ ∀ p ∈ X.pn ++ pins, p.1 ≠ b) :
    Inv X pins σ H' { s with heap := h', gens := g', drawn := d', toks := t' } := by
  obtain ⟨m, ⟨o, es, ep, ho, r⟩, _⟩ := id I.loc
  obtain ⟨sl, hL⟩ := u.any ho I.free fun z => (hch _ z).2.1 rfl
  exact I.step (ch := ch) hch (fun b o hL hb hc e n => u.keep b o e n (fun z => (List.mem_cons.mp (I.stkSub b z)).elim hL hb) hc) (fun b o _ _ hc e n => u.any e n hc) (fun b o hc e n => u.free b o e n hc) (fun b o hc e => u.there b o e hc) u.tups u.frzs u.tbls (fun m' hm => by
    obtain ⟨o', es', ep', ho', r'⟩ := hm
    rw [ho] at ho'; cases ho'
    exact ⟨_, es', ep', hL, r'⟩) hok hg
theorem Inv.turned {t' : Nat} {it : Addr} (I : Inv X pins σ H s) (k : ∀ b o, b ≠ it → s.heap.get? b = some o → h'.get? b = some o) (hn : H it = none) (hL : it ≠ X.env.locals)
    (h1 : it ∈ X.ex ∨ X.s₀.heap.objs.size ≤ it) (h2 : ∀ x c, X.env.cells.lookup x = some c → c ≠ it) (h3 : ∀ p ∈ X.pn ++ pins, p.1 ≠ it) : Inv X pins σ H { s with heap := h', toks := t' } := by
  have nit : ∀ b u, H b = some u → b ≠ it := fun b u e z => by rw [z, hn] at e; cases e
  refine I.step (g' := s.gens) (d' := s.drawn) (ch := [it]) (fun b hb => ?_) (fun b o _ _ hc e _ => k b o (fun z => hc (by simp [z])) e) (fun b o _ _ hc e _ => ⟨o.slots, k b o (fun z => hc (by simp [z])) e⟩) (fun _ _ _ _ n => n)
    (fun b o hc e => ⟨o, k b o (fun z => hc (by simp [z])) e⟩) (fun _ _ e => e) (fun _ _ _ e => e) (fun b ps e => ⟨#[], by rw [e]; simp⟩) (fun m hm => ?_) (fun b u e => ?_) I.bare
  · have e : b = it := by simpa using hb
    subst e
    exact ⟨h1, hL, h2, h3⟩
  · obtain ⟨o, es, ep, ho, r⟩ := hm
    exact ⟨o, es, ep, k _ o (Ne.symm hL) ho, r⟩
  · refine (I.hok b u e).stay (fun c v hc q => k c v ?_ q) (fun _ q => q) fun _ _ q => q
    rcases hc with z | z
    · rw [z]; exact nit b u e
    · exact nit c _ z
theorem Inv.tok (I : Inv X pins σ H s) (t : Nat) : Inv X pins σ H { s with toks := t } := I.un (h' := s.heap) (t' := t) Un.refl I.hok
theorem Inv.kept {t' : Nat} (I : Inv X pins σ H s) (k : ∀ b u, s.heap.get? b = some u → h'.get? b = some u) : Inv X pins σ H { s with heap := h', toks := t' } := I.un (Un.kept k) (I.hok.kept k)
theorem Inv.laid {a : Addr} {o : HO} {t' : Nat} (I : Inv X pins σ H s) (k : ∀ b u, s.heap.get? b = some u → h'.get? b = some u) (hp : s.heap.objs.size ≤ a) (new : ObjOk X.prog X.w (upd H a o) h' a o) :
    Inv X pins σ (upd H a o) { s with heap := h', toks := t' } := I.un (Un.laid k hp (I.hok.fresh hp)) (I.hok.laid k hp new)
theorem Inv.write {x e : Addr} {o : HO} {t' : Nat} (I : Inv X pins σ H s) (mu : Mut (H x)) (he : e = x ∨ H e = some (.own x)) (k : ∀ b u, b ≠ e → s.heap.get? b = some u → h'.get? b = some u) (heo : ∃ u, h'.get? e = some u)
    (new : ObjOk X.prog X.w (upd H x o) h' x o) : Inv X pins σ (upd H x o) { s with heap := h', toks := t' } := I.un (Un.write mu he k heo) (I.hok.write mu he k heo new)
theorem Inv.weak {σ' : List (Option V)} (I : Inv X pins σ H s) (hl : σ'.length = σ.length) (w : ∀ (i : Nat) v, σ'[i]? = some (some v) → σ[i]? = some (some v)) : Inv X pins σ' H s :=
  ⟨I.ok, I.os, I.bare, I.base, let ⟨m, hn, hl'⟩ := I.loc; ⟨m, hn, fun i x v e1 e2 e3 => hl' i x v e1 (w i v e2) e3⟩, I.cell, I.free, I.freeC, I.pin, I.hok, hl.trans I.len⟩
theorem Inv.pins_of {pins' : List (Addr × Obj)} (I : Inv X pins σ H s) (h : ∀ p ∈ pins', s.heap.get? p.1 = some p.2 ∧ H p.1 = none ∧ p.1 ≠ X.env.locals ∧ p.1 ∉ X.fs ∧ ∀ v, p.2.data ≠ .cell v) : Inv X pins' σ H s :=
  ⟨I.ok, I.os, I.bare, I.base, I.loc, I.cell, I.free, I.freeC, fun p hp => (List.mem_append.mp hp).elim (fun z => I.pin p (List.mem_append_left _ z)) (h p), I.hok, I.len⟩
theorem nodup_ix {N : List Str} (hN : N.Nodup) {i j : Nat} {x : Str} (a : N[i]? = some x) (b : N[j]? = some x) : i = j := by
  obtain ⟨h1, e1⟩ := List.getElem?_eq_some_iff.mp a
  obtain ⟨h2, e2⟩ := List.getElem?_eq_some_iff.mp b
  exact (List.getElem_inj hN).mp (e1.trans e2.symm)
theorem store_ok2 {M : Model} {A : Around} {E : Value → Shared → Prop} {i : Nat} {x : Str} {v : V} {u : Value} {Q : Unit → Shared → Prop} (I : Inv X pins σ H s) (hN : X.N.Nodup) (hi : X.N[i]? = some x) (hx : Loc X.env.scope x) (r : RelV v u)
    (h : ∀ s', Inv X pins (σ.set i (some v)) H s' → (∃ a, Heap.SameBut a s.heap s'.heap ∧ (a = X.env.locals ∨ X.env.cells.lookup x = some a)) → Q () s') (hf : X.fn x = true ∨ X.env.scope.names.lookup x = some .local := by first | exact .inl rfl | exact .inr rfl | assumption) : wpAny M A (storeName X.env x u) Q E s := by
  obtain ⟨m, hn, hl⟩ := id I.loc
  have hcls : (X.env.scope.kind == .class || (X.env.scope.kind == .module && X.env.locals != X.env.globals)) = false := by rw [I.ok.kind]; rfl
  have hiσ : i < σ.length := by rw [I.len]; exact (List.getElem?_eq_some_iff.mp hi).1
  have cne := I.cne
  have tracked : ∀ {a : Addr} {h' : Heap}, (∃ o, s.heap.get? a = some o ∧ H a = none) → Heap.SameBut a s.heap h' → HOk X.prog X.w H h' := fun {a h'} ha hs b ob e => by
    obtain ⟨_, _, hfree⟩ := ha
    refine (I.hok b ob e).stay (fun c w' hc q => (hs.2 c ?_).trans q) (fun _ q => q) fun _ _ q => q
    rintro rfl
    rcases hc with rfl | hc
    · rw [hfree] at e; cases e
    · rw [hfree] at hc; cases hc
  rcases hx with hk | hk
  · refine wpAny_storeName_local hk hn (fun h' hn' hs => ?_) hcls
    obtain ⟨oL, _, _, hoL, _⟩ := id hn
    refine h _ ⟨I.ok, I.os, I.bare, ⟨fun b o e n hb hx => ?_, fun b o e n hb hx => ?_, I.base.free, fun b o e hx => ?_, I.base.tups, I.base.frzs, I.base.tbls⟩, ⟨_, hn', fun j y v' e1 e2 e3 => ?_⟩, fun y c e => ?_, I.free, I.freeC, fun p hp => ?_, tracked ⟨oL, hoL, I.free⟩ hs, by simpa using I.len⟩ ⟨_, hs, .inl rfl⟩
    · exact (hs.2 b (Nat.ne_of_lt (Nat.lt_of_lt_of_le (Heap.lt_size e) I.ok.above))).trans (I.base.keep b o e n hb hx)
    · obtain ⟨sl, e1⟩ := I.base.slot b o e n hb hx
      exact ⟨sl, (hs.2 b (Nat.ne_of_lt (Nat.lt_of_lt_of_le (Heap.lt_size e) I.ok.above))).trans e1⟩
    · obtain ⟨o', e1⟩ := I.base.there b o e hx
      exact ⟨o', (hs.2 b (Nat.ne_of_lt (Nat.lt_of_lt_of_le (Heap.lt_size e) I.ok.above))).trans e1⟩
    · by_cases hj : j = i
      · subst hj
        rw [hi] at e1; cases e1
        rw [List.getElem?_set_self hiσ] at e2
        cases e2
        exact ⟨u, r, .inl ⟨hk, by simp⟩⟩
      · rw [List.getElem?_set_ne (Ne.symm hj)] at e2
        obtain ⟨u', r', q⟩ := hl j y v' e1 e2 e3
        refine ⟨u', r', ?_⟩
        rcases q with ⟨k, e⟩ | ⟨k, c, e, z⟩
        · refine .inl ⟨k, ?_⟩
          have : y ≠ x := fun e => hj (nodup_ix hN e1 (e ▸ hi))
          simp [this, e]
        · exact .inr ⟨k, c, e, z.sameBut hs (cne y c e)⟩
    · obtain ⟨w', z⟩ := I.cell y c e
      exact ⟨w', z.sameBut hs (cne y c e)⟩
    · obtain ⟨e, n, ne, nf, d⟩ := I.pin p hp
      exact ⟨(hs.2 p.1 ne).trans e, n, ne, nf, d⟩
  · have hfn : X.fn x = true := by
      rcases hf with z | z
      · exact z
      · rw [z] at hk; cases hk
    obtain ⟨c, hc⟩ := I.ok.has x (.inl hk)
    obtain ⟨w', z⟩ := I.cell x c hc
    refine wpAny_storeName_cell I.ok.kind hk hc z (fun h' hc' hs => ?_)
    obtain ⟨oc, hoc, hocd⟩ := id z
    refine h { s with heap := h' } ⟨I.ok, I.os, I.bare, ⟨fun b o e n hb hx => ?_, fun b o e n hb hx => ?_, I.base.free, fun b o e hx => ?_, I.base.tups, I.base.frzs, I.base.tbls⟩, ⟨m, hn.sameBut hs (Ne.symm (cne x c hc)), fun j y v' e1 e2 e3 => ?_⟩, fun y c' e => ?_, I.free, I.freeC, fun p hp => ?_, tracked ⟨oc, hoc, I.freeC x c hc⟩ hs, by simpa using I.len⟩ ⟨c, hs, .inr hc⟩
    · exact (hs.2 b (Nat.ne_of_lt (Nat.lt_of_lt_of_le (Heap.lt_size e) (I.ok.cab x c hfn hc)))).trans (I.base.keep b o e n hb hx)
    · obtain ⟨sl, e1⟩ := I.base.slot b o e n hb hx
      exact ⟨sl, (hs.2 b (Nat.ne_of_lt (Nat.lt_of_lt_of_le (Heap.lt_size e) (I.ok.cab x c hfn hc)))).trans e1⟩
    · obtain ⟨o', e1⟩ := I.base.there b o e hx
      exact ⟨o', (hs.2 b (Nat.ne_of_lt (Nat.lt_of_lt_of_le (Heap.lt_size e) (I.ok.cab x c hfn hc)))).trans e1⟩
    · by_cases hj : j = i
      · subst hj
        rw [hi] at e1; cases e1
        rw [List.getElem?_set_self hiσ] at e2
        cases e2
        exact ⟨u, r, .inr ⟨.inl hk, c, hc, hc'⟩⟩
      · rw [List.getElem?_set_ne (Ne.symm hj)] at e2
        obtain ⟨u', r', q⟩ := hl j y v' e1 e2 e3
        refine ⟨u', r', ?_⟩
        rcases q with q | ⟨k, c', e, z'⟩
        · exact .inl q
        · refine .inr ⟨k, c', e, z'.sameBut hs ?_⟩
          rintro rfl
          exact hj (nodup_ix hN e1 (I.ok.inj _ _ _ e hc ▸ hi))
    · by_cases hcc : c' = c
      · subst hcc; exact ⟨_, hc'⟩
      · obtain ⟨w2, z2⟩ := I.cell y c' e
        exact ⟨w2, z2.sameBut hs hcc⟩
    · obtain ⟨e, n, ne, nf, d⟩ := I.pin p hp
      refine ⟨(hs.2 p.1 ?_).trans e, n, ne, nf, d⟩
      intro q
      rw [q, hoc] at e
      have q' : oc = p.2 := Option.some.inj e
      exact d w' (by rw [← q']; exact hocd)
theorem store_ok {M : Model} {A : Around} {E : Value → Shared → Prop} {i : Nat} {x : Str} {v : V} {u : Value} {Q : Unit → Shared → Prop} (I : Inv X pins σ H s) (hN : X.N.Nodup) (hi : X.N[i]? = some x) (hx : Loc X.env.scope x) (r : RelV v u)
    (h : ∀ s', Inv X pins (σ.set i (some v)) H s' → Q () s') (hf : X.fn x = true ∨ X.env.scope.names.lookup x = some .local := by first | exact .inl rfl | exact .inr rfl | assumption) : wpAny M A (storeName X.env x u) Q E s :=
  store_ok2 I hN hi hx r (fun s' I' _ => h s' I') hf
theorem Inv.call' {s' : Shared} {ch : List Addr} (I : Inv X pins σ H s) (ho : s'.os = s.os) (u : Un (frs X.stack) ch H H' s.heap s'.heap) (hok : HOk X.prog X.w H' s'.heap) (hg : AllBare s'.gens)
    (hch : ∀ b ∈ ch, (b ∈ X.ex ∨ X.s₀.heap.objs.size ≤ b) ∧ b ≠ X.env.locals ∧ (∀ x c, X.env.cells.lookup x = some c → c ≠ b) ∧ ∀ p ∈ X.pn ++ pins, p.1 ≠ b) : Inv X pins σ H' s' := by
  obtain ⟨h', g', d', t', o'⟩ := s'
  have e : o' = s.os := ho
  subst e
  exact I.call (g' := g') (t' := t') (d' := d') u hok hg hch
end
abbrev XK := Value → Option Addr → Hp → Prop
abbrev St := List (Option V)
abbrev VK := V → Hp → Prop
abbrev TE := St → Hp → VK → Prop
abbrev TT := St → Hp → (Bool → Hp → Prop) → Prop
abbrev TA := St → Hp → (List V → Hp → Prop) → Prop
structure Ends where
  nx : St → Hp → Prop
  rt : VK
  bk : St → Hp → Prop := fun _ _ => False
  ct : St → Hp → Prop := fun _ _ => False
abbrev TS := Ends → St → Hp → Prop
def EP (X : Cx) (pins : List (Addr × Obj)) (σ : St) (Q : VK) (u : Value) (s' : Shared) : Prop := ∃ v H', Inv X pins σ H' s' ∧ RelV v u ∧ Q v H'
def TP (X : Cx) (pins : List (Addr × Obj)) (σ : St) (Q : Bool → Hp → Prop) (b : Bool) (s' : Shared) : Prop := ∃ H', Inv X pins σ H' s' ∧ Q b H'
def AP (X : Cx) (pins : List (Addr × Obj)) (σ : St) (Q : List V → Hp → Prop) (us : List Value) (s' : Shared) : Prop := ∃ vs H', Inv X pins σ H' s' ∧ Vals vs us ∧ Q vs H'
def SP (X : Cx) (pins : List (Addr × Obj)) (D : Ends) (f : Flow) (s' : Shared) : Prop :=
  match f with
  | .next => ∃ σ' H', Inv X pins σ' H' s' ∧ D.nx σ' H'
  | .brk => ∃ σ' H', Inv X pins σ' H' s' ∧ D.bk σ' H'
  | .cont => ∃ σ' H', Inv X pins σ' H' s' ∧ D.ct σ' H'
  | .ret u => ∃ v σ' H', Inv X pins σ' H' s' ∧ RelV v u ∧ D.rt v H'
def PE (X : Cx) (e : Expr) (t : TE) : Prop :=
  ∀ (pins : List (Addr × Obj)) (s : Shared) (σ : St) (H : Hp) (Q : VK), Inv X pins σ H s → t σ H Q → wpAny (model X.prog X.w) X.A (eval e X.env) (EP X pins σ Q) X.xe s
def PT (X : Cx) (e : Expr) (t : TT) : Prop :=
  ∀ (pins : List (Addr × Obj)) (s : Shared) (σ : St) (H : Hp) (Q : Bool → Hp → Prop), Inv X pins σ H s → t σ H Q → wpAny (model X.prog X.w) X.A (isTrue e X.env (eval e X.env)) (TP X pins σ Q) X.xe s
def PW (X : Cx) (e : Expr) (t : TT) : Prop :=
  ∀ (whole : Sem Value) (pins : List (Addr × Obj)) (s : Shared) (σ : St) (H : Hp) (Q : Bool → Hp → Prop), Inv X pins σ H s → t σ H Q → wpAny (model X.prog X.w) X.A (isTrue e X.env whole) (TP X pins σ Q) X.xe s
theorem PW.pt {X : Cx} {e : Expr} {t : TT} (h : PW X e t) : PT X e t := h _
def PA (X : Cx) (es : List Expr) (t : TA) : Prop :=
  ∀ (pos : Pos) (pins : List (Addr × Obj)) (s : Shared) (σ : St) (H : Hp) (Q : List V → Hp → Prop), Inv X pins σ H s → t σ H Q → wpAny (model X.prog X.w) X.A (spliced (backTo pos (starEach es X.env))) (AP X pins σ Q) X.xe s
def PS (X : Cx) (st : Stmt) (t : TS) : Prop :=
  ∀ (pins : List (Addr × Obj)) (s : Shared) (σ : St) (H : Hp) (D : Ends), Inv X pins σ H s → t D σ H → wpAny (model X.prog X.w) X.A (exec st X.env) (SP X pins D) X.xe s
def PSs (X : Cx) (st : List Stmt) (t : TS) : Prop :=
  ∀ (pins : List (Addr × Obj)) (s : Shared) (σ : St) (H : Hp) (D : Ends), Inv X pins σ H s → t D σ H → wpAny (model X.prog X.w) X.A (execs st X.env) (SP X pins D) X.xe s
theorem thn {α : Type} {t : Sem α} {Q Q' : α → Shared → Prop} {M : Model} {A : Around} {E : Value → Shared → Prop} {s : Shared} (h : wpAny M A t Q E s) (hQ : ∀ a s, Q a s → Q' a s) : wpAny M A t Q' E s := wpAny_mono h hQ fun _ _ x => x
end L2
namespace L2
open PySem PySem.Spec PyProof.Rows
section
variable {X : Cx}
def tVar (i : Nat) : TE := fun σ H Q => ∃ v, σ[i]? = some (some v) ∧ Q v H
def tC (v : V) : TE := fun _ H Q => Q v H
theorem pe_var {i : Nat} {x : Str} {pos : Pos} (hN : X.N[i]? = some x) (hv : Vis X.env.scope x) (hd : (x == ("__debug__" : Str)) = false := by decide) (hcd : (x == ("__classdict__" : Str)) = false := by decide) : PE X (.Name x pos) (tVar i) := by
  intro pins s σ H Q I h
  obtain ⟨v, e, h⟩ := h
  obtain ⟨m, hn, hl⟩ := I.loc
  obtain ⟨u, r, l⟩ := hl i x v hN e hv
  have fin : EP X pins σ Q u s := ⟨v, H, I, r, h⟩
  rcases l with ⟨hk, hm⟩ | ⟨hk, c, hc, hcell⟩
  · exact wpAny_Name (wpAny_loadName_local I.ok.kind hk hn hm fin) hd
  · rcases hk with hk | hk
    · exact wpAny_Name (wpAny_loadName_cell I.ok.kind hk hc hcell fin) hd
    · exact wpAny_Name (wpAny_loadName_free I.ok.kind hk hc hcell fin hcd) hd
theorem pe_int {i j pos} : PE X (.Constant (.int i) j pos) (tC (.int i)) := fun _ _ _ H _ I h => wpAny_Constant_int ⟨.int i, H, I.tok _, ⟨_, rfl⟩, h⟩
theorem pe_bl {b j pos} : PE X (.Constant (.bool b) j pos) (tC (.bl b)) := fun _ _ _ H _ I h => Constant_bool ⟨.bl b, H, I, rfl, h⟩
theorem pe_str {x j pos} : PE X (.Constant (.str x) j pos) (tC (.str x)) := fun _ _ _ H _ I h => Calls.Constant_str ⟨.str x, H, I.tok _, ⟨_, rfl⟩, h⟩
def Gl (X : Cx) (x : Str) : Prop := X.env.kindOf x = some .globalImplicit
theorem ld_glob {E : Value → Shared → Prop} {pins : List (Addr × Obj)} {s : Shared} {σ : St} {H : Hp} {x : Str} {u : Value} {pos : Pos} {Q : Value → Shared → Prop} (I : Inv X pins σ H s) (hg : Gl X x) (hm : X.mg x = some u) (h : Q u s)
    (hd : (x == ("__debug__" : Str)) = false := by decide) : wpAny (model X.prog X.w) X.A (eval (.Name x pos) X.env) Q E s :=
  Calls.Name_function_global I.ok.kind hg (Calls.loadGlobal_global (by rw [I.ok.glob]; exact I.mod.glob.keeps I.bk) hm h) hd
theorem ld_blt {E : Value → Shared → Prop} {pins : List (Addr × Obj)} {s : Shared} {σ : St} {H : Hp} {x : Str} {u : Value} {pos : Pos} {Q : Value → Shared → Prop} (I : Inv X pins σ H s) (hg : Gl X x) (hm : X.mg x = none) (hv : bootBuiltins x = some u) (h : Q u s)
    (hn : x ≠ "__name__" := by decide) (hd : (x == ("__debug__" : Str)) = false := by decide) : wpAny (model X.prog X.w) X.A (eval (.Name x pos) X.env) Q E s := by
  obtain ⟨mb, h1, h2⟩ := I.mod.blt
  exact Calls.Name_function_global I.ok.kind hg (Calls.loadGlobal_builtin (by rw [I.ok.glob]; exact I.mod.glob.keeps I.bk) hm (by rw [I.ok.blt]; exact h1.keeps I.bk) ((h2 x hn).trans hv) h) hd
theorem pe_glob {x : Str} {v : V} {u : Value} {pos : Pos} (hg : Gl X x) (hm : X.mg x = some u) (r : RelV v u) (hd : (x == ("__debug__" : Str)) = false := by decide) : PE X (.Name x pos) (tC v) :=
  fun _ _ _ H _ I h => ld_glob I hg hm ⟨v, H, I, r, h⟩ hd
theorem pe_bltn {x : Str} {v : V} {u : Value} {pos : Pos} (hg : Gl X x) (hm : X.mg x = none) (hv : bootBuiltins x = some u) (r : RelV v u) (hn : x ≠ "__name__" := by decide) (hd : (x == ("__debug__" : Str)) = false := by decide) : PE X (.Name x pos) (tC v) :=
  fun _ _ _ H _ I h => ld_blt I hg hm hv ⟨v, H, I, r, h⟩ hn hd
variable {a b : Expr} {ta tb : TE} {pos : Pos}
def tB (t : TE) : TT := fun σ H Q => t σ H fun x H1 => ∃ c, x = .bl c ∧ Q c H1
theorem pt_val {e : Expr} {t : TE} (h : PE X e t) (he : ∀ whole, isTrue e X.env whole = (do let v ← whole; standAt e.pos; holding [v] (truthy v)) := by intro _; rfl) : PT X e (tB t) := by
  intro pins s σ H Q I hw
  refine isTrue_plain (thn (h pins s σ H _ I hw) fun v s1 ⟨x, H1, I1, r1, q1⟩ => ?_) (he _)
  obtain ⟨d, rfl, q⟩ := q1
  cases r1
  exact wpAny_truthy_bool ⟨H1, I1, q⟩
variable {tA tB' : TT} {rest : List Expr}
def tAnd (t u : TT) : TT := fun σ H Q => t σ H fun c H1 => if c = true then u σ H1 Q else Q false H1
def tOr (t u : TT) : TT := fun σ H Q => t σ H fun c H1 => if c = true then Q true H1 else u σ H1 Q
def tNot (t : TT) : TT := fun σ H Q => t σ H fun c H1 => Q (!c) H1
theorem pw_and1 (ha : PT X a tA) : PW X (.BoolOp .And [a] pos) tA := by
  intro wh pins s σ H Q I h
  refine isTrue_and (thn (ha pins s σ H Q I h) fun c s1 e => ?_)
  cases c with
  | true => exact isTrue_and_nil e
  | false => exact e
theorem pw_or1 (ha : PT X a tA) : PW X (.BoolOp .Or [a] pos) tA := by
  intro wh pins s σ H Q I h
  refine isTrue_or (thn (ha pins s σ H Q I h) fun c s1 e => ?_)
  cases c with
  | false => exact isTrue_or_nil e
  | true => exact e
theorem pw_and (ha : PT X a tA) (hb : PW X (.BoolOp .And (b :: rest) pos) tB') : PW X (.BoolOp .And (a :: b :: rest) pos) (tAnd tA tB') := by
  intro wh pins s σ H Q I h
  refine isTrue_and (thn (ha pins s σ H _ I h) fun c s1 ⟨H1, I1, q1⟩ => ?_)
  cases c with
  | true => exact hb wh pins s1 σ H1 Q I1 q1
  | false => exact ⟨H1, I1, q1⟩
theorem pw_or (ha : PT X a tA) (hb : PW X (.BoolOp .Or (b :: rest) pos) tB') : PW X (.BoolOp .Or (a :: b :: rest) pos) (tOr tA tB') := by
  intro wh pins s σ H Q I h
  refine isTrue_or (thn (ha pins s σ H _ I h) fun c s1 ⟨H1, I1, q1⟩ => ?_)
  cases c with
  | true => exact ⟨H1, I1, q1⟩
  | false => exact hb wh pins s1 σ H1 Q I1 q1
theorem pt_not (ha : PT X a tA) : PT X (.UnaryOp .Not a pos) (tNot tA) := by
  intro pins s σ H Q I h
  exact isTrue_not (ha pins s σ H (fun c H1 => Q (!c) H1) I h)
def tAndV (ta tb : TE) : TE := fun σ H Q => ta σ H fun x H1 => ∃ c, x = .bl c ∧ if c = true then tb σ H1 Q else Q (.bl false) H1
def tOrV (ta tb : TE) : TE := fun σ H Q => ta σ H fun x H1 => ∃ c, x = .bl c ∧ if c = true then Q (.bl true) H1 else tb σ H1 Q
theorem pe_one {op} {t : TE} (h : PE X a t) : PE X (.BoolOp op [a] pos) t := fun pins s σ H Q I hw => BoolOp_one (h pins s σ H Q I hw)
theorem pe_and (ha : PE X a ta) (hb : PE X (.BoolOp .And (b :: rest) pos) tb) : PE X (.BoolOp .And (a :: b :: rest) pos) (tAndV ta tb) := by
  intro pins s σ H Q I h
  refine BoolOp_and (thn (ha pins s σ H _ I h) fun v s1 ⟨x, H1, I1, r1, q1⟩ => ?_)
  obtain ⟨c, rfl, q1⟩ := q1
  cases r1
  refine wpAny_truthy_bool ?_
  cases c with
  | true => exact hb pins s1 σ H1 Q I1 q1
  | false => exact ⟨.bl false, H1, I1, rfl, q1⟩
theorem pe_or (ha : PE X a ta) (hb : PE X (.BoolOp .Or (b :: rest) pos) tb) : PE X (.BoolOp .Or (a :: b :: rest) pos) (tOrV ta tb) := by
  intro pins s σ H Q I h
  refine BoolOp_or (thn (ha pins s σ H _ I h) fun v s1 ⟨x, H1, I1, r1, q1⟩ => ?_)
  obtain ⟨c, rfl, q1⟩ := q1
  cases r1
  refine wpAny_truthy_bool ?_
  cases c with
  | false => exact hb pins s1 σ H1 Q I1 q1
  | true => exact ⟨.bl true, H1, I1, rfl, q1⟩
end
end L2
namespace L2
open PySem PySem.Spec PyProof.Rows
def SqL (K : PySem.W.Frag) (H : Hp) (a : Addr) (xs : List V) : Prop :=
  Rd H a (.lst xs) ∨
    ∃ (o : Obj) (its : Array Value) (n : Nat), K.lookup a = some o ∧ o.cls = .type "list" ∧ o.dict = none ∧ o.data = .seq its n ∧ its.size ≤ sizeLine ∧ Vals xs its.toList
def SqT (K : PySem.W.Frag) (H : Hp) (a : Addr) (xs : List V) : Prop :=
  Rd H a (.tup xs) ∨
    ∃ (o : Obj) (its : Array Value) (n : Nat), K.lookup a = some o ∧ o.cls = .type "tuple" ∧ o.data = .seq its n ∧ its.size ≤ sizeLine ∧ Vals xs its.toList
def absV : Value → Option V
  | .none => some .non
  | .bool b => some (.bl b)
  | .int i _ => some (.int i)
  | .str x _ => some (.str x)
  | .bytes b _ => some (.byt b)
  | .float b _ => some (.flt b)
  | .ref a => some (.ref a)
  | .type n => some (.ty n)
  | _ => none
theorem RelV.abs {x : V} {u : Value} (r : RelV x u) : absV u = some x := by
  cases x with
  | non => cases r; rfl
  | bl _ => cases r; rfl
  | int _ => obtain ⟨t, rfl⟩ := r; rfl
  | str _ => obtain ⟨t, rfl⟩ := r; rfl
  | byt _ => obtain ⟨t, rfl⟩ := r; rfl
  | flt _ => obtain ⟨t, rfl⟩ := r; rfl
  | ref _ => cases r; rfl
  | ty _ => cases r; rfl
theorem RelV.inj {x y : V} {u : Value} (r : RelV x u) (q : RelV y u) : x = y := Option.some.inj (r.abs.symm.trans q.abs)
theorem Vals.inj : ∀ {xs ys : List V} {us : List Value}, Vals xs us → Vals ys us → xs = ys
  | _, _, _, .nil, .nil => rfl
  | _, _, _, .cons r t, .cons r' t' => by rw [r.inj r', Vals.inj t t']
section
variable {X : Cx} {pins : List (Addr × Obj)} {σ : St} {H : Hp} {s : Shared} {a : Addr} {xs ys : List V}
theorem SqL.of {K : PySem.W.Frag} (h : H a = some (.lst xs)) : SqL K H a xs := .inl (.inl h)
theorem SqT.of {K : PySem.W.Frag} (h : H a = some (.tup xs)) : SqT K H a xs := .inl (.inl h)
theorem Inv.list (I : Inv X pins σ H s) (h : SqL X.K H a xs) : ∃ its : List Value, Vals xs its ∧ PlainL s.heap a its.toArray ∧ xs.length ≤ sizeLine := by
  rcases h with h | ⟨o, its, n, hk, hc, hd, hs, hz, r⟩
  · obtain ⟨z, its, n, r, e⟩ := h.ok I.hok
    exact ⟨its, r, ⟨_, n, e, rfl, rfl, rfl⟩, z⟩
  · refine ⟨its.toList, r, ⟨o, n, I.kIn a o hk, hc, hd, by simpa using hs⟩, ?_⟩
    have e := r.length
    simp only [Array.length_toList] at e
    omega
theorem Inv.tuple (I : Inv X pins σ H s) (h : SqT X.K H a xs) : ∃ its : List Value, Vals xs its ∧ IsTup s.heap a its.toArray ∧ xs.length ≤ sizeLine := by
  rcases h with h | ⟨o, its, n, hk, hc, hs, hz, r⟩
  · obtain ⟨z, its, r, p⟩ := h.ok I.hok
    exact ⟨its, r, p, z⟩
  · refine ⟨its.toList, r, ⟨o, I.kIn a o hk, hc, n, by simpa using hs⟩, ?_⟩
    have e := r.length
    simp only [Array.length_toList] at e
    omega
theorem Inv.list_inj (I : Inv X pins σ H s) (h : SqL X.K H a xs) (h' : SqL X.K H a ys) : xs = ys := by
  obtain ⟨its, r, ⟨o, n, e, _, _, d⟩, _⟩ := I.list h
  obtain ⟨its', r', ⟨o', n', e', _, _, d'⟩, _⟩ := I.list h'
  rw [e] at e'; cases e'
  rw [d] at d'
  injection d' with d1 _
  have : its = its' := by simpa using congrArg Array.toList d1
  subst this
  exact r.inj r'
end
abbrev Cx.wish (X : Cx) (E : Value → Shared → Prop) : Cx := { X with xe := E }
abbrev Cx.nox (X : Cx) : Cx := X.wish fun _ _ => False
theorem Cx.Ok.wish {X : Cx} (ok : X.Ok) (E : Value → Shared → Prop) : (X.wish E).Ok :=
  ⟨ok.mod, ok.kind, ok.glob, ok.blt, ok.above, ok.inj, ok.has, ok.cab, ok.hd, ok.frames, ok.stk, ok.exf, ok.bs, ok.bsz, ok.noex, ok.exfs, ok.funs, ok.frf⟩
theorem Cx.Ok.unwish {X : Cx} {E : Value → Shared → Prop} (ok : (X.wish E).Ok) : X.Ok :=
  ⟨ok.mod, ok.kind, ok.glob, ok.blt, ok.above, ok.inj, ok.has, ok.cab, ok.hd, ok.frames, ok.stk, ok.exf, ok.bs, ok.bsz, ok.noex, ok.exfs, ok.funs, ok.frf⟩
section
variable {X : Cx} {pins : List (Addr × Obj)} {σ : St} {H : Hp} {s : Shared} {E : Value → Shared → Prop}
theorem Inv.wish (I : Inv X pins σ H s) (E : Value → Shared → Prop) : Inv (X.wish E) pins σ H s := ⟨I.ok.wish E, I.os, I.bare, I.base, I.loc, I.cell, I.free, I.freeC, I.pin, I.hok, I.len⟩
theorem Inv.unwish (I : Inv (X.wish E) pins σ H s) : Inv X pins σ H s := ⟨I.ok.unwish, I.os, I.bare, I.base, I.loc, I.cell, I.free, I.freeC, I.pin, I.hok, I.len⟩
theorem SP.unwish {D : Ends} {f : Flow} {s' : Shared} (h : SP (X.wish E) pins D f s') : SP X pins D f s' := by
  cases f with
  | next => obtain ⟨σ', H', I, q⟩ := h; exact ⟨σ', H', I.unwish, q⟩
  | brk => obtain ⟨σ', H', I, q⟩ := h; exact ⟨σ', H', I.unwish, q⟩
  | cont => obtain ⟨σ', H', I, q⟩ := h; exact ⟨σ', H', I.unwish, q⟩
  | ret u => obtain ⟨v, σ', H', I, r, q⟩ := h; exact ⟨v, σ', H', I.unwish, r, q⟩
theorem PSs.nox {st : List Stmt} {t : TS} (h : PSs X.nox st t) : PSs X st t := fun pins s σ H D I hw =>
  wpAny_mono (h pins s σ H D (I.wish _) hw) (fun _ _ q => q.unwish) fun _ _ z => False.elim z
end
section
variable {X : Cx} {st : Stmt} {rest : List Stmt} {t u : TS} {e : Expr} {te : TE} {pos : Pos}
def tNext : TS := fun D σ H => D.nx σ H
def tSeq (t u : TS) : TS := fun D σ H => t { D with nx := u D } σ H
theorem pss_nil : PSs X [] tNext := fun _ _ σ H _ I h => wpAny_execs_nil ⟨σ, H, I, h⟩
theorem pss_cons (h1 : PS X st t) (h2 : PSs X rest u) : PSs X (st :: rest) (tSeq t u) := by
  intro pins s σ H D I h
  refine wpAny_execs_cons (thn (h1 pins s σ H { D with nx := u D } I h) fun f s1 q => ?_)
  cases f with
  | next =>
    obtain ⟨σ', H', I', q⟩ := q
    exact h2 pins s1 σ' H' D I' q
  | ret v => exact q
  | brk => exact q
  | cont => exact q
theorem pss_one (h1 : PS X st t) : PSs X [st] t := by
  intro pins s σ H D I h
  refine wpAny_execs_cons (thn (h1 pins s σ H D I h) fun f s1 q => ?_)
  cases f with
  | next => exact wpAny_execs_nil q
  | ret v => exact q
  | brk => exact q
  | cont => exact q
theorem Inv.quiet {pins : List (Addr × Obj)} {σ : St} {H : Hp} {s : Shared} (I : Inv X pins σ H s) : interactive X.env = false := by simp [interactive, I.ok.kind]
def tDrop (te : TE) : TS := fun D σ H => te σ H fun _ H1 => D.nx σ H1
theorem ps_expr (he : PE X e te) (hs : swapsWith e none pos.line X.env = pure false := by rfl) : PS X (.Expr e pos) (tDrop te) := by
  intro pins s σ H D I h
  exact wpAny_Expr_any (thn (he pins s σ H _ I h) fun v s1 ⟨x, H1, I1, r1, q1⟩ => ⟨σ, H1, I1, q1⟩) I.quiet hs
def tRet (te : TE) : TS := fun D σ H => te σ H D.rt
theorem ps_ret (he : PE X e te) : PS X (.Return (some e) pos) (tRet te) := by
  intro pins s σ H D I h
  exact wpAny_Return_some (thn (he pins s σ H _ I h) fun v s1 ⟨x, H1, I1, r1, q1⟩ => ⟨x, σ, H1, I1, r1, q1⟩)
def tIfS (c : TT) (t u : TS) : TS := fun D σ H => c σ H fun b H1 => if b = true then t D σ H1 else u D σ H1
theorem ps_if {c : Expr} {a b : List Stmt} {tc : TT} (hc : PT X c tc) (ha : PSs X a t) (hb : PSs X b u) : PS X (.If c a b pos) (tIfS tc t u) := by
  intro pins s σ H D I h
  refine wpAny_If (thn (hc pins s σ H _ I h) fun d s1 ⟨H1, I1, q1⟩ => ?_)
  cases d with
  | true => exact ha pins s1 σ H1 D I1 q1
  | false => exact hb pins s1 σ H1 D I1 q1
def tNever : TS := fun _ _ _ => False
theorem pss_never {sts : List Stmt} : PSs X sts tNever := fun _ _ _ _ _ _ h => h.elim
end
abbrev TG := V → St → Hp → (St → Hp → Prop) → Prop
abbrev TGs := List V → St → Hp → (St → Hp → Prop) → Prop
def PG (X : Cx) (target : Expr) (t : TG) : Prop :=
  ∀ (pins : List (Addr × Obj)) (s : Shared) (σ : St) (H : Hp) (v : V) (u : Value) (Q : St → Hp → Prop), Inv X pins σ H s → RelV v u → t v σ H Q →
    wpAny (model X.prog X.w) X.A (assign target X.env u) (fun _ s' => ∃ σ' H', Inv X pins σ' H' s' ∧ Q σ' H') X.xe s
def PGs (X : Cx) (ts : List Expr) (t : TGs) : Prop :=
  ∀ (pins : List (Addr × Obj)) (s : Shared) (σ : St) (H : Hp) (vs : List V) (us : List Value) (Q : St → Hp → Prop), Inv X pins σ H s → Vals vs us → t vs σ H Q →
    wpAny (model X.prog X.w) X.A (assignInOrder ((assignEach ts X.env).map (·.2)) us) (fun _ s' => ∃ σ' H', Inv X pins σ' H' s' ∧ Q σ' H') X.xe s
section
variable {X : Cx} {pos : Pos}
def gName (i : Nat) : TG := fun v σ H Q => Q (σ.set i (some v)) H
theorem pg_name {i : Nat} {x : Str} (hN : X.N.Nodup) (hi : X.N[i]? = some x) (hx : Loc X.env.scope x) (hf : X.fn x = true ∨ X.env.scope.names.lookup x = some .local := by first | exact .inl rfl | exact .inr rfl | assumption) : PG X (.Name x pos) (gName i) := by
  intro pins s σ H v u Q I r h
  exact wpAny_assign_Name (store_ok I hN hi hx r (fun s' I' => ⟨_, H, I', h⟩) hf)
def gNil : TGs := fun vs σ H Q => vs = [] ∧ Q σ H
def gCons (t : TG) (u : TGs) : TGs := fun vs σ H Q => ∃ v r, vs = v :: r ∧ t v σ H fun σ' H' => u r σ' H' Q
theorem pgs_nil : PGs X [] gNil := by
  intro pins s σ H vs us Q I r h
  obtain ⟨e, h⟩ := h
  subst e
  cases r
  exact assignInOrder_nil ⟨σ, H, I, h⟩
theorem pgs_cons {e : Expr} {es : List Expr} {t : TG} {u : TGs} (h1 : PG X e t) (h2 : PGs X es u)
    (hs : (assignEach (e :: es) X.env).map (·.2) = assign e X.env :: (assignEach es X.env).map (·.2) := by rfl) : PGs X (e :: es) (gCons t u) := by
  intro pins s σ H vs us Q I r h
  obtain ⟨v, vr, e1, h⟩ := h
  subst e1
  cases r with
  | cons r rr =>
    rw [hs]
    refine assignInOrder_cons (thn (h1 pins s σ H _ _ _ I r h) fun _ s1 ⟨σ1, H1, I1, q1⟩ => ?_)
    exact h2 pins s1 σ1 H1 _ _ Q I1 rr q1
def gTup (K : PySem.W.Frag) (n : Nat) (t : TGs) : TG := fun v σ H Q => ∃ a xs, v = .ref a ∧ SqT K H a xs ∧ xs.length = n ∧ t xs σ H Q
theorem pg_tup {es : List Expr} {k : Nat} {t : TGs} {n : Nat} (hc : X.calm = true) (h : PGs X es t)
    (hn : (assignEach es X.env).length = n := by rfl) (hst : (assignEach es X.env).findIdx? (·.1) = none := by rfl) : PG X (.Tuple es k pos) (gTup X.K n t) := by
  intro pins s σ H v u Q I r hw
  obtain ⟨a, xs, e1, hq, hl, hw⟩ := hw
  subst e1
  cases r
  obtain ⟨its, rv, ht, hz⟩ := I.tuple hq
  refine assign_Tuple_tuple (I.ok.hd hc) ht (by simp [hn, ← hl, rv.length]) hst fun h' hx => ?_
  have I1 : Inv X pins σ H { s with heap := h' } := I.kept (t' := s.toks) fun b o e => hx b o (Nat.ne_of_lt (Heap.lt_size e)) e
  exact h pins _ σ H xs _ Q I1 (by simpa using rv) hw
def tAsg (te : TE) (g : TG) : TS := fun D σ H => te σ H fun x H1 => g x σ H1 D.nx
theorem ps_set {i : Nat} {x : Str} {e : Expr} {te : TE} {pos' : Pos} (hN : X.N.Nodup) (hi : X.N[i]? = some x) (hx : Loc X.env.scope x) (he : PE X e te) (hs : swapsWith e (some (.Name x pos')) pos.line X.env = pure false := by rfl) (hf : X.fn x = true ∨ X.env.scope.names.lookup x = some .local := by first | exact .inl rfl | exact .inr rfl | assumption) :
    PS X (.Assign [.Name x pos'] e pos) (tAsg te (gName i)) := by
  intro pins s σ H D I h
  refine wpAny_Assign_Name (thn (he pins s σ H _ I h) fun v s1 ⟨y, H1, I1, r1, q1⟩ => ?_) hs
  exact store_ok I1 hN hi hx r1 (fun s2 I2 => ⟨_, H1, I2, q1⟩) hf
end
section
variable {X : Cx} {pos : Pos}
end
structure It where
  go : Nat → Hp → Prop
  yld : Nat → Hp → V → Hp → Prop
  stop : Nat → Hp → Prop
def FpOk (X : Cx) (pins : List (Addr × Obj)) (H : Hp) (b : Addr) : Prop :=
  H b = none ∧ b ≠ X.env.locals ∧ b ∉ X.fs ∧ (b ∈ X.ex ∨ X.s₀.heap.objs.size ≤ b) ∧ (∀ x c, X.env.cells.lookup x = some c → c ≠ b) ∧ ∀ p ∈ X.pn ++ pins, p.1 ≠ b
theorem Inv.fpOk {X : Cx} {pins : List (Addr × Obj)} {σ : St} {H H' : Hp} {s : Shared} {b : Addr} (I : Inv X pins σ H s) (hb : s.heap.objs.size ≤ b) (hn : H' b = none) : FpOk X pins H' b := by
  refine ⟨hn, Nat.ne_of_gt (Nat.lt_of_lt_of_le I.lt hb), I.nofs hb, .inr (Nat.le_trans I.sz hb), fun x c e z => ?_, fun p hp z => ?_⟩
  · obtain ⟨v, q⟩ := I.cell x c e
    exact absurd (Nat.lt_of_lt_of_le q.lt (by rw [z]; exact hb)) (Nat.lt_irrefl _)
  · exact absurd (Nat.lt_of_lt_of_le (Heap.lt_size (I.pin p hp).1) (by rw [z]; exact hb)) (Nat.lt_irrefl _)
structure Turn (P : Program) (w : World) (K : PySem.W.Frag) (tg : Expr) (J : It) (fp : List Addr) (it : Addr) (tn : Nat → Heap → Prop) : Prop where
  mem : it ∈ fp
  obj : ∀ i h, tn i h → ∀ b ∈ fp, ∃ o, h.get? b = some o ∧ ∀ v, o.data ≠ .cell v
  keep : ∀ i h h', tn i h → (∀ b ∈ fp, ∀ o, h.get? b = some o → h'.get? b = some o) → tn i h'
  item : ∀ (X : Cx), X.prog = P → X.w = w → X.K = K → X.calm = true → ∀ (i : Nat) (pins : List (Addr × Obj)) (s : Shared) (σ : St) (H : Hp) (E : Value → Shared → Prop), Inv X pins σ H s → (∀ b ∈ fp, FpOk X pins H b) → tn i s.heap → J.go i H →
    wpAny (model P w) X.A (pyNext (.ref it)) (fun r s1 => ∃ u, r = some u ∧
      wpAny (model P w) X.A (letOwnedTupleGo tg (.ref it) u) (fun _ s2 => ∃ x H', Inv X pins σ H' s2 ∧ RelV x u ∧ J.yld i H x H' ∧ tn (i + 1) s2.heap ∧ ∀ b ∈ fp, H' b = none) E s1) E s
  done : ∀ (X : Cx), X.prog = P → X.w = w → X.K = K → X.calm = true → ∀ (i : Nat) (pins : List (Addr × Obj)) (s : Shared) (σ : St) (H : Hp) (E : Value → Shared → Prop), Inv X pins σ H s → (∀ b ∈ fp, FpOk X pins H b) → tn i s.heap → J.stop i H →
    wpAny (model P w) X.A (pyNext (.ref it)) (fun r s1 => r = none ∧ Inv X pins σ H s1) E s
  self : ∀ (A : Around) (i : Nat) (s : Shared) (Q : Value → Shared → Prop) (E : Value → Shared → Prop), tn i s.heap → Q (.ref it) s → wpAny (model P w) A (pyIter (.ref it)) Q E s
abbrev TI := St → Hp → (It → Hp → Prop) → Prop
def PIE (X : Cx) (pins : List (Addr × Obj)) (σ : St) (tg : Expr) (R : It → Hp → Prop) (itv : Value) (s2 : Shared) : Prop :=
  ∃ (it : Addr) (fp : List Addr) (tn : Nat → Heap → Prop) (J : It) (H' : Hp), itv = .ref it ∧ Inv X pins σ H' s2 ∧ Turn X.prog X.w X.K tg J fp it tn ∧ tn 0 s2.heap ∧ (∀ b ∈ fp, FpOk X pins H' b) ∧ R J H'
def PI (X : Cx) (tg iter : Expr) (wi : TI) : Prop :=
  ∀ (pins : List (Addr × Obj)) (s : Shared) (σ : St) (H : Hp) (R : It → Hp → Prop), Inv X pins σ H s → wi σ H R →
    wpAny (model X.prog X.w) X.A (eval iter X.env) (fun v s1 => wpAny (model X.prog X.w) X.A (pyIter v) (PIE X pins σ tg R) X.xe s1) X.xe s
theorem go_of {M : Model} {A : Around} {E : Value → Shared → Prop} {s : Shared} {tg : Expr} {it : Addr} {u : Value} {o : Obj} {n : String} {vs : Array Value} {Q : Unit → Shared → Prop} (ho : s.heap.get? it = some o) (hc : o.cls = .type n) (hd : o.data = .fields vs)
    (hn : ["enumerate", "zip", "dict_itemiterator", "dict_reverseitemiterator", "odict_iterator", "itertools.zip_longest", "itertools.pairwise"].contains n = false) (hQ : Q () s) : wpAny M A (letOwnedTupleGo tg (.ref it) u) Q E s := by
  unfold letOwnedTupleGo
  cases tg <;> first
    | exact wpAny_pure hQ
    | (cases u <;> first
        | exact wpAny_pure hQ
        | (refine wpAny_bind (wpAny_load ho ?_)
           rw [hc, hd]
           show wpAny M A (if (["enumerate", "zip", "dict_itemiterator", "dict_reverseitemiterator", "odict_iterator", "itertools.zip_longest", "itertools.pairwise"].contains n && vs[0]? == some (rawInt _)) = true then _ else _) Q E s
           rw [if_neg (by intro h; rw [hn, Bool.false_and] at h; cases h)]
           exact wpAny_pure hQ))
def Itl (K : PySem.W.Frag) (a : Addr) : It :=
  ⟨fun i H => ∃ xs x, SqL K H a xs ∧ xs[i]? = some x, fun i H x H' => H' = H ∧ ∀ xs, SqL K H a xs → xs[i]? = some x, fun i H => ∃ xs, SqL K H a xs ∧ xs.length ≤ i⟩
def Itr (lo : Int) (n : Nat) : It := ⟨fun i _ => i < n, fun i H x H' => H' = H ∧ x = .int (lo + i), fun i _ => n ≤ i⟩
theorem turn_list {P : Program} {w : World} {K : PySem.W.Frag} {tg : Expr} (a it : Addr) : Turn P w K tg (Itl K a) [it] it (fun i h => h.IsListIter it a i) where
  mem := by simp
  obj := fun i h st b hb => by
    have e : b = it := by simpa using hb
    subst e
    obtain ⟨o, e, c, d⟩ := st
    exact ⟨o, e, fun v z => by rw [d] at z; cases z⟩
  keep := fun i h h' st k => st.at fun o e => k it (by simp) o e
  item := by
    intro X hP hw hK hc i pins s σ H E I hf st hg
    subst hP hw hK
    obtain ⟨xs, x, hq, hx⟩ := hg
    obtain ⟨its, rv, p, hz⟩ := I.list hq
    obtain ⟨u, hu, ru⟩ := rv.get hx
    obtain ⟨f0, f1, f2, f3, f4, f5⟩ := hf it (by simp)
    refine wpAny_pyNext_list_item st p.isList (x := u) (by simpa using hu) fun h' st' sb => ?_
    have I1 : Inv X pins σ H { s with heap := h' } := I.turned (t' := s.toks) (fun b o hb e => (sb.2 b hb).trans e) f0 f1 f3 f4 f5
    obtain ⟨o, e, c, d⟩ := id st'
    exact ⟨u, rfl, go_of (s := { s with heap := h' }) e c d (by decide) ⟨x, H, I1, ru, ⟨rfl, fun ys hy => by rw [I.list_inj hy hq]; exact hx⟩, st', fun b hb => (hf b hb).1⟩⟩
  done := by
    intro X hP hw hK hc i pins s σ H E I hf st hg
    subst hP hw hK
    obtain ⟨xs, hq, hx⟩ := hg
    obtain ⟨its, rv, p, hz⟩ := I.list hq
    obtain ⟨f0, f1, f2, f3, f4, f5⟩ := hf it (by simp)
    have hl := rv.length
    exact wpAny_pyNext_list_end (I.ok.hd hc) st p.isList (by simp; omega) fun h' eb => ⟨rfl, I.turned (t' := s.toks) (fun b o hb e => eb b o hb e) f0 f1 f3 f4 f5⟩
  self := fun _ _ _ _ _ st h => wpAny_pyIter_listiter st h
theorem turn_range {P : Program} {w : World} {K : PySem.W.Frag} {tg : Expr} (it : Addr) (lo : Int) (n : Nat) : Turn P w K tg (Itr lo n) [it] it (fun i h => IsRangeIter h it (lo + (i : Nat) * 1) ((n : Int) - (i : Nat)) 1) where
  mem := by simp
  obj := fun i h st b hb => by
    have e : b = it := by simpa using hb
    subst e
    exact ⟨_, st, fun v z => by
      have z' : Data.fields _ = Data.cell v := z
      cases z'⟩
  keep := fun i h h' st k => k it (by simp) _ st
  item := by
    intro X hP hw hK hc i pins s σ H E I hf st hg
    subst hP hw hK
    obtain ⟨f0, f1, f2, f3, f4, f5⟩ := hf it (by simp)
    have W := Walks.range (prog := X.prog) (w := X.w) (I.ok.hd hc) it lo 1 n
    refine W.item i s _ _ hg st fun v h' tk hv st' kk => ?_
    obtain ⟨t, rfl⟩ := hv
    have I1 : Inv X pins σ H { s with heap := h', toks := tk } := I.turned (fun b o hb e => kk b o (by simpa using hb) e) f0 f1 f3 f4 f5
    refine ⟨_, rfl, go_of (s := { s with heap := h', toks := tk }) (n := "range_iterator") st' rfl rfl (by decide) ⟨.int (lo + i), H, I1, ⟨t, ?_⟩, ⟨rfl, rfl⟩, st', fun b hb => (hf b hb).1⟩⟩
    rw [Int.mul_one]
  done := by
    intro X hP hw hK hc i pins s σ H E I hf st hg
    subst hP hw hK
    obtain ⟨f0, f1, f2, f3, f4, f5⟩ := hf it (by simp)
    exact wpAny_pyNext_range_end (I.ok.hd hc) st (by have : n ≤ i := hg; omega) fun h' eb => ⟨rfl, I.turned (t' := s.toks) (fun b o hb e => eb b o hb e) f0 f1 f3 f4 f5⟩
  self := fun _ _ _ _ _ st h => wpAny_pyIter_rangeiter st h
end L2
namespace L2
open PySem PySem.Spec PyProof.Rows
section
variable {X : Cx} {tg : Expr}
def iList (K : PySem.W.Frag) (tl : TE) : TI := fun σ H R => tl σ H fun x H1 => ∃ a, x = .ref a ∧ (∃ xs, SqL K H1 a xs) ∧ R (Itl K a) H1
theorem pi_list {l : Expr} {tl : TE} (hl : PE X l tl) : PI X tg l (iList X.K tl) := by
  intro pins s σ H R I h
  refine thn (hl pins s σ H _ I h) fun v s1 ⟨x, H1, I1, r1, q1⟩ => ?_
  obtain ⟨a, e, ⟨xs, hq⟩, q⟩ := q1
  subst e
  cases r1
  obtain ⟨its, rv, p, hz⟩ := I1.list hq
  refine wpAny_pyIter_list p.isList ?_
  refine ⟨s1.heap.objs.size, [s1.heap.objs.size], _, _, H1, rfl, I1.kept (t' := s1.toks) fun b o e => Heap.get?_push_of_some _ e, turn_list a _, ⟨_, Heap.get?_push_size _ rfl, rfl, rfl⟩, fun b hb => ?_, q⟩
  have e : b = s1.heap.objs.size := by simpa using hb
  subst e
  exact I1.fpOk (Nat.le_refl _) (I1.hok.fresh (Nat.le_refl _))
theorem range_it {pins : List (Addr × Obj)} {σ : St} {H : Hp} {s : Shared} {R : It → Hp → Prop} {E : Value → Shared → Prop} {lo hi : Int} {t u v : Tok} {tk : Nat} (I : Inv X pins σ H s) (h1 : -(2 ^ 62) ≤ lo) (h2 : lo < 2 ^ 62) (h3 : -(2 ^ 62) ≤ hi) (h4 : hi < 2 ^ 62)
    (q : R (Itr lo (hi - lo).toNat) H) : wpAny (model X.prog X.w) X.A (pyIter (.ref s.heap.objs.size)) (PIE X pins σ tg R) E { s with heap := s.heap.push { cls := .type "range", data := .fields #[.int lo t, .int hi u, .int 1 v] }, toks := tk } := by
  refine wpAny_pyIter_range (IsRange.new ..) (small_one h1 h2 h3 h4) ?_
  have I1 : Inv X pins σ H { s with heap := s.heap.push { cls := .type "range", data := .fields #[.int lo t, .int hi u, .int 1 v] }, toks := tk } := I.kept fun b o e => Heap.get?_push_of_some _ e
  refine ⟨(s.heap.push { cls := .type "range", data := .fields #[.int lo t, .int hi u, .int 1 v] }).objs.size, [(s.heap.push { cls := .type "range", data := .fields #[.int lo t, .int hi u, .int 1 v] }).objs.size], _, _, H, rfl,
    I1.kept (t' := tk) fun b o e => Heap.get?_push_of_some _ e, turn_range _ lo (hi - lo).toNat, ?_, fun b hb => ?_, q⟩
  · have e1 : lo + ((0 : Nat) : Int) * 1 = lo := by simp
    have e2 : (((hi - lo).toNat : Nat) : Int) - ((0 : Nat) : Int) = Builtin.Range.rangeSize lo hi 1 := by rw [rangeSize_one]; split <;> omega
    show IsRangeIter _ _ (lo + ((0 : Nat) : Int) * 1) ((((hi - lo).toNat : Nat) : Int) - ((0 : Nat) : Int)) 1
    rw [e1, e2]
    exact Heap.get?_push_size _ rfl
  · have e : b = (s.heap.push { cls := .type "range", data := .fields #[.int lo t, .int hi u, .int 1 v] }).objs.size := by simpa using hb
    subst e
    exact I1.fpOk (Nat.le_refl _) (I1.hok.fresh (Nat.le_refl _))
def iRng1 (ta : TA) : TI := fun σ H R => ta σ H fun vs H1 => ∃ j : Int, vs = [.int j] ∧ -(2 ^ 62) ≤ j ∧ j < 2 ^ 62 ∧ R (Itr 0 j.toNat) H1
def iRng2 (ta : TA) : TI := fun σ H R => ta σ H fun vs H1 => ∃ i j : Int, vs = [.int i, .int j] ∧ (-(2 ^ 62) ≤ i ∧ i < 2 ^ 62 ∧ -(2 ^ 62) ≤ j ∧ j < 2 ^ 62) ∧ R (Itr i (j - i).toNat) H1
theorem pi_range1 {a : Expr} {ta : TA} {p pos : Pos} (hg : Gl X "range") (hm : X.mg "range" = none) (ha : PA X [a] ta) (hs : starEach [a] X.env = [(false, eval a X.env)] := by rfl) : PI X tg (.Call (.Name "range" p) [a] [] pos) (iRng1 ta) := by
  intro pins s σ H R I h
  refine Call_ (ld_blt I hg hm boot_range (PyProof.Rows.callWith_type1 (thn (ha pos pins s σ H _ I h) fun us s1 ⟨vs, H1, I1, r1, q1⟩ => ?_) hs rfl))
  obtain ⟨j, e, q1, q2, q⟩ := q1
  subst e
  cases r1 with
  | cons r rr =>
    cases rr
    obtain ⟨t, rfl⟩ := r
    exact call_range_1 (range_it I1 (by omega) (by omega) q1 q2 (by simpa using q))
theorem pi_range2 {a b : Expr} {ta : TA} {p pos : Pos} (hg : Gl X "range") (hm : X.mg "range" = none) (ha : PA X [a, b] ta) (hs : starEach [a, b] X.env = [(false, eval a X.env), (false, eval b X.env)] := by rfl) (hs2 : starEach [b] X.env = [(false, eval b X.env)] := by rfl) :
    PI X tg (.Call (.Name "range" p) [a, b] [] pos) (iRng2 ta) := by
  intro pins s σ H R I h
  refine Call_ (ld_blt I hg hm boot_range (PyProof.Rows.callWith_type1 (thn (ha pos pins s σ H _ I h) fun us s1 ⟨vs, H1, I1, r1, q1⟩ => ?_) (by rw [hs, hs2]) (by rw [hs2]; rfl)))
  obtain ⟨i, j, e, ⟨q1, q2, q3, q4⟩, q⟩ := q1
  subst e
  cases r1 with
  | cons r rr =>
    cases rr with
    | cons r' rr =>
      cases rr
      obtain ⟨t, rfl⟩ := r
      obtain ⟨t', rfl⟩ := r'
      exact call_range_2 (range_it I1 q1 q2 q3 q4 q)
def tFor (wi : TI) (g : TG) (tb : TS) : TS := fun D σ H => wi σ H fun J H1 => ∃ W : Nat → Nat → St → Hp → Prop, (∃ m, W 0 m σ H1) ∧ ∀ i m σ H, W i m σ H →
  (J.stop i H ∧ D.nx σ H) ∨ (J.go i H ∧ ∃ N : St → Hp → Prop, (∀ σ' H', N σ' H' → ∃ m', m' < m ∧ W (i + 1) m' σ' H') ∧ ∀ x H', J.yld i H x H' → g x σ H' fun σ2 H2 => tb { D with nx := N, ct := N, bk := D.nx } σ2 H2)
def pinsAt (fp : List Addr) (h : Heap) : List (Addr × Obj) := fp.filterMap fun b => (h.get? b).map fun o => (b, o)
theorem mem_pinsAt {fp : List Addr} {h : Heap} {b : Addr} {o : Obj} (hb : b ∈ fp) (e : h.get? b = some o) : (b, o) ∈ pinsAt fp h := List.mem_filterMap.mpr ⟨b, hb, by rw [e]; rfl⟩
theorem of_pinsAt {fp : List Addr} {h : Heap} {p : Addr × Obj} (hp : p ∈ pinsAt fp h) : p.1 ∈ fp ∧ h.get? p.1 = some p.2 := by
  obtain ⟨b, hb, e⟩ := List.mem_filterMap.mp hp
  cases q : h.get? b with
  | none => rw [q] at e; cases e
  | some o =>
    rw [q] at e
    have e' : (b, o) = p := Option.some.inj e
    subst e'
    exact ⟨hb, q⟩
theorem Inv.pinned {pins : List (Addr × Obj)} {σ : St} {H : Hp} {s : Shared} {fp : List Addr} (I : Inv X pins σ H s) (hf : ∀ b ∈ fp, FpOk X pins H b) (ho : ∀ b ∈ fp, ∃ o, s.heap.get? b = some o ∧ ∀ v, o.data ≠ .cell v) : Inv X (pins ++ pinsAt fp s.heap) σ H s :=
  I.pins_of fun p hp => (List.mem_append.mp hp).elim (fun z => I.pin p (List.mem_append_right _ z)) fun z => by
    obtain ⟨hb, e⟩ := of_pinsAt z
    obtain ⟨f0, f1, f2, _⟩ := hf p.1 hb
    obtain ⟨o, e', d⟩ := ho p.1 hb
    rw [e] at e'; cases e'
    exact ⟨e, f0, f1, f2, d⟩
theorem Inv.unpinned {pins pl : List (Addr × Obj)} {σ : St} {H : Hp} {s : Shared} (I : Inv X (pins ++ pl) σ H s) : Inv X pins σ H s := I.pins_of fun p hp => I.pin p (List.mem_append_right _ (List.mem_append_left _ hp))
theorem ps_for {iter : Expr} {body : List Stmt} {wi : TI} {g : TG} {tb : TS} {pos : Pos} (hp : PassesOwn (model X.prog X.w) X.A X.env X.xe) (hc : X.calm = true) (hi : PI X tg iter wi) (hg : PG X tg g) (hb : PSs X body tb)
    (hs : ∀ x, foldedSetIterable iter X.env x = pure x := by intro _; rfl) : PS X (.For tg iter body [] pos) (tFor wi g tb) := by
  intro pins s σ H D I h
  refine wpAny_For (thn (hi pins s σ H _ I h) fun v s1 h1 => thn h1 fun itv s2 h2 => ?_) hs
  obtain ⟨it, fp, tn, J, H2, e, I2, T, st2, f2, W, ⟨m0, w0⟩, turn⟩ := h2
  subst e
  -- what stays true of the iterator's objects through the loop
  have stat : ∀ {H' : Hp}, (∀ b ∈ fp, H' b = none) → ∀ b ∈ fp, FpOk X pins H' b := fun hn b hb => ⟨hn b hb, (f2 b hb).2⟩
  refine codeAny_forLoop_any (fun n s' => ∃ i σ' H', Inv X pins σ' H' s' ∧ tn i s'.heap ∧ (∀ b ∈ fp, H' b = none) ∧ W i n σ' H') ?_ m0 ⟨0, σ, H2, I2, st2, fun b hb => (f2 b hb).1, w0⟩
  rintro n s3 ⟨i, σ3, H3, I3, st3, fr3, w3⟩
  rcases turn i n σ3 H3 w3 with ⟨stop, qn⟩ | ⟨go, N, hN, step⟩
  · refine wpAny_passesOwn hp (thn (T.done X rfl rfl rfl hc i pins s3 σ3 H3 X.xe I3 (stat fr3) st3 stop) fun r s4 ⟨hr, I4⟩ => ?_)
    subst hr
    exact wpAny_execs_nil ⟨σ3, H3, I4, qn⟩
  · refine wpAny_passesOwn hp (thn (T.item X rfl rfl rfl hc i pins s3 σ3 H3 X.xe I3 (stat fr3) st3 go) fun r s4 ⟨u, hr, h4⟩ => ?_)
    subst hr
    refine wpAny_passesOwn hp (thn h4 fun _ s5 ⟨x, H5, I5, r5, y5, st5, fr5⟩ => ?_)
    have I5' := I5.pinned (stat fr5) (T.obj _ _ st5)
    refine wpAny_passesOwn hp (thn (hg _ s5 σ3 H5 x u _ I5' r5 (step x H5 y5)) fun _ s6 ⟨σ6, H6, I6, q6⟩ => ?_)
    refine wpAny_passesOwn hp (thn (hb _ s6 σ6 H6 _ I6 q6) fun f s7 q7 => ?_)
    have again : ∀ {σ7 : St} {H7 : Hp}, Inv X (pins ++ pinsAt fp s5.heap) σ7 H7 s7 → N σ7 H7 → ∃ m, m < n ∧ ∃ i σ' H', Inv X pins σ' H' s7 ∧ tn i s7.heap ∧ (∀ b ∈ fp, H' b = none) ∧ W i m σ' H' := fun {σ7 H7} I7 n7 => by
      obtain ⟨m', hm, w7⟩ := hN σ7 H7 n7
      refine ⟨m', hm, i + 1, σ7, H7, I7.unpinned, T.keep _ _ _ st5 fun b hb o e => (I7.pin (b, o) (List.mem_append_right _ (List.mem_append_right _ (mem_pinsAt hb e)))).1, fun b hb => ?_, w7⟩
      obtain ⟨o, e, d⟩ := T.obj _ _ st5 b hb
      exact (I7.pin (b, o) (List.mem_append_right _ (List.mem_append_right _ (mem_pinsAt hb e)))).2.1
    cases f with
    | next => obtain ⟨σ7, H7, I7, n7⟩ := q7; exact again I7 n7
    | cont => obtain ⟨σ7, H7, I7, n7⟩ := q7; exact again I7 n7
    | brk => obtain ⟨σ7, H7, I7, q7⟩ := q7; exact ⟨σ7, H7, I7.unpinned, q7⟩
    | ret v => obtain ⟨x7, σ7, H7, I7, r7, q7⟩ := q7; exact ⟨x7, σ7, H7, I7.unpinned, r7, q7⟩
end
theorem for_list {K : PySem.W.Frag} {a : Addr} {xs : List V} {g : TG} {tb : TS} {D : Ends} {σ : St} {H : Hp} (Pv : Nat → St → Hp → Prop) (h0 : Pv 0 σ H) (hl : ∀ i σ H, i ≤ xs.length → Pv i σ H → SqL K H a xs)
    (hs : ∀ i x σ H, xs[i]? = some x → Pv i σ H → g x σ H fun σ2 H2 => tb { D with nx := Pv (i + 1), ct := Pv (i + 1), bk := D.nx } σ2 H2) (hd : ∀ σ H, Pv xs.length σ H → D.nx σ H) :
    ∃ W : Nat → Nat → St → Hp → Prop, (∃ m, W 0 m σ H) ∧ ∀ i m σ H, W i m σ H →
      ((Itl K a).stop i H ∧ D.nx σ H) ∨ ((Itl K a).go i H ∧ ∃ N : St → Hp → Prop, (∀ σ' H', N σ' H' → ∃ m', m' < m ∧ W (i + 1) m' σ' H') ∧ ∀ x H', (Itl K a).yld i H x H' → g x σ H' fun σ2 H2 => tb { D with nx := N, ct := N, bk := D.nx } σ2 H2) := by
  refine ⟨fun i m σ H => m = xs.length - i ∧ i ≤ xs.length ∧ Pv i σ H, ⟨xs.length, by simp, Nat.zero_le _, h0⟩, ?_⟩
  rintro i m σ H ⟨rfl, hi, p⟩
  have q := hl i σ H hi p
  by_cases hlt : i < xs.length
  · refine .inr ⟨⟨xs, xs[i], q, by simp [hlt]⟩, Pv (i + 1), fun σ' H' p' => ⟨xs.length - (i + 1), by omega, rfl, hlt, p'⟩, fun x H' y => ?_⟩
    obtain ⟨e, y⟩ := y
    subst e
    exact hs i x σ _ (y xs q) p
  · have e : i = xs.length := by omega
    subst e
    exact .inl ⟨⟨xs, q, Nat.le_refl _⟩, hd σ H p⟩
theorem for_range {lo : Int} {n : Nat} {g : TG} {tb : TS} {D : Ends} {σ : St} {H : Hp} (Pv : Nat → St → Hp → Prop) (h0 : Pv 0 σ H)
    (hs : ∀ i σ H, i < n → Pv i σ H → g (.int (lo + i)) σ H fun σ2 H2 => tb { D with nx := Pv (i + 1), ct := Pv (i + 1), bk := D.nx } σ2 H2) (hd : ∀ σ H, Pv n σ H → D.nx σ H) :
    ∃ W : Nat → Nat → St → Hp → Prop, (∃ m, W 0 m σ H) ∧ ∀ i m σ H, W i m σ H →
      ((Itr lo n).stop i H ∧ D.nx σ H) ∨ ((Itr lo n).go i H ∧ ∃ N : St → Hp → Prop, (∀ σ' H', N σ' H' → ∃ m', m' < m ∧ W (i + 1) m' σ' H') ∧ ∀ x H', (Itr lo n).yld i H x H' → g x σ H' fun σ2 H2 => tb { D with nx := N, ct := N, bk := D.nx } σ2 H2) := by
  refine ⟨fun i m σ H => m = n - i ∧ i ≤ n ∧ Pv i σ H, ⟨n, by simp, Nat.zero_le _, h0⟩, ?_⟩
  rintro i m σ H ⟨rfl, hi, p⟩
  by_cases hlt : i < n
  · refine .inr ⟨hlt, Pv (i + 1), fun σ' H' p' => ⟨n - (i + 1), by omega, rfl, hlt, p'⟩, fun x H' y => ?_⟩
    obtain ⟨e, y⟩ := y
    subst e y
    exact hs i σ _ hlt p
  · have e : i = n := by omega
    subst e
    exact .inl ⟨Nat.le_refl _, hd σ H p⟩
end L2
namespace L2
open PySem PySem.Spec PyProof.Rows
abbrev R2 := V → V → Hp → VK → Prop
def OpR (X : Cx) (f : Value → Value → Sem Value) (r : R2) : Prop :=
  ∀ (pins : List (Addr × Obj)) (s : Shared) (σ : St) (H : Hp) (x y : V) (v u : Value) (Q : VK), Inv X pins σ H s → RelV x v → RelV y u → r x y H Q →
    wpAny (model X.prog X.w) X.A (f v u) (EP X pins σ Q) X.xe s
def UnR (X : Cx) (f : Value → Sem Value) (r : V → Hp → VK → Prop) : Prop :=
  ∀ (pins : List (Addr × Obj)) (s : Shared) (σ : St) (H : Hp) (x : V) (v : Value) (Q : VK), Inv X pins σ H s → RelV x v → r x H Q →
    wpAny (model X.prog X.w) X.A (f v) (EP X pins σ Q) X.xe s
def CallR (X : Cx) (f : Value) (r : List V → Hp → VK → Prop) : Prop :=
  ∀ (pins : List (Addr × Obj)) (s : Shared) (σ : St) (H : Hp) (xs : List V) (us : List Value) (Q : VK), Inv X pins σ H s → Vals xs us → r xs H Q →
    wpAny (model X.prog X.w) X.A (call f us) (EP X pins σ Q) X.xe s
def tOp (r : R2) (ta tb : TE) : TE := fun σ H Q => ta σ H fun x H1 => tb σ H1 fun y H2 => r x y H2 Q
def tUn (r : V → Hp → VK → Prop) (ta : TE) : TE := fun σ H Q => ta σ H fun x H1 => r x H1 Q
def rI (C : Int → Int → Prop) (g : Int → Int → V) : R2 := fun x y H Q => ∃ i j, x = .int i ∧ y = .int j ∧ C i j ∧ Q (g i j) H
def rI0 (g : Int → Int → V) : R2 := fun x y H Q => ∃ i j, x = .int i ∧ y = .int j ∧ Q (g i j) H
def rU (g : Int → V) : V → Hp → VK → Prop := fun x H Q => ∃ i, x = .int i ∧ Q (g i) H
section
variable {X : Cx} {a b c : Expr} {ta tb tc : TE} {pos : Pos}
theorem binT (ha : PE X a ta) (hb : PE X b tb) {pins : List (Addr × Obj)} {s : Shared} {σ : St} {H : Hp} {R : V → V → Hp → Prop} (I : Inv X pins σ H s)
    (h : ta σ H fun x H1 => tb σ H1 fun y H2 => R x y H2) {Q : Value → Shared → Prop} {f : Value → Value → Sem Value}
    (hf : ∀ v u s2 x y H2, Inv X pins σ H2 s2 → RelV x v → RelV y u → R x y H2 → wpAny (model X.prog X.w) X.A (f v u) Q X.xe s2) :
    wpAny (model X.prog X.w) X.A (eval a X.env) (fun v s₁ => wpAny (model X.prog X.w) X.A (eval b X.env) (fun u s₂ => wpAny (model X.prog X.w) X.A (f v u) Q X.xe s₂) X.xe s₁) X.xe s := by
  refine thn (ha pins s σ H _ I h) fun v s1 ⟨x, H1, I1, r1, q1⟩ => ?_
  refine thn (hb pins s1 σ H1 _ I1 q1) fun u s2 ⟨y, H2, I2, r2, q2⟩ => ?_
  exact hf v u s2 x y H2 I2 r1 r2 q2
theorem pe_op {op : Operator} {r : R2} (ho : OpR X (binaryOp op) r) (ha : PE X a ta) (hb : PE X b tb) : PE X (.BinOp a op b pos) (tOp r ta tb) := by
  intro pins s σ H Q I h
  exact wpAny_BinOp (binT ha hb I h fun v u s2 x y H2 I2 rx ry q => ho pins s2 σ H2 x y v u Q I2 rx ry q)
theorem pe_un {op : UnaryOp} {r : V → Hp → VK → Prop} (ho : UnR X (unaryOp op) r) (ha : PE X a ta) : PE X (.UnaryOp op a pos) (tUn r ta) := by
  intro pins s σ H Q I h
  exact UnaryOp_ (thn (ha pins s σ H _ I h) fun v s1 ⟨x, H1, I1, r1, q1⟩ => ho pins s1 σ H1 x v Q I1 r1 q1)
theorem opI {f : Value → Value → Sem Value} {C : Int → Int → Prop} {g : Int → Int → Int}
    (rule : ∀ (i j : Int) (t u : Tok) (s : Shared) (Q : Value → Shared → Prop) (E : Value → Shared → Prop), C i j → Q (.int (g i j) s.toks) { s with toks := s.toks + 1 } → wpAny (model X.prog X.w) X.A (f (.int i t) (.int j u)) Q E s) :
    OpR X f (rI C fun i j => .int (g i j)) := by
  intro pins s σ H x y v u Q I rx ry h
  obtain ⟨i, j, rfl, rfl, hc, q⟩ := h
  obtain ⟨t, rfl⟩ := rx
  obtain ⟨t', rfl⟩ := ry
  exact rule i j t t' s _ _ hc ⟨.int (g i j), H, I.tok _, ⟨_, rfl⟩, q⟩
theorem opI0 {f : Value → Value → Sem Value} {g : Int → Int → Int}
    (rule : ∀ (i j : Int) (t u : Tok) (s : Shared) (Q : Value → Shared → Prop) (E : Value → Shared → Prop), Q (.int (g i j) s.toks) { s with toks := s.toks + 1 } → wpAny (model X.prog X.w) X.A (f (.int i t) (.int j u)) Q E s) :
    OpR X f (rI0 fun i j => .int (g i j)) := by
  intro pins s σ H x y v u Q I rx ry h
  obtain ⟨i, j, rfl, rfl, q⟩ := h
  obtain ⟨t, rfl⟩ := rx
  obtain ⟨t', rfl⟩ := ry
  exact rule i j t t' s _ _ ⟨.int (g i j), H, I.tok _, ⟨_, rfl⟩, q⟩
theorem opB0 {f : Value → Value → Sem Value} {g : Int → Int → Bool}
    (rule : ∀ (i j : Int) (t u : Tok) (s : Shared) (Q : Value → Shared → Prop) (E : Value → Shared → Prop), Q (.bool (g i j)) s → wpAny (model X.prog X.w) X.A (f (.int i t) (.int j u)) Q E s) :
    OpR X f (rI0 fun i j => .bl (g i j)) := by
  intro pins s σ H x y v u Q I rx ry h
  obtain ⟨i, j, rfl, rfl, q⟩ := h
  obtain ⟨t, rfl⟩ := rx
  obtain ⟨t', rfl⟩ := ry
  exact rule i j t t' s _ _ ⟨.bl (g i j), H, I, rfl, q⟩
def CDiv (i j : Int) : Prop := 0 < j ∧ j < 1073741824
def CMul (i j : Int) : Prop := (-(2 ^ 64) < i ∧ i < 2 ^ 64) ∨ (-(2 ^ 64) < j ∧ j < 2 ^ 64)
theorem CMul.ok {i j : Int} (h : CMul i j) : IntMulOk i j := by
  rcases h with ⟨h1, h2⟩ | ⟨h1, h2⟩
  · exact .of_left (intBits_le_64 h1 h2)
  · exact .of_right (intBits_le_64 h1 h2)
theorem op_add : OpR X (binaryOp .Add) (rI0 fun i j => .int (i + j)) := opI0 fun _ _ _ _ _ _ _ q => add_int q
theorem op_sub : OpR X (binaryOp .Sub) (rI0 fun i j => .int (i - j)) := opI0 fun _ _ _ _ _ _ _ q => sub_int q
theorem op_mul : OpR X (binaryOp .Mult) (rI CMul fun i j => .int (i * j)) := opI fun _ _ _ _ _ _ _ hc q => mul_int q hc.ok
theorem op_fdiv : OpR X (binaryOp .FloorDiv) (rI CDiv fun i j => .int (i / j)) := opI fun i j _ _ _ _ _ hc q => by
  have h1 : (0 : Int) < j := hc.1
  have h2 : j < 1073741824 := hc.2
  exact floordiv_int (by omega) (by rw [Int.fdiv_eq_ediv_of_nonneg i (by omega)]; exact q) (.inl (PyProof.noPylong_small (by omega)))
theorem op_mod : OpR X (binaryOp .Mod) (rI (fun _ j => 0 < j) fun i j => .int (i % j)) := opI fun i j _ _ _ _ _ hc q => by
  have h1 : (0 : Int) < j := hc
  exact mod_int' (by omega) (by rw [Int.fmod_eq_emod_of_nonneg i (by omega)]; exact q)
theorem unI {f : Value → Sem Value} {g : Int → Int}
    (rule : ∀ (i : Int) (t : Tok) (s : Shared) (Q : Value → Shared → Prop) (E : Value → Shared → Prop), Q (.int (g i) s.toks) { s with toks := s.toks + 1 } → wpAny (model X.prog X.w) X.A (f (.int i t)) Q E s) :
    UnR X f (rU fun i => .int (g i)) := by
  intro pins s σ H x v Q I rx h
  obtain ⟨i, rfl, q⟩ := h
  obtain ⟨t, rfl⟩ := rx
  exact rule i t s _ _ ⟨.int (g i), H, I.tok _, ⟨_, rfl⟩, q⟩
theorem un_neg : UnR X (unaryOp .USub) (rU fun i => .int (-i)) := unI fun _ _ _ _ _ q => neg_int q
end
def scal : V → V → Bool
  | .non, .non => true | .non, .int _ => true | .int _, .non => true | .non, .bl _ => true | .bl _, .non => true | .non, .str _ => true | .str _, .non => true
  | .int _, .int _ => true | .bl _, .bl _ => true | .str _, .str _ => true | .byt _, .byt _ => true
  | .int _, .str _ => true | .str _, .int _ => true | .bl _, .str _ => true | .str _, .bl _ => true
  | _, _ => false
def rEq : R2 := fun x y H Q => scal x y = true ∧ Q (.bl (decide (x = y))) H
def rNe : R2 := fun x y H Q => scal x y = true ∧ Q (.bl (!decide (x = y))) H
theorem dec_int {i j : Int} : decide (V.int i = V.int j) = (i == j) := by
  rw [Bool.eq_iff_iff]
  simp
theorem dec_bl {i j : Bool} : decide (V.bl i = V.bl j) = (i == j) := by
  rw [Bool.eq_iff_iff]
  simp
theorem dec_str {i j : Str} : decide (V.str i = V.str j) = (i == j) := by
  rw [Bool.eq_iff_iff]
  simp
theorem dec_byt {i j : Array UInt8} : decide (V.byt i = V.byt j) = (i.toList == j.toList) := by
  rw [Bool.eq_iff_iff]
  cases i
  cases j
  simp
section
variable {X : Cx} {a b c : Expr} {ta tb tc : TE} {pos : Pos}
theorem fin_bl {pins : List (Addr × Obj)} {σ : St} {H : Hp} {s : Shared} {Q : VK} {k k' : Bool} (I : Inv X pins σ H s) (q : Q (.bl k) H) (e : k = k') : EP X pins σ Q (.bool k') s := by
  subst e
  exact ⟨.bl k, H, I, rfl, q⟩
theorem op_eq : OpR X (compareOp .Eq) rEq := by
  intro pins s σ H x y v u Q I rx ry h
  obtain ⟨hs, q⟩ := h
  cases x with
  | non =>
    cases rx
    cases y with
    | non => cases ry; exact PySem.EqNone.eq_none_none (fin_bl I q (by simp))
    | bl j => cases ry; exact PySem.EqNone.eq_none_bool (fin_bl I q (by simp))
    | int j => obtain ⟨t', rfl⟩ := ry; exact PySem.EqNone.eq_none_int (fin_bl I q (by simp))
    | str j => obtain ⟨t', rfl⟩ := ry; exact PySem.EqNone.eq_none_str (fin_bl I q (by simp))
    | _ => exact absurd (show false = true from hs) Bool.false_ne_true
  | bl i =>
    cases rx
    cases y with
    | non => cases ry; exact PySem.EqNone.eq_bool_none (fin_bl I q (by simp))
    | bl j => cases ry; exact eq_bool (fin_bl I q dec_bl)
    | str j => obtain ⟨t', rfl⟩ := ry; exact PySem.EqMixed.eq_bool_str (fin_bl I q (by simp))
    | _ => exact absurd (show false = true from hs) Bool.false_ne_true
  | int i =>
    obtain ⟨t, rfl⟩ := rx
    cases y with
    | non => cases ry; exact PySem.EqNone.eq_int_none (fin_bl I q (by simp))
    | int j => obtain ⟨t', rfl⟩ := ry; exact eq_int (fin_bl I q dec_int)
    | str j => obtain ⟨t', rfl⟩ := ry; exact PySem.EqMixed.eq_int_str (fin_bl I q (by simp))
    | _ => exact absurd (show false = true from hs) Bool.false_ne_true
  | str i =>
    obtain ⟨t, rfl⟩ := rx
    cases y with
    | non => cases ry; exact PySem.EqNone.eq_str_none (fin_bl I q (by simp))
    | bl j => cases ry; exact PySem.EqMixed.eq_str_bool (fin_bl I q (by simp))
    | int j => obtain ⟨t', rfl⟩ := ry; exact PySem.EqMixed.eq_str_int (fin_bl I q (by simp))
    | str j => obtain ⟨t', rfl⟩ := ry; exact eq_str (fin_bl I q dec_str)
    | _ => exact absurd (show false = true from hs) Bool.false_ne_true
  | byt i =>
    obtain ⟨t, rfl⟩ := rx
    cases y with
    | byt j => obtain ⟨t', rfl⟩ := ry; exact PySem.W.eq_bytes (fin_bl I q dec_byt)
    | _ => exact absurd (show false = true from hs) Bool.false_ne_true
  | _ => cases y <;> exact absurd (show false = true from hs) Bool.false_ne_true
theorem op_ne : OpR X (compareOp .NotEq) rNe := by
  intro pins s σ H x y v u Q I rx ry h
  obtain ⟨hs, q⟩ := h
  cases x with
  | non =>
    cases rx
    cases y with
    | non => cases ry; exact PySem.EqNone.ne_none_none (fin_bl I q (by simp))
    | bl j => cases ry; exact PySem.EqNone.ne_none_bool (fin_bl I q (by simp))
    | int j => obtain ⟨t', rfl⟩ := ry; exact PySem.EqNone.ne_none_int (fin_bl I q (by simp))
    | str j => obtain ⟨t', rfl⟩ := ry; exact PySem.EqNone.ne_none_str (fin_bl I q (by simp))
    | _ => exact absurd (show false = true from hs) Bool.false_ne_true
  | bl i =>
    cases rx
    cases y with
    | non => cases ry; exact PySem.EqNone.ne_bool_none (fin_bl I q (by simp))
    | bl j => cases ry; exact ne_bool (fin_bl I q (congrArg not dec_bl))
    | str j => obtain ⟨t', rfl⟩ := ry; exact PySem.EqMixed.ne_bool_str (fin_bl I q (by simp))
    | _ => exact absurd (show false = true from hs) Bool.false_ne_true
  | int i =>
    obtain ⟨t, rfl⟩ := rx
    cases y with
    | non => cases ry; exact PySem.EqNone.ne_int_none (fin_bl I q (by simp))
    | int j => obtain ⟨t', rfl⟩ := ry; exact ne_int (fin_bl I q (congrArg not dec_int))
    | str j => obtain ⟨t', rfl⟩ := ry; exact PySem.EqMixed.ne_int_str (fin_bl I q (by simp))
    | _ => exact absurd (show false = true from hs) Bool.false_ne_true
  | str i =>
    obtain ⟨t, rfl⟩ := rx
    cases y with
    | non => cases ry; exact PySem.EqNone.ne_str_none (fin_bl I q (by simp))
    | bl j => cases ry; exact PySem.EqMixed.ne_str_bool (fin_bl I q (by simp))
    | int j => obtain ⟨t', rfl⟩ := ry; exact PySem.EqMixed.ne_str_int (fin_bl I q (by simp))
    | str j => obtain ⟨t', rfl⟩ := ry; exact ne_str (fin_bl I q (congrArg not dec_str))
    | _ => exact absurd (show false = true from hs) Bool.false_ne_true
  | byt i =>
    obtain ⟨t, rfl⟩ := rx
    cases y with
    | byt j => obtain ⟨t', rfl⟩ := ry; exact PySem.W.ne_bytes (fin_bl I q (congrArg not dec_byt))
    | _ => exact absurd (show false = true from hs) Bool.false_ne_true
  | _ => cases y <;> exact absurd (show false = true from hs) Bool.false_ne_true
theorem op_lt : OpR X (compareOp .Lt) (rI0 fun i j => .bl (decide (i < j))) := opB0 fun _ _ _ _ _ _ _ q => lt_int q
theorem op_le : OpR X (compareOp .LtE) (rI0 fun i j => .bl (decide (i ≤ j))) := opB0 fun _ _ _ _ _ _ _ q => le_int q
theorem op_gt : OpR X (compareOp .Gt) (rI0 fun i j => .bl (decide (j < i))) := opB0 fun _ _ _ _ _ _ _ q => gt_int q
theorem op_ge : OpR X (compareOp .GtE) (rI0 fun i j => .bl (decide (j ≤ i))) := opB0 fun _ _ _ _ _ _ _ q => ge_int q
theorem nomark (b : Expr) {op : CmpOp} (h : op ≠ .In := by decide) (h2 : op ≠ .NotIn := by decide) : behindInMarks op b = false := by
  have e1 : (op == CmpOp.In) = false := by cases op <;> first | rfl | exact absurd rfl h
  have e2 : (op == CmpOp.NotIn) = false := by cases op <;> first | rfl | exact absurd rfl h2
  cases b <;> simp [behindInMarks, e1, e2]
theorem pe_cmpR {op : CmpOp} {r : R2} (ho : OpR X (compareOp op) r) (ha : PE X a ta) (hb : PE X b tb) (hm : behindInMarks op b = false) : PE X (.Compare a [op] [b] pos) (tOp r ta tb) := by
  intro pins s σ H Q I h
  exact wpAny_Compare1 (binT ha hb I h fun v u s2 x y H2 I2 rx ry q => ho pins s2 σ H2 x y v u Q I2 rx ry q) hm
def tTest (t : TE) : TT := fun σ H Q => t σ H fun x H' => ∃ k, x = .bl k ∧ Q k H'
theorem pt_cmpR {op : CmpOp} {r : R2} (ho : OpR X (compareOp op) r) (ha : PE X a ta) (hb : PE X b tb) (hm : behindInMarks op b = false) : PT X (.Compare a [op] [b] pos) (tTest (tOp r ta tb)) := by
  intro pins s σ H Q I h
  refine wpAny_isTrue_Compare1 (thn (ha pins s σ H _ I h) fun v s1 ⟨x, H1, I1, r1, q1⟩ => thn (hb pins s1 σ H1 _ I1 q1) fun u s2 ⟨y, H2, I2, r2, q2⟩ =>
    thn (ho pins s2 σ H2 x y v u _ I2 r1 r2 q2) fun c s3 ⟨z, H3, I3, r3, k, e, q3⟩ => ?_) hm
  subst e
  cases r3
  exact wpAny_truthy_bool ⟨H3, I3, q3⟩
def tChain (r r' : R2) (ta tb tc : TE) : TE := fun σ H Q => ta σ H fun x H1 => tb σ H1 fun y H2 => r x y H2 fun z H3 => ∃ k, z = .bl k ∧
  (if k = true then tc σ H3 fun w' H4 => r' y w' H4 Q else Q (.bl false) H3)
theorem pt_chain {op op' : CmpOp} {r r' : R2} (ho : OpR X (compareOp op) r) (ho' : OpR X (compareOp op') r') (ha : PE X a ta) (hb : PE X b tb) (hc : PE X c tc)
    (hm : lastMarks [op, op'] [b, c] = false := by with_unfolding_all rfl) : PT X (.Compare a [op, op'] [b, c] pos) (tTest (tChain r r' ta tb tc)) := by
  intro pins s σ H Q I h
  refine isTrue_chain (thn (ha pins s σ H _ I h) fun v s1 ⟨x, H1, I1, r1, q1⟩ => test_link (thn (hb pins s1 σ H1 _ I1 q1) fun u s2 ⟨y, H2, I2, r2, q2⟩ =>
    thn (ho pins s2 σ H2 x y v u _ I2 r1 r2 q2) fun d s3 ⟨z, H3, I3, r3, k, e, q3⟩ => ?_)) hm
  subst e
  cases r3
  refine wpAny_truthy_bool ?_
  cases k with
  | false =>
    obtain ⟨k', e', q'⟩ := q3
    cases e'
    exact ite_ff ⟨H3, I3, q'⟩
  | true =>
    refine ite_tt (test_last (thn (hc pins s3 σ H3 _ I3 q3) fun w' s4 ⟨z', H4, I4, r4, q4⟩ => thn (ho' pins s4 σ H4 y z' u w' _ I4 r2 r4 q4) fun d' s5 ⟨z2, H5, I5, r5, k2, e2, q5⟩ => ?_))
    subst e2
    cases r5
    exact wpAny_truthy_bool ⟨H5, I5, q5⟩
theorem line63 : (sizeLine : Nat) < 2 ^ 63 := by rw [sizeLine_eq]; decide
theorem vals1 {x : V} {us : List Value} (r : Vals [x] us) : ∃ u, us = [u] ∧ RelV x u := by
  cases r with
  | cons r1 r2 => cases r2; exact ⟨_, rfl, r1⟩
theorem vals2 {x y : V} {us : List Value} (r : Vals [x, y] us) : ∃ u w', us = [u, w'] ∧ RelV x u ∧ RelV y w' := by
  cases r with
  | cons r1 r2 =>
    cases r2 with
    | cons r3 r4 => cases r4; exact ⟨_, _, rfl, r1, r3⟩
theorem call_int1 : CallR X (.type "int") (fun xs H Q => (∃ i, xs = [.int i] ∧ Q (.int i) H) ∨ ∃ k, xs = [.bl k] ∧ Q (.int (if k then 1 else 0)) H) := by
  intro pins s σ H xs us Q I r h
  rcases h with ⟨i, rfl, q⟩ | ⟨k, rfl, q⟩
  · obtain ⟨u, rfl, t, rfl⟩ := vals1 r
    exact call_int_int ⟨.int i, H, I, ⟨_, rfl⟩, q⟩
  · obtain ⟨u, rfl, r1⟩ := vals1 r
    cases r1
    exact call_int_bool ⟨.int (if k then 1 else 0), H, I.tok _, ⟨_, rfl⟩, q⟩
end
end L2
namespace L2
open PySem PySem.Spec PyProof.Rows
section
variable {prog : Program} {w : World} {A : Around} {E : Value → Shared → Prop} {s : Shared} {K : PySem.W.Frag} {x dx C f : Addr} {mA : Str → Option Value} {name : Str} {v : Value}
end
section
variable {P : Program} {w : World} {H H' : Hp} {h h' : Heap} {a C dx : Addr} {fs fs' : List (Str × V)}
end
section
variable {X : Cx} {pins : List (Addr × Obj)} {σ : St} {H : Hp} {s : Shared} {a C dx : Addr} {fs : List (Str × V)} {f : Str} {v : V} {A : Around} {E : Value → Shared → Prop}
end
section
variable {X : Cx} {o e value : Expr} {f : Str} {pos pos' tpos : Pos} {ta tv : TE}
end
section
variable {X : Cx} {pins : List (Addr × Obj)} {σ : St} {H : Hp} {s : Shared} {A : Around} {E : Value → Shared → Prop} {Q : Value → Shared → Prop} {c : Value} {b : Bool}
end
end L2
namespace L2
open PySem PySem.Spec PyProof.Rows
structure Room (k : Nat) (A : Around) : Prop where
  hd : A.handled = none
  dp : A.depth + 3 * k + 5 < recursionLimit
  un : A.units + 16 * k + 200 < cLine
theorem Room.mono {j k : Nat} {A : Around} (r : Room k A) (h : j ≤ k) : Room j A := ⟨r.hd, by have := r.dp; omega, by have := r.un; omega⟩
theorem Room.deeper {k : Nat} {A : Around} (r : Room (k + 1) A) (env : Env) : Room k (A.deeper env) :=
  ⟨r.hd, by have := r.dp; show A.depth + 1 + 3 * k + 5 < _; omega, by have := r.un; show A.units + 3 + 16 * k + 200 < _; omega⟩
theorem Room.depth {k : Nat} {A : Around} (r : Room k A) : A.depth < recursionLimit := by have := r.dp; omega
def tNil : TA := fun _ H Q => Q [] H
def tCons (ta : TE) (tr : TA) : TA := fun σ H Q => ta σ H fun x H1 => tr σ H1 fun xs H2 => Q (x :: xs) H2
section
variable {X : Cx} {e : Expr} {es : List Expr} {te : TE} {t : TA} {pos : Pos}
theorem pa_nil : PA X [] tNil := fun _ _ _ _ H Q I h => Calls.spliced_nil ⟨[], H, I, .nil, h⟩
theorem pa_cons (ha : PE X e te) (hr : PA X es t) (hs : starEach (e :: es) X.env = (false, eval e X.env) :: starEach es X.env := by rfl) : PA X (e :: es) (tCons te t) := by
  intro pos pins s σ H Q I h
  rw [hs]
  show wpAny _ _ (spliced ((false, eval e X.env) :: backTo pos (starEach es X.env))) _ _ s
  refine Calls.spliced_cons (thn (ha pins s σ H _ I h) fun u s1 ⟨x, H1, I1, r1, q1⟩ => ?_)
  exact thn (hr pos pins s1 σ H1 _ I1 q1) fun us s2 ⟨xs, H2, I2, r2, q2⟩ => ⟨x :: xs, H2, I2, .cons r1 r2, q2⟩
def tTup (t : TA) : TE := fun σ H Q => t σ H fun xs H1 => xs.length ≤ sizeLine ∧ ∀ p, H1 p = none → Q (.ref p) (upd H1 p (.tup xs))
def tLst (t : TA) : TE := fun σ H Q => t σ H fun xs H1 => xs.length ≤ sizeLine ∧ ∀ p, H1 p = none → Q (.ref p) (upd H1 p (.lst xs))
theorem pe_tup {x1} (h : PA X es t) : PE X (.Tuple es x1 pos) (tTup t) := by
  intro pins s σ H Q I hq
  refine wpAny_Tuple_spliced (thn (h pos pins s σ H _ I hq) fun us s1 ⟨xs, H1, I1, r, z, q⟩ => ⟨by rw [← r.length]; exact z, ?_⟩)
  have hf : H1 s1.heap.objs.size = none := I1.hok.fresh (Nat.le_refl _)
  refine ⟨.ref s1.heap.objs.size, upd H1 s1.heap.objs.size (.tup xs), I1.laid (t' := s1.toks) (fun b u e => Heap.get?_push_of_some _ e) (Nat.le_refl _) ?_, rfl, q _ hf⟩
  exact ⟨z, us, r, ⟨_, Heap.get?_push_size _ rfl, rfl, _, rfl⟩⟩
theorem pe_lst (h : PA X es t) : PE X (.List es pos) (tLst t) := by
  intro pins s σ H Q I hq
  refine wpAny_List_spliced (thn (h pos pins s σ H _ I hq) fun us s1 ⟨xs, H1, I1, r, z, q⟩ => ⟨by rw [← r.length]; exact z, ?_⟩)
  have hf : H1 s1.heap.objs.size = none := I1.hok.fresh (Nat.le_refl _)
  refine ⟨.ref s1.heap.objs.size, upd H1 s1.heap.objs.size (.lst xs), I1.laid (t' := s1.toks) (fun b u e => Heap.get?_push_of_some _ e) (Nat.le_refl _) ?_, rfl, q _ hf⟩
  exact ⟨z, us, 0, r, Heap.get?_push_size _ rfl⟩
end
abbrev Sp := List V → Hp → VK → XK → Prop
abbrev CXT := List Env → Hp → Shared → XK → Value → Shared → Prop
structure Env0 (P : Program) (w : World) (K : PySem.W.Frag) (mg : Str → Option Value) (base : Heap) (A : Around) (outer : List Env) (s : Shared) (H : Hp) : Prop where
  frames : A.frames = some outer
  mod : Mod K mg base
  bs : ∀ b o, base.get? b = some o → s.heap.get? b = some o ∧ H b = none
  bsz : base.objs.size ≤ s.heap.objs.size
  funs : s.heap.FunFrames base outer
  frf : ∀ b ∈ frs outer, H b = none
  hok : HOk P w H s.heap
  bare : AllBare s.gens
def CE (outer : List Env) (P : Program) (w : World) (H : Hp) (s : Shared) (Q : VK) (u : Value) (s' : Shared) : Prop :=
  ∃ v H', s'.os = s.os ∧ AllBare s'.gens ∧ Un (frs outer) [] H H' s.heap s'.heap ∧ HOk P w H' s'.heap ∧ RelV v u ∧ Q v H'
def CR (CX : CXT) (outer : List Env) (P : Program) (w : World) (H : Hp) (s : Shared) (Q : VK) (E : XK) (r : Result) (s' : Shared) : Prop :=
  match r with
  | .ok (.ret u) => CE outer P w H s Q u s'
  | .ok _ => False
  | .error e => CX outer H s E e s'
structure FnOk (P : Program) (w : World) (K : PySem.W.Frag) (mg : Str → Option Value) (base : Heap) (CX : CXT) (k : Nat) (f : Addr) (fd : FuncData) (ps : List Str) (sp : Sp) : Prop where
  len : ∀ vs H Q E, sp vs H Q E → vs.length = ps.length
  run : ∀ (A : Around) (outer : List Env) (s : Shared) (H : Hp) (args : Args) (us : List Value) (vs : List V) (Q : VK) (E : XK), Room k A → Env0 P w K mg base A outer s H → BindsTo s fd args (ps.zip us) → Vals vs us → sp vs H Q E →
    codeAny (model P w) A (.call (.ref f) args) (CR CX outer P w H s Q E) s
section
variable {X : Cx} {pins : List (Addr × Obj)} {σ : St} {H : Hp} {s s' : Shared}
theorem Inv.env0 (I : Inv X pins σ H s) : Env0 X.prog X.w X.K X.mg X.base X.A X.stack s H :=
  ⟨I.ok.frames, I.ok.mod, I.bs, Nat.le_trans I.ok.bsz I.sz, I.stack, I.stkFree, I.hok, I.bare⟩
theorem Inv.after {Q : VK} {u : Value} (I : Inv X pins σ H s) (h : CE X.stack X.prog X.w H s Q u s') : EP X pins σ Q u s' := by
  obtain ⟨v, H', os, bare, un, hok, r, q⟩ := h
  obtain ⟨hh, g, d, t, os'⟩ := s'
  obtain rfl : os' = s.os := os
  exact ⟨v, H', I.call (h' := hh) (g' := g) (d' := d) (t' := t) (ch := []) un hok bare (fun b z => absurd z (by simp)), r, q⟩
end
def tCall (sp : Sp) (dvs : List V) (E : XK) (t : TA) : TE := fun σ H Q => t σ H fun vs H1 => sp (vs ++ dvs) H1 Q E
def Binds (K : PySem.W.Frag) (fd : FuncData) (ps : List Str) (ds : List Value) : Prop :=
  ∀ (s : Shared) (us : List Value), K.In s.heap → (us ++ ds).length = ps.length → BindsTo s fd ⟨us, []⟩ (ps.zip (us ++ ds))
theorem Binds.all {K : PySem.W.Frag} {fd : FuncData} {ps : List Str} (h : ∀ us : List Value, us.length = ps.length → bindArgs fd ⟨us, []⟩ = pure (ps.zip us)) : Binds K fd ps [] := fun s us _ hl => by
  rw [List.append_nil] at hl ⊢
  exact .of_eq (h us hl)
def Passes (CX : CXT) (X : Cx) (E : XK) : Prop := ∀ (pins : List (Addr × Obj)) (σ : St) (H : Hp) (s : Shared) (e : Value) (s' : Shared), Inv X pins σ H s → CX X.stack H s E e s' → X.xe e s'
section
variable {X : Cx} {CX : CXT} {k : Nat} {f C : Addr} {fd : FuncData} {ps : List Str} {sp : Sp} {dvs : List V} {ds : List Value} {E : XK} {x m : Str} {p pos apos : Pos} {e o : Expr} {es : List Expr} {ta : TE} {t : TA}
theorem run_fn {pins : List (Addr × Obj)} {σ : St} {H : Hp} {s : Shared} {Q : VK} {us : List Value} {vs : List V} (F : FnOk X.prog X.w X.K X.mg X.base CX k f fd ps sp) (hr : Room k X.A) (hb : Binds X.K fd ps ds) (hd : Vals dvs ds) (hx : Passes CX X E)
    (I : Inv X pins σ H s) (r : Vals vs us) (h : sp (vs ++ dvs) H Q E) : wpAny (model X.prog X.w) X.A (call (.ref f) us) (EP X pins σ Q) X.xe s := by
  have r2 : Vals (vs ++ dvs) (us ++ ds) := r.append hd
  have hl : (us ++ ds).length = ps.length := by rw [← r2.length]; exact F.len _ _ _ _ h
  refine wpAny_call (codeAny_mono (F.run X.A X.stack s H ⟨us, []⟩ (us ++ ds) (vs ++ dvs) Q E hr I.env0 (hb s us I.kIn hl) r2 h) fun r s' hq => ?_)
  cases r with
  | error e => exact hx pins σ H s e s' I hq
  | ok fl =>
    cases fl with
    | ret u => exact I.after hq
    | next => exact False.elim hq
    | brk => exact False.elim hq
    | cont => exact False.elim hq
theorem pe_call (F : FnOk X.prog X.w X.K X.mg X.base CX k f fd ps sp) (hr : Room k X.A) (hg : Gl X x) (hm : X.mg x = some (.ref f)) (hk : PySem.W.keepIn X.K (.ref f) = true) (hb : Binds X.K fd ps ds) (hd : Vals dvs ds) (hx : Passes CX X E)
    (ha : PA X (e :: es) t) (hdb : (x == ("__debug__" : Str)) = false := by decide) (he : starEach (e :: es) X.env = (false, eval e X.env) :: starEach es X.env := by rfl) (hpl : (backTo pos (starEach es X.env)).any (·.1) = false := by rfl) :
    PE X (.Call (.Name x p) (e :: es) [] pos) (tCall sp dvs E t) := by
  intro pins s σ H Q I h
  refine wpAny_Call_Name_kw (ld_glob I hg hm ?_ hdb)
  refine PySem.W.callWith_K (h₀ := X.base) I.ok.mod.kin hk (thn (ha pos pins s σ H _ I h) fun us s1 ⟨vs, H1, I1, r, q⟩ => ⟨I1.kIn, ?_⟩) he hpl
  exact run_fn F hr hb hd hx I1 r q
end
section
variable {X : Cx} {CX : CXT} {k : Nat} {f C : Addr} {fd : FuncData} {ps ks : List Str} {sp : Sp} {E : XK} {x m : Str} {p pos apos kpos : Pos} {e o : Expr} {es : List Expr} {kws : List Keyword} {te ta : TE} {t tk : TA} {nm : Option Str}
variable {g : List Value → List Value → List Value} {gV : List V → List V → List V}
end
structure FnScope (N P : List Str) (sc : Scope) : Prop where
  kind : sc.kind = .function
  co : sc.isCoroutine = false
  gen : sc.isGenerator = false
  nd : N.Nodup
  pre : N.take P.length = P
  par : ∀ x ∈ P, sc.names.lookup x = some .local ∨ sc.names.lookup x = some .cell
  nofree : ∀ y ∈ sc.names, y.2 ≠ .free
theorem bindL_out {kindOf : Str → Option NameKind} {x : Str} : ∀ {binds : List (Str × Value)} {m : Str → Option Value}, (∀ v, (x, v) ∉ binds) → bindL kindOf binds m x = m x
  | [], _, _ => rfl
  | (n, v) :: r, m, h => by
    unfold bindL
    rw [bindL_out fun w hw => h w (List.mem_cons_of_mem _ hw)]
    split
    · have : x ≠ n := by rintro rfl; exact h v List.mem_cons_self
      simp [this]
    · rfl
theorem bindC_out {kindOf : Str → Option NameKind} {x : Str} : ∀ {binds : List (Str × Value)} {m : Str → Option Value}, (∀ v, (x, v) ∉ binds) → bindC kindOf binds m x = m x
  | [], _, _ => rfl
  | (n, v) :: r, m, h => by
    unfold bindC
    rw [bindC_out fun w hw => h w (List.mem_cons_of_mem _ hw)]
    split
    · rfl
    · have : x ≠ n := by rintro rfl; exact h v List.mem_cons_self
      simp [this]
theorem bindL_get {kindOf : Str → Option NameKind} {x : Str} {v : Value} : ∀ {P : List Str} {vs : List Value} {i : Nat} {m : Str → Option Value}, P.Nodup → P[i]? = some x → vs[i]? = some v → kindOf x = some .local →
    bindL kindOf (P.zip vs) m x = some v
  | [], _, _, _, _, h, _, _ => by simp at h
  | _ :: _, [], _, _, _, _, h, _ => by simp at h
  | p :: P, w :: vs, 0, m, nd, h1, h2, hk => by
    simp at h1 h2; subst h1; subst h2
    show bindL kindOf ((p, w) :: P.zip vs) m p = _
    unfold bindL
    rw [bindL_out fun v hv => (List.nodup_cons.mp nd).1 (List.of_mem_zip hv).1, if_pos hk]
    simp
  | p :: P, w :: vs, i + 1, m, nd, h1, h2, hk => by
    show bindL kindOf ((p, w) :: P.zip vs) m x = _
    unfold bindL
    exact bindL_get (i := i) (List.nodup_cons.mp nd).2 (by simpa using h1) (by simpa using h2) hk
theorem bindC_get {kindOf : Str → Option NameKind} {x : Str} {v : Value} : ∀ {P : List Str} {vs : List Value} {i : Nat} {m : Str → Option Value}, P.Nodup → P[i]? = some x → vs[i]? = some v → kindOf x ≠ some .local →
    bindC kindOf (P.zip vs) m x = some v
  | [], _, _, _, _, h, _, _ => by simp at h
  | _ :: _, [], _, _, _, _, h, _ => by simp at h
  | p :: P, w :: vs, 0, m, nd, h1, h2, hk => by
    simp at h1 h2; subst h1; subst h2
    show bindC kindOf ((p, w) :: P.zip vs) m p = _
    unfold bindC
    rw [bindC_out fun v hv => (List.nodup_cons.mp nd).1 (List.of_mem_zip hv).1, if_neg hk]
    simp
  | p :: P, w :: vs, i + 1, m, nd, h1, h2, hk => by
    show bindC kindOf ((p, w) :: P.zip vs) m x = _
    unfold bindC
    exact bindC_get (i := i) (List.nodup_cons.mp nd).2 (by simpa using h1) (by simpa using h2) hk
def start (N : List Str) (vs : List V) : St := vs.map some ++ List.replicate (N.length - vs.length) none
def cxOf (CX : CXT) (P : Program) (w : World) (K : PySem.W.Frag) (mg : Str → Option Value) (base : Heap) (N : List Str) (qual : Str) (scope : Scope) (f : Addr) (cd : Value) (A : Around) (outer : List Env) (s : Shared) (H : Hp) (E : XK) : Cx where
  prog := P
  w := w
  K := K
  mg := mg
  base := base
  A := A.deeper (envOfC qual scope s.heap.objs.size f cd)
  N := N
  s₀ := s
  H₀ := H
  env := envOfC qual scope s.heap.objs.size f cd
  outer := outer
  stack := envOfC qual scope s.heap.objs.size f cd :: outer
  ex := []
  calm := true
  fn := fun _ => true
  pn := []
  xe := fun e s' => wpAny (model P w) (A.deeper (envOfC qual scope s.heap.objs.size f cd)) (leaving (envOfC qual scope s.heap.objs.size f cd) e) (fun _ s'' => CX outer H s E e s'') (fun e' s'' => CX outer H s E e' s'') s'
theorem cell_has {sc : Scope} {n : Nat} {x : Str} (h : sc.names.lookup x = some .cell) : ∃ c, (cellsFrom n sc.names []).lookup x = some c := by
  have q := PySem.W.cellsFrom_some sc.names n [] (.inl h)
  exact Option.isSome_iff_exists.mp q
theorem inv_start {CX : CXT} {P : Program} {w : World} {K : PySem.W.Frag} {mg : Str → Option Value} {base : Heap} {N ps : List Str} {qual : Str} {scope : Scope} {f : Addr} {cd : Value} {A : Around} {outer : List Env} {s s1 : Shared} {H : Hp} {E : XK} {us : List Value} {vs : List V}
    (S : FnScope N ps scope) (hd : A.handled = none) (e0 : Env0 P w K mg base A outer s H) (hl : vs.length = ps.length) (r : Vals vs us)
    (x : InCallC s s.heap.objs.size (bindL (envOfC qual scope s.heap.objs.size f cd).kindOf (ps.zip us) fun _ => none) (cellsFrom (s.heap.objs.size + 1) scope.names []) (bindC (envOfC qual scope s.heap.objs.size f cd).kindOf (ps.zip us) fun _ => none) s1) :
    Inv (cxOf CX P w K mg base N qual scope f cd A outer s H E) [] (start N vs) H s1 := by
  have hpl : ps.length ≤ N.length := by have := congrArg List.length S.pre; rw [List.length_take] at this; omega
  obtain ⟨h1, tk, rfl, hk⟩ := x.done
  have noA : ∀ b : Addr, b ∉ (cxOf CX P w K mg base N qual scope f cd A outer s H E).ex := fun b z => absurd (show b ∈ ([] : List Addr) from z) (by simp)
  refine ⟨⟨e0.mod, S.kind, rfl, rfl, Nat.le_refl _, fun y z c h1 h2 => ?_, fun y hy => ?_, fun y c _ h => ?_, fun _ => hd, Around.frames_deeper e0.frames, .inr ⟨rfl, rfl⟩, fun b z => absurd z (noA b), e0.bs, e0.bsz, fun b _ _ => noA b, fun b z => absurd z (noA b), e0.funs, e0.frf⟩,
    rfl, e0.bare, Un.kept hk, ⟨_, x.toInCall.ns, fun i y v h1 h2 h3 => ?_⟩, fun y c h => ⟨_, x.cell y c h⟩, e0.hok.fresh (Nat.le_refl _), fun y c h => ?_, fun p hp => absurd (show p ∈ ([] : List (Addr × Obj)) from hp) (by simp), e0.hok.kept hk, ?_⟩
  · exact name_of_addr x.apart (PySem.mem_of_lookup h1) (PySem.mem_of_lookup h2)
  · have hy : scope.names.lookup y = some .cell ∨ scope.names.lookup y = some .free := hy
    rcases hy with hy | hy
    · exact cell_has hy
    · exact absurd rfl (S.nofree _ (PySem.mem_of_lookup hy))
  · exact Nat.le_of_lt (x.above y c (PySem.mem_of_lookup h))
  · have hi : i < vs.length := by
      unfold start at h2
      by_cases hi : i < vs.length
      · exact hi
      · rw [List.getElem?_append_right (by simpa using hi)] at h2
        rw [List.getElem?_replicate] at h2
        split at h2 <;> cases h2
    have ha : vs[i]? = some v := by
      unfold start at h2
      rw [List.getElem?_append_left (by simpa using hi), List.getElem?_map] at h2
      cases e : vs[i]? with
      | none => rw [e] at h2; cases h2
      | some a => rw [e] at h2; cases h2; rfl
    obtain ⟨u, hu, rv⟩ := r.get ha
    have hp : ps[i]? = some y := by
      rw [← S.pre, List.getElem?_take_of_lt (by omega)]; exact h1
    have ndP : ps.Nodup := by rw [← S.pre]; exact S.nd.sublist (List.take_sublist _ _)
    refine ⟨u, rv, ?_⟩
    rcases S.par y (List.mem_of_getElem? hp) with k | k
    · exact .inl ⟨k, bindL_get ndP hp hu k⟩
    · obtain ⟨c, e⟩ := cell_has (n := s.heap.objs.size + 1) k
      refine .inr ⟨.inl k, c, e, ?_⟩
      have q := x.cell y c e
      rw [bindC_get ndP hp hu (by show scope.names.lookup y ≠ _; rw [k]; decide)] at q
      exact q
  · exact e0.hok.fresh (Nat.le_of_lt (x.above y c (PySem.mem_of_lookup h)))
  · unfold start
    show _ = N.length
    rw [List.length_append, List.length_map, List.length_replicate]
    omega
theorem fn_of {CX : CXT} {P : Program} {w : World} {K : PySem.W.Frag} {mg : Str → Option Value} {base : Heap} {k : Nat} {f : Addr} {name qual : Str} {params : Arguments} {body : List Stmt} {scope : Scope} {dV kV doc pm cdv ct oc : Value} {an od : Option Addr}
    {osl : Array (Option Value)} {N ps : List Str} {sp : Sp} (lk : K.lookup f = some ⟨oc, od, .func (PySem.W.fnOf name qual params body scope dV kV doc pm an cdv ct), osl⟩) (hcd : PySem.W.codeIn K cdv qual = true) (S : FnScope N ps scope)
    (len : ∀ vs H Q E, sp vs H Q E → vs.length = ps.length)
    (hbody : ∀ (A : Around) (outer : List Env) (s : Shared) (H : Hp) (vs : List V) (Q : VK) (E : XK), Room k (A.deeper (envOfC qual scope s.heap.objs.size f cdv)) → sp vs H Q E →
      ∃ t, PSs (cxOf CX P w K mg base N qual scope f cdv A outer s H E) body t ∧ t { nx := fun _ H' => Q .non H', rt := Q } (start N vs) H) :
    FnOk P w K mg base CX (k + 1) f (PySem.W.fnOf name qual params body scope dV kV doc pm an cdv ct) ps sp := by
  refine ⟨len, fun A outer s H args us vs Q E hr e0 hb r hsp => ?_⟩
  have hl := len _ _ _ _ hsp
  have KX : K.In s.heap := e0.mod.kin.keeps fun b o e => (e0.bs b o e).1
  have lim : s.heap.NoLimit := e0.mod.nolimit.keeps fun b o e => (e0.bs b o e).1
  have hkind : ∀ y ∈ ps.zip us, scope.names.lookup y.1 = some .local ∨ (scope.names.lookup y.1 = some .cell ∧ ((cellsFrom (s.heap.objs.size + 1) scope.names []).lookup y.1).isSome = true) := fun ⟨n, v⟩ hy => by
    rcases S.par n (List.of_mem_zip hy).1 with q | q
    · exact .inl q
    · exact .inr ⟨q, PySem.W.cellsFrom_some _ _ _ (.inl q)⟩
  refine codeAny_call_function hr.depth (KX _ _ lk) rfl S.co S.gen rfl (PySem.W.codeRec_of KX hcd) (hb _ _ _ _ ?_)
  refine wpAny_newFunctionEnv_cells S.kind hkind fun env he s1 x => ?_
  subst he
  refine ⟨lim.keeps x.toInCall.keep, codeAny_func ?_⟩
  obtain ⟨t, ht, hq⟩ := hbody A outer s H vs Q E (hr.deeper _) hsp
  have I : Inv (cxOf CX P w K mg base N qual scope f cdv A outer s H E) [] (start N vs) H s1 := inv_start S hr.hd e0 hl r x
  refine wpAny_mono (ht [] s1 (start N vs) H _ I hq) (fun fl s' hs => ?_) fun e s' hs => hs
  have fin : ∀ {σ' : St} {H' : Hp} {v : V} {u : Value}, Inv (cxOf CX P w K mg base N qual scope f cdv A outer s H E) [] σ' H' s' → RelV v u → Q v H' → CE outer P w H s Q u s' :=
    fun {σ' H' v u} J rv q => ⟨v, H', J.os, J.bare, J.base, J.hok, rv, q⟩
  cases fl with
  | ret u =>
    obtain ⟨v, σ', H', J, rv, q⟩ := hs
    exact fin J rv q
  | next =>
    obtain ⟨σ', H', J, q⟩ := hs
    exact fin (v := V.non) (u := Value.none) J rfl q
  | brk =>
    obtain ⟨_, _, _, q⟩ := hs
    exact False.elim q
  | cont =>
    obtain ⟨_, _, _, q⟩ := hs
    exact False.elim q
end L2
namespace L2
open PySem PySem.Spec PyProof.Rows
section
variable {X : Cx} {x : Str} {p pos : Pos} {e : Expr} {es : List Expr} {t : TA} {id T : String} {r : List V → Hp → VK → Prop}
def tCB (r : List V → Hp → VK → Prop) (t : TA) : TE := fun σ H Q => t σ H fun vs H1 => r vs H1 Q
theorem pe_callB (hc : CallR X (.builtin id) r) (hg : Gl X x) (hm : X.mg x = none) (hv : bootBuiltins x = some (.builtin id)) (ha : PA X (e :: es) t) (hn : x ≠ "__name__" := by decide) (hdb : (x == ("__debug__" : Str)) = false := by decide)
    (he : starEach (e :: es) X.env = (false, eval e X.env) :: starEach es X.env := by rfl) (hpl : (backTo pos (starEach es X.env)).any (·.1) = false := by rfl) : PE X (.Call (.Name x p) (e :: es) [] pos) (tCB r t) := by
  intro pins s σ H Q I h
  refine wpAny_Call_Name_kw (ld_blt I hg hm hv ?_ hn hdb)
  exact PyProof.Rows.callWith_builtin1 (thn (ha pos pins s σ H _ I h) fun us s1 ⟨vs, H1, I1, r1, q1⟩ => hc pins s1 σ H1 vs us Q I1 r1 q1) he hpl
theorem pe_callTy (hc : CallR X (.type T) r) (hg : Gl X x) (hm : X.mg x = none) (hv : bootBuiltins x = some (.type T)) (ha : PA X (e :: es) t) (hn : x ≠ "__name__" := by decide) (hdb : (x == ("__debug__" : Str)) = false := by decide)
    (he : starEach (e :: es) X.env = (false, eval e X.env) :: starEach es X.env := by rfl) (hpl : (backTo pos (starEach es X.env)).any (·.1) = false := by rfl) : PE X (.Call (.Name x p) (e :: es) [] pos) (tCB r t) := by
  intro pins s σ H Q I h
  refine wpAny_Call_Name_kw (ld_blt I hg hm hv ?_ hn hdb)
  exact PyProof.Rows.callWith_type1 (thn (ha pos pins s σ H _ I h) fun us s1 ⟨vs, H1, I1, r1, q1⟩ => hc pins s1 σ H1 vs us Q I1 r1 q1) he hpl
end
end L2
namespace HT
open PySem PyProof.Rows
section
open PySem.SeqAt
open PySem.AutoSeq1 (wpAny_loadPart')
open PySem.MeetsSeq PySem.MeetsSeq2 PySem.MeetsSeq3
end
section
variable {prog : Program} {w : World} {A : Around} {E : Value → Shared → Prop} {s : Shared}
end
end HT
namespace L2
open PySem PySem.Spec PyProof.Rows
theorem intsAre_of {ns : List Int} : ∀ {us : List Value}, Vals (ns.map V.int) us → IntsAre us ns := by
  induction ns with
  | nil => intro us r; rw [List.map_nil] at r; cases r; exact .nil
  | cons n ns ih =>
    intro us r
    rw [List.map_cons] at r
    cases r with
    | cons r1 r2 =>
      obtain ⟨t, e⟩ := r1
      subst e
      exact .cons n t (ih r2)
section
variable {X : Cx} {e : Expr} {te : TE} {lo hi : Option Expr} {tl th : TO} {pos p2 : Pos}
end
end L2
namespace L2
open PySem PySem.Spec PyProof.Rows
def ixN (n : Nat) (i : Int) : Option Nat := if 0 ≤ i then (if i < n then some i.toNat else none) else if -(n : Int) ≤ i then some (i + n).toNat else none
def atI {α : Type} (xs : List α) (i : Int) : Option α := (ixN xs.length i).bind fun j => xs[j]?
theorem ixN_seq {n : Nat} {i : Int} {j : Nat} (h : ixN n i = some j) : seqIndex? i n = some j ∧ j < n ∧ -(n : Int) ≤ i ∧ i < n := by
  unfold ixN at h
  by_cases h0 : 0 ≤ i
  · rw [if_pos h0] at h
    by_cases h1 : i < n
    · rw [if_pos h1] at h
      have e : i.toNat = j := Option.some.inj h
      exact ⟨by rw [seqIndex_of h0 h1, e], by omega, by omega, h1⟩
    · rw [if_neg h1] at h; cases h
  · rw [if_neg h0] at h
    by_cases h1 : -(n : Int) ≤ i
    · rw [if_pos h1] at h
      have e : (i + n).toNat = j := Option.some.inj h
      exact ⟨by rw [seqIndex_neg (by omega) h1, e], by omega, h1, by omega⟩
    · rw [if_neg h1] at h; cases h
theorem atI_get {α : Type} {xs : List α} {i : Int} {v : α} (h : atI xs i = some v) : ∃ j, seqIndex? i xs.length = some j ∧ xs[j]? = some v ∧ j < xs.length ∧ -(xs.length : Int) ≤ i ∧ i < xs.length := by
  unfold atI at h
  cases e : ixN xs.length i with
  | none => rw [e] at h; cases h
  | some j =>
    rw [e] at h
    obtain ⟨h1, h2, h3, h4⟩ := ixN_seq e
    exact ⟨j, h1, h, h2, h3, h4⟩
theorem atI_nat {α : Type} {xs : List α} {j : Nat} {v : α} (h : xs[j]? = some v) : atI xs (j : Int) = some v := by
  have hj : j < xs.length := (List.getElem?_eq_some_iff.mp h).1
  have e : ixN xs.length (j : Int) = some j := by
    unfold ixN
    rw [if_pos (by omega), if_pos (by omega)]; simp
  unfold atI; rw [e]; exact h
def PlainIx (b : Expr) : Prop := ∀ o i, subscripted b false o i = operate [o, i] (getItem o i)
def IxR (X : Cx) (r : R2) : Prop :=
  ∀ (value slice : Expr) (pins : List (Addr × Obj)) (s : Shared) (σ : St) (H : Hp) (x y : V) (v u : Value) (Q : VK), Inv X pins σ H s → RelV x v → RelV y u → r x y H Q →
    subscripted slice false v u = operate [v, u] (getItem v u) → wpAny (model X.prog X.w) X.A (subscriptTail value slice v u) (EP X pins σ Q) X.xe s
def MtR (X : Cx) (id : String) (r : V → List V → Hp → VK → Prop) : Prop :=
  ∀ (pins : List (Addr × Obj)) (s : Shared) (σ : St) (H : Hp) (x : V) (xs : List V) (v : Value) (us : List Value) (Q : VK), Inv X pins σ H s → RelV x v → Vals xs us → r x xs H Q →
    wpAny (model X.prog X.w) X.A (call (.builtin id) (v :: us)) (EP X pins σ Q) X.xe s
section
variable {X : Cx} {a b : Expr} {ta tb : TE} {pos : Pos}
theorem pe_ix {r : R2} (hr : IxR X r) (ha : PE X a ta) (hb : PE X b tb) (hs : PlainIx b) : PE X (.Subscript a b pos) (tOp r ta tb) := by
  intro pins s σ H Q I h
  exact Subscript_ (binT ha hb I h fun v u s2 x y H2 I2 rx ry q => hr a b pins s2 σ H2 x y v u Q I2 rx ry q (hs _ _))
def rIxL (K : PySem.W.Frag) : R2 := fun x y H Q => ∃ p xs i v, x = .ref p ∧ y = .int i ∧ SqL K H p xs ∧ atI xs i = some v ∧ Q v H
theorem ix_list : IxR X (rIxL X.K) := by
  intro value slice pins s σ H x y v u Q I rx ry h hs
  obtain ⟨p, xs, i, z, rfl, rfl, hq, he, q⟩ := h
  cases rx
  obtain ⟨t, rfl⟩ := ry
  obtain ⟨its, r, pl, hz⟩ := I.list hq
  obtain ⟨j, h1, h2, h3, h4, h5⟩ := atI_get he
  obtain ⟨w, ew, rw'⟩ := r.get h2
  have hl := r.length
  have hn := line63
  have fin : EP X pins σ Q w s := ⟨z, H, I, rw', q⟩
  by_cases h0 : 0 ≤ i
  · have hj : i.toNat = j := by
      rw [seqIndex_of h0 h5] at h1
      exact Option.some.inj h1
    exact item_listR pl.isList h0 (by omega) (by rw [hj]; simpa using ew) fin hs
  · have hj : (i + (its.toArray.size : Int)).toNat = j := by
      rw [seqIndex_neg (by omega) h4] at h1
      rw [List.size_toArray, ← hl]
      exact Option.some.inj h1
    exact subscriptTail_builtinR (x := w) pl.isList.typeIs slot_list_getitem.lookup
      (wpAny_getItem_list_neg (Q := fun r s' => r = w ∧ EP X pins σ Q r s') pl.isList (by omega) (by rw [List.size_toArray] <;> omega) (by omega) (by rw [hj]; simpa using ew) ⟨rfl, fin⟩) hs
def flatV : V → Bool
  | .non => true
  | .bl _ => true
  | .int _ => true
  | .str _ => true
  | _ => false
def eqV : V → V → Bool
  | .non, .non => true
  | .bl a, .bl b => a == b
  | .bl a, .int b => (if a then 1 else 0) == b
  | .int a, .bl b => a == (if b then 1 else 0)
  | .int a, .int b => a == b
  | .str a, .str b => a == b
  | _, _ => false
theorem eqAt_V {A : Around} {s : Shared} {y x : V} {u v : Value} (ry : RelV y u) (rx : RelV x v) (fy : flatV y = true) (fx : flatV x = true) : SeqAt.EqAt A s u v (eqV y x) := by
  cases y with
  | non =>
    cases ry
    cases x with
    | non => cases rx; exact SeqAt.EqAt.same _
    | bl b => cases rx; exact SeqAt.EqAt.none_bool b
    | int b => obtain ⟨t, rfl⟩ := rx; exact SeqAt.EqAt.none_int b t
    | str b => obtain ⟨t, rfl⟩ := rx; exact SeqAt.EqAt.none_str b t
    | _ => exact absurd (show false = true from fx) Bool.false_ne_true
  | bl a =>
    cases ry
    cases x with
    | non => cases rx; exact SeqAt.EqAt.bool_none a
    | bl b => cases rx; exact SeqAt.EqAt.bool_bool a b
    | int b => obtain ⟨t, rfl⟩ := rx; exact SeqAt.EqAt.bool_int a b t
    | str b => obtain ⟨t, rfl⟩ := rx; exact SeqAt.EqAt.bool_str a b t
    | _ => exact absurd (show false = true from fx) Bool.false_ne_true
  | int a =>
    obtain ⟨t', rfl⟩ := ry
    cases x with
    | non => cases rx; exact SeqAt.EqAt.int_none a t'
    | bl b => cases rx; exact SeqAt.EqAt.int_bool a t' b
    | int b => obtain ⟨t, rfl⟩ := rx; exact SeqAt.EqAt.int_int a t' b t
    | str b => obtain ⟨t, rfl⟩ := rx; exact SeqAt.EqAt.int_str a t' b t
    | _ => exact absurd (show false = true from fx) Bool.false_ne_true
  | str a =>
    obtain ⟨t', rfl⟩ := ry
    cases x with
    | non => cases rx; exact SeqAt.EqAt.str_none a t'
    | bl b => cases rx; exact SeqAt.EqAt.str_bool a t' b
    | int b => obtain ⟨t, rfl⟩ := rx; exact SeqAt.EqAt.str_int a t' b t
    | str b => obtain ⟨t, rfl⟩ := rx; exact SeqAt.EqAt.str_str a t' b t
    | _ => exact absurd (show false = true from fx) Bool.false_ne_true
  | _ => exact absurd (show false = true from fy) Bool.false_ne_true
def eqU (x : V) (u : Value) : Bool := match u with
  | .none => eqV .non x
  | .bool b => eqV (.bl b) x
  | .int i _ => eqV (.int i) x
  | .str z _ => eqV (.str z) x
  | _ => false
theorem eqU_of {x y : V} {u : Value} (r : RelV y u) (f : flatV y = true) : eqU x u = eqV y x := by
  cases y with
  | non => cases r; rfl
  | bl b => cases r; rfl
  | int i => obtain ⟨t, rfl⟩ := r; rfl
  | str z => obtain ⟨t, rfl⟩ := r; rfl
  | _ => exact absurd (show false = true from f) Bool.false_ne_true
theorem any_eqU {x : V} : ∀ {xs : List V} {us : List Value}, Vals xs us → xs.all flatV = true → us.any (eqU x) = xs.any fun y => eqV y x
  | _, _, .nil, _ => rfl
  | y :: xs, u :: us, .cons r t, f => by
    rw [List.all_cons, Bool.and_eq_true] at f
    rw [List.any_cons, List.any_cons, eqU_of r f.1, any_eqU t f.2]
theorem mem_eqAt {A : Around} {s : Shared} {x : V} {v : Value} (rx : RelV x v) (fx : flatV x = true) : ∀ {xs : List V} {us : List Value}, Vals xs us → xs.all flatV = true → ∀ u ∈ us, SeqAt.EqAt A s u v (eqU x u)
  | _, _, .nil, _ => fun u hu => by cases hu
  | y :: xs, u :: us, .cons r t, f => fun u' hu => by
    rw [List.all_cons, Bool.and_eq_true] at f
    rcases List.mem_cons.mp hu with rfl | hu
    · rw [eqU_of r f.1]; exact eqAt_V r rx f.1 fx
    · exact mem_eqAt rx fx t f.2 u' hu
def inV (x : V) (xs : List V) : Bool := xs.any fun y => eqV y x
def rIn (K : PySem.W.Frag) (neg : Bool) : R2 := fun x y H Q => ∃ p xs, y = .ref p ∧ (SqL K H p xs ∨ SqT K H p xs) ∧ flatV x = true ∧ xs.all flatV = true ∧ Q (.bl (if neg then !inV x xs else inV x xs)) H
theorem op_in_seq : OpR X (compareOp .In) (rIn X.K false) := by
  intro pins s σ H x y v u Q I rx ry h
  obtain ⟨p, xs, rfl, hq, fx, fs, q⟩ := h
  cases ry
  rcases hq with hq | hq
  · obtain ⟨its, r, pl, hz⟩ := I.list hq
    refine SeqAt.in_listAt (eqU x) pl.isList (fun w hw => mem_eqAt rx fx r fs w (by simpa using hw)) ⟨.bl _, H, I, rfl, ?_⟩
    rw [show its.toArray.any (eqU x) = its.any (eqU x) by simp, any_eqU r fs]
    exact q
  · obtain ⟨its, r, pl, hz⟩ := I.tuple hq
    refine SeqAt.in_tupleAt (eqU x) pl (fun w hw => mem_eqAt rx fx r fs w (by simpa using hw)) ⟨.bl _, H, I, rfl, ?_⟩
    rw [show its.toArray.any (eqU x) = its.any (eqU x) by simp, any_eqU r fs]
    exact q
theorem call_len_seq : CallR X (.builtin "len") (fun xs H Q => ∃ p ys, xs = [.ref p] ∧ (SqL X.K H p ys ∨ SqT X.K H p ys) ∧ Q (.int ys.length) H) := by
  intro pins s σ H xs us Q I r h
  obtain ⟨p, ys, rfl, hq, q⟩ := h
  obtain ⟨u, rfl, rx⟩ := vals1 r
  cases rx
  have hn := line63
  rcases hq with hq | hq
  · obtain ⟨its, r', pl, hz⟩ := I.list hq
    have hlen := r'.length
    exact Calls.call_len_list pl.isList (by simp only [List.size_toArray] <;> omega) ⟨.int ys.length, H, I.tok _, ⟨s.toks + 1, by rw [List.size_toArray, hlen]⟩, q⟩
  · obtain ⟨its, r', pl, hz⟩ := I.tuple hq
    have hlen := r'.length
    exact len_tuple pl (by simp only [List.size_toArray] <;> omega) ⟨.int ys.length, H, I.tok _, ⟨s.toks + 1, by rw [List.size_toArray, hlen]⟩, q⟩
theorem call_list_of : CallR X (.type "list") (fun xs H Q => ∃ p ys, xs = [.ref p] ∧ (SqL X.K H p ys ∨ SqT X.K H p ys) ∧ ∀ l, H l = none → Q (.ref l) (upd H l (.lst ys))) := by
  intro pins s σ H xs us Q I r h
  obtain ⟨p, ys, rfl, hq, q⟩ := h
  obtain ⟨u, rfl, rx⟩ := vals1 r
  cases rx
  have fin : ∀ (its : List Value), Vals ys its → ys.length ≤ sizeLine → ∀ (h' : Heap) (c' : Nat), (∀ b o', s.heap.get? b = some o' → h'.get? b = some o') →
      h'.get? s.heap.objs.size = some { cls := .type "list", dict := none, data := .seq its.toArray c', slots := #[] } → EP X pins σ Q (.ref s.heap.objs.size) { s with heap := h' } := fun its r' hz h' c' kp e =>
    ⟨.ref s.heap.objs.size, _, I.laid (t' := s.toks) kp (Nat.le_refl _) (show ObjOk X.prog X.w _ h' _ (.lst ys) from ⟨hz, its, c', r', e⟩), rfl, q _ (I.hok.fresh (Nat.le_refl _))⟩
  rcases hq with hq | hq
  · obtain ⟨its, r', pl, hz⟩ := I.list hq
    have hlen := r'.length
    obtain ⟨o, ho, hc, n, hd⟩ := pl.isList
    exact call_list_seq p (.inl rfl) ho hc hd (fun h' c' kp e => fin its r' hz h' c' kp e) (by simp only [List.size_toArray] <;> omega)
  · obtain ⟨its, r', pl, hz⟩ := I.tuple hq
    have hlen := r'.length
    obtain ⟨o, ho, hc, n, hd⟩ := pl
    exact call_list_seq p (.inr rfl) ho hc hd (fun h' c' kp e => fin its r' hz h' c' kp e) (by simp only [List.size_toArray] <;> omega)
def tyV (K : PySem.W.Frag) (T : String) (x : V) (H : Hp) : Prop := match x with
  | .str _ => T = "str"
  | .int _ => T = "int"
  | .ref p => (T = "list" ∧ ∃ xs, SqL K H p xs) ∨ (T = "tuple" ∧ ∃ o, K.lookup p = some o ∧ o.cls = .type "tuple" ∧ o.dict = none) ∨
      (T = "dict" ∧ ((∃ kvs, H p = some (.dK kvs)) ∨ ∃ kvs, H p = some (.dT kvs))) ∨ (T = "set" ∧ ∃ S n, H p = some (.set S n))
  | _ => False
theorem tyV_is {pins : List (Addr × Obj)} {σ : St} {H : Hp} {s : Shared} {T : String} {x : V} {v : Value} (I : Inv X pins σ H s) (r : RelV x v) (ty : tyV X.K T x H) :
    s.TypeIs v T ∧ ∀ a, v = .ref a → ∃ ob, s.heap.get? a = some ob ∧ ob.dict = none := by
  cases x with
  | str z =>
    obtain ⟨t, rfl⟩ := r
    cases (show T = "str" from ty)
    exact ⟨typeIs_str s z t, fun _ e => nomatch e⟩
  | int i =>
    obtain ⟨t, rfl⟩ := r
    cases (show T = "int" from ty)
    exact ⟨typeIs_int s i t, fun _ e => nomatch e⟩
  | ref p =>
    cases r
    rcases ty with ⟨rfl, xs, hq⟩ | ⟨rfl, o, hk, hc, hd⟩ | ⟨rfl, hk⟩ | ⟨rfl, S, n, hk⟩
    · obtain ⟨its, _, pl, _⟩ := I.list hq
      refine ⟨pl.isList.typeIs, fun a e => ?_⟩
      cases e
      obtain ⟨o, n, e, c, hd, _⟩ := pl
      exact ⟨o, e, hd⟩
    · refine ⟨⟨o, I.kIn p o hk, hc⟩, fun a e => ?_⟩
      cases e
      exact ⟨o, I.kIn _ o hk, hd⟩
    · have z : ∃ o, s.heap.get? p = some o ∧ o.ExactDict := by
        rcases hk with ⟨kvs, hk⟩ | ⟨kvs, hk⟩
        · obtain ⟨_, _, _, _, o, _, _, e, ex, _⟩ := I.hok p _ hk
          exact ⟨o, e, ex⟩
        · obtain ⟨_, _, _, _, o, _, _, e, ex, _⟩ := I.hok p _ hk
          exact ⟨o, e, ex⟩
      obtain ⟨o, e, ex⟩ := z
      refine ⟨⟨o, e, ex.1⟩, fun a e2 => ?_⟩
      cases e2
      exact ⟨o, e, ex.2.1⟩
    · obtain ⟨o, _, _, _, e, ex, _⟩ := I.hok p _ hk
      refine ⟨⟨o, e, ex.1⟩, fun a e2 => ?_⟩
      cases e2
      exact ⟨o, e, ex.2.1⟩
  | _ => exact False.elim ty
def tBM0 (K : PySem.W.Frag) (T : String) (r : V → List V → Hp → VK → Prop) (to : TE) : TE := fun σ H Q => to σ H fun x H1 => tyV K T x H1 ∧ r x [] H1 Q
def tBM (K : PySem.W.Frag) (T : String) (r : V → List V → Hp → VK → Prop) (to : TE) (t : TA) : TE := fun σ H Q => to σ H fun x H1 => tyV K T x H1 ∧ t σ H1 fun xs H2 => r x xs H2 Q
variable {o e : Expr} {es : List Expr} {to : TE} {t : TA} {name : Str} {apos cpos : Pos} {T id : String} {r : V → List V → Hp → VK → Prop}
theorem pe_bm0 (pa : PlainAttrs T) (slot : Slot T name id) (hty : typeOf (.builtin id) = pure (.type "method_descriptor")) (hm : MtR X id r) (ho : PE X o to)
    (hbase : attributeBase o name X.env (eval o X.env) = eval o X.env := by rfl) (hline : (apos.endLine == cpos.line) = true := by rfl) : PE X (.Call (.Attribute o name apos) [] [] cpos) (tBM0 X.K T r to) := by
  intro pins s σ H Q I h
  refine wpAny_Call_method0_late hbase hline (thn (ho pins s σ H _ I h) fun v s1 ⟨x, H1, I1, r1, ty, q1⟩ => ?_)
  obtain ⟨h1, h2⟩ := tyV_is I1 r1 ty
  exact ⟨T, id, pa, slot, hty, h1, h2, Calls.callWith_builtin rfl (PySem.evalArgs_none (hm pins s1 σ H1 x [] v [] Q I1 r1 .nil q1))⟩
theorem pe_bm (pa : PlainAttrs T) (slot : Slot T name id) (hty : typeOf (.builtin id) = pure (.type "method_descriptor")) (hm : MtR X id r) (ho : PE X o to) (ha : PA X (e :: es) t)
    (hbase : attributeBase o name X.env (eval o X.env) = eval o X.env := by rfl)
    (hfew : ((backTo cpos (starEach (e :: es) X.env)).all (fun x => !x.1) && (backToKw cpos (keywordEach [] X.env)).all (fun x => x.1.isSome)
      && decide ((e :: es).length + ([] : List Keyword).length + (if ([] : List Keyword).isEmpty then 0 else 1) < 30)) = true := by rfl)
    (hline : (apos.endLine == cpos.line) = true := by rfl) (hs : starEach (e :: es) X.env = (false, eval e X.env) :: starEach es X.env := by rfl) (hplain : (backTo cpos (starEach es X.env)).any (·.1) = false := by rfl) :
    PE X (.Call (.Attribute o name apos) (e :: es) [] cpos) (tBM X.K T r to t) := by
  intro pins s σ H Q I h
  refine wpAny_Call_method_late hbase hfew hline rfl (thn (ho pins s σ H _ I h) fun v s1 ⟨x, H1, I1, r1, ty, q1⟩ => ?_)
  obtain ⟨h1, h2⟩ := tyV_is I1 r1 ty
  refine ⟨T, id, pa, slot, hty, h1, h2, ?_⟩
  have hA := ha cpos pins s1 σ H1 _ I1 q1
  rw [hs] at hA ⊢
  refine Calls.callWith_builtin (by show (false || (backTo cpos (starEach es X.env)).any (·.1)) = false; rw [hplain] <;> rfl) (Calls.evalArgs_plain ?_)
  exact thn hA fun us s2 ⟨vs, H2, I2, r2, q2⟩ => hm pins s2 σ H2 x vs v us Q I2 r1 r2 q2
end
end L2
namespace L2
open PySem PySem.Spec PyProof.Rows
def MtM (X : Cx) (id : String) (r : V → List V → Hp → VK → Prop) : Prop :=
  ∀ (pins : List (Addr × Obj)) (s : Shared) (σ : St) (H : Hp) (x : V) (xs : List V) (v : Value) (us : List Value) (Q : VK), Inv X pins σ H s → RelV x v → Vals xs us → r x xs H Q →
    wpAny (model X.prog X.w) X.A (call (.builtin id) (v :: us)) (EP X pins σ Q) X.xe s
theorem Vals.one {x : V} {us : List Value} (h : Vals [x] us) : ∃ u, us = [u] ∧ RelV x u := by
  cases h with
  | cons r t => cases t; exact ⟨_, rfl, r⟩
theorem Vals.two {x y : V} {us : List Value} (h : Vals [x, y] us) : ∃ u v, us = [u, v] ∧ RelV x u ∧ RelV y v := by
  cases h with
  | cons r t =>
    obtain ⟨v, rfl, q⟩ := Vals.one t
    exact ⟨_, _, rfl, r, q⟩
theorem Vals.zero : ∀ {us : List Value}, Vals [] us → us = []
  | _, .nil => rfl
theorem Vals.eraseIdx : ∀ {xs : List V} {us : List Value} (i : Nat), Vals xs us → Vals (xs.eraseIdx i) (us.eraseIdx i)
  | _, _, _, .nil => .nil
  | _, _, 0, .cons _ t => t
  | _, _, i + 1, .cons r t => .cons r (Vals.eraseIdx i t)
theorem Vals.reverse {xs : List V} {us : List Value} (h : Vals xs us) : Vals xs.reverse us.reverse := by
  induction h with
  | nil => exact .nil
  | cons r t ih => rw [List.reverse_cons, List.reverse_cons]; exact Vals.append ih (.cons r .nil)
theorem len_erase {α : Type} : ∀ (l : List α) (i : Nat), (l.eraseIdx i).length ≤ l.length
  | [], _ => Nat.le_refl _
  | _ :: _, 0 => Nat.le_succ _
  | _ :: r, i + 1 => Nat.succ_le_succ (len_erase r i)
section
variable {X : Cx} {pins : List (Addr × Obj)} {σ : St} {H : Hp} {s : Shared} {l b : Addr} {xs ys zs : List V}
theorem Inv.lset {its its' : List Value} {n : Nat} {f : Array Value → Array Value} {t' : Nat} (I : Inv X pins σ H s) (hH : H l = some (.lst xs))
    (e : s.heap.get? l = some { cls := .type "list", data := .seq its.toArray n }) (hf : f its.toArray = its'.toArray) (hv : Vals ys its') (hz : ys.length ≤ sizeLine) :
    Inv X pins σ (upd H l (.lst ys)) { s with heap := s.heap.update l (Obj.mapSeq f), toks := t' } := by
  have q := PySem.IsL.update e f
  rw [hf] at q
  refine I.write (x := l) (e := l) (by rw [hH]; exact trivial) (.inl rfl) (fun b' u hb hu => (Heap.get?_update_other s.heap (Obj.mapSeq f) (Ne.symm hb)).trans hu) ⟨_, q⟩ ?_
  exact ⟨hz, its', _, hv, q⟩
theorem Inv.lnew {its : List Value} {t' : Nat} (I : Inv X pins σ H s) (hv : Vals ys its) (hz : ys.length ≤ sizeLine) :
    Inv X pins σ (upd H s.heap.objs.size (.lst ys)) { s with heap := s.heap.push { cls := .type "list", data := .seq its.toArray }, toks := t' } :=
  I.laid (fun _ _ q => Heap.get?_push_of_some _ q) (Nat.le_refl _) ⟨hz, its, 0, hv, Heap.get?_push_size _ rfl⟩
theorem Inv.fresh (I : Inv X pins σ H s) : H s.heap.objs.size = none := I.hok.fresh (Nat.le_refl _)
theorem Inv.lstM (I : Inv X pins σ H s) (hH : H l = some (.lst xs)) : xs.length ≤ sizeLine ∧ ∃ (its : List Value) (n : Nat), Vals xs its ∧ xs.length = its.length ∧ s.heap.get? l = some { cls := .type "list", data := .seq its.toArray n } := by
  obtain ⟨z, its, n, r, e⟩ := I.hok l _ hH
  exact ⟨z, its, n, r, r.length, e⟩
end
section
variable {X : Cx}
def rAppend : V → List V → Hp → VK → Prop := fun x vs H Q => ∃ l xs y, x = .ref l ∧ vs = [y] ∧ H l = some (.lst xs) ∧ xs.length < sizeLine ∧ Q .non (upd H l (.lst (xs ++ [y])))
theorem mt_append : MtM X "list.append" rAppend := by
  intro pins s σ H x vs v us Q I rx rv h
  obtain ⟨l, xs, y, rfl, rfl, hH, hz, q⟩ := h
  cases rx
  obtain ⟨u, rfl, ru⟩ := rv.one
  obtain ⟨z, its, n, r, hl, e⟩ := I.lstM hH
  refine call_meets F.slot_list_append ⟨_, e, rfl⟩ F.entry_list_append (F.args_list_append_2 _ _) (PySem.list_append l its.toArray n u (by rw [List.size_toArray]; omega)) ⟨e, ?_⟩
  refine ⟨.non, _, I.lset (its' := its ++ [u]) hH e (by simp) (r.append (.cons ru .nil)) ?_, rfl, q⟩
  rw [List.length_append, List.length_singleton]
  omega
def rPopAt : V → List V → Hp → VK → Prop := fun x vs H Q => ∃ l xs i k y, x = .ref l ∧ vs = [.int i] ∧ H l = some (.lst xs) ∧ -(2 ^ 63) ≤ i ∧ i < 2 ^ 63 ∧ seqIndex? i xs.length = some k ∧ xs[k]? = some y ∧ Q y (upd H l (.lst (xs.eraseIdx k)))
theorem mt_popAt : MtM X "list.pop" rPopAt := by
  intro pins s σ H x vs v us Q I rx rv h
  obtain ⟨l, xs, i, k, y, rfl, rfl, hH, h1, h2, hk, hy, q⟩ := h
  cases rx
  obtain ⟨u, rfl, ru⟩ := rv.one
  obtain ⟨t, rfl⟩ := ru
  obtain ⟨z, its, n, r, hl, e⟩ := I.lstM hH
  obtain ⟨w, hw, rw'⟩ := r.get hy
  refine call_meets F.slot_list_pop ⟨_, e, rfl⟩ F.entry_list_pop (F.args_list_pop_2 _ _)
    (MeetsSeq.list_pop_at l its.toArray n i t k w (fitsIndex_both h1 h2) (by rw [List.size_toArray, ← hl]; exact hk) (by rw [← Array.getElem?_toList]; exact hw) (by rw [List.size_toArray]; omega)) ⟨e, ?_⟩
  refine ⟨y, _, I.lset (its' := its.eraseIdx k) hH e ?_ (r.eraseIdx k) ?_, rw', q⟩
  · show its.toArray.eraseIdxIfInBounds k = (its.eraseIdx k).toArray
    rw [List.eraseIdxIfInBounds_toArray]
  · have := len_erase xs k
    omega
def rReverse : V → List V → Hp → VK → Prop := fun x vs H Q => ∃ l xs, x = .ref l ∧ vs = [] ∧ H l = some (.lst xs) ∧ Q .non (upd H l (.lst xs.reverse))
theorem mt_reverse : MtM X "list.reverse" rReverse := by
  intro pins s σ H x vs v us Q I rx rv h
  obtain ⟨l, xs, rfl, rfl, hH, q⟩ := h
  cases rx
  have hus := rv.zero
  subst hus
  obtain ⟨z, its, n, r, hl, e⟩ := I.lstM hH
  refine call_meets F.slot_list_reverse ⟨_, e, rfl⟩ F.entry_list_reverse (F.args_list_reverse_1 _) (AutoSeq1.list_reverse_list_0 l its.toArray n (by rw [List.size_toArray]; omega)) ⟨e, ?_⟩
  refine ⟨.non, _, I.lset (its' := its.reverse) hH e (by simp) r.reverse ?_, rfl, q⟩
  rw [List.length_reverse]
  omega
def rCat : R2 := fun x y H Q => ∃ l b xs zs, x = .ref l ∧ y = .ref b ∧ H l = some (.lst xs) ∧ H b = some (.lst zs) ∧ xs.length + zs.length ≤ sizeLine ∧ ∀ p, H p = none → Q (.ref p) (upd H p (.lst (xs ++ zs)))
theorem op_cat : OpR X (binaryOp .Add) rCat := by
  intro pins s σ H x y v u Q I rx ry h
  obtain ⟨l, b, xs, zs, rfl, rfl, hH, hB, hz, q⟩ := h
  cases rx
  cases ry
  obtain ⟨z, its, n, r, hl, e⟩ := I.lstM hH
  obtain ⟨z2, its2, n2, r2, hl2, e2⟩ := I.lstM hB
  refine PySem.P.add_list e e2 ?_ (by rw [List.size_toArray, List.size_toArray]; omega)
  have ea : its.toArray ++ its2.toArray = (its ++ its2).toArray := by simp
  rw [ea]
  exact ⟨.ref _, _, I.lnew (t' := s.toks) (r.append r2) (by rw [List.length_append]; omega), rfl, q _ I.fresh⟩
end
section
variable {prog : Program} {w : World} {A : Around} {E : Value → Shared → Prop} {s : Shared}
end
section
variable {X : Cx}
end
end L2
namespace Att
open PySem PySem.W PySem.Calls PyProof.Rows
theorem ints_of_wellAll {P : Params} {h : Heap} : ∀ (ns : List Int) (vs : List Value), WellAll P h vs (ns.map WData.int) → IntsAre vs ns := by
  intro ns
  induction ns with
  | nil =>
    intro vs w
    rw [List.map_nil] at w
    cases w
    exact .nil
  | cons n ns ih =>
    intro vs w
    rw [List.map_cons] at w
    cases w with
    | cons a b =>
      cases a
      exact .cons _ _ (ih _ b)
theorem script_of {l : OpenLaw} {n : Nat} (hn : l.most = some n) {P : Params} {h : Heap} {args : List WData} {vals : List Value}
    (hpre : l.row.toRowW.claim.pre args = true) (hwl : WellAll P h vals args) :
    ∃ a vs ns, vals = [Value.ref a] ∧ args = [WData.list (ns.map WData.int)] ∧ h.get? a = some { cls := .type "list", data := .seq vs.toArray } ∧ IntsAre vs ns ∧ ns.length ≤ n := by
  have hsh : WShape.hasAll [] args [.list .int] = true := (pre_splitW hpre).1
  have hc : l.pre.holds [] { args := args } = true := (pre_splitW hpre).2
  obtain ⟨d, r, rfl, h1, h2⟩ := hasAllW_cons hsh
  obtain rfl := hasAllW_nil h2
  obtain ⟨xs, rfl, h3⟩ := hasW_list h1
  obtain ⟨ns, rfl⟩ := items_int h3
  have hlen : ns.length ≤ n := by
    unfold OpenLaw.pre at hc
    have h4 : (WTm.not (.lt (.lit (.int (n : Int))) (.len (.arg 0)))).holds [] { args := [.list (ns.map .int)] } = true := by
      have h4 := (holds_andW hc).1
      rw [hn] at h4
      exact h4
    have h5 := condW_of h4 (w_not (w_lt w_lit (w_len_list (w_arg rfl))))
    rw [List.length_map] at h5
    refine Nat.le_of_not_lt fun q => ?_
    have q' : (n : Int) < ((ns.length : Nat) : Int) := by omega
    first
      | (rw [decide_eq_true q'] at h5; exact absurd h5 (by decide))
      | (simp at h5; omega)
  cases hwl with
  | cons w1 w2 =>
    cases w2
    cases w1 with
    | list ho hall => exact ⟨_, _, ns, rfl, rfl, ho, ints_of_wellAll ns _ hall, hlen⟩
theorem post_true (l : OpenLaw) (args : List WData) : l.row.toRowW.claim.post args (.bool true) args = true :=
  postW_of (r := l.row.toRowW) (X := (true == true))
    (show WShape.has [] (.bool true) .bool = true by first | rfl | decide | simp [WShape.has, WShape.arms, WShape.armsAll])
    (show (WTm.eq .res (.lit (.bool true))).value [] { args := args, res := some (.bool true), after := args } = some (.bool (true == true)) from w_eq_bool (w_res rfl) w_lit) rfl
section
variable {prog : Program} {w : World} {A : Around} {E : Value → Shared → Prop} {s : Shared} {K : Frag}
end
end Att
namespace L2
open PySem PySem.Spec PyProof.Rows
theorem vals_ints : ∀ {vs : List Value} {ns : List Int}, IntsAre vs ns → Vals (ns.map V.int) vs
  | _, _, .nil => .nil
  | _, _, .cons n t h => .cons ⟨t, rfl⟩ (vals_ints h)
def Only (H : Hp) : Prop := ∀ b, H b = none ∨ ∃ o xs, H b = some (.frz o (.lst xs))
theorem law_call {P : Program} {w : World} {K : PySem.W.Frag} {mg mb : Str → Option Value} {CX : CXT} {k : Nat} {fa a : Addr} {fd : FuncData} {x : Str} {sp : Sp} {s₁ : Shared} {vs : List Value} {ns : List Int}
    (KX : K.In s₁.heap) (hns : s₁.heap.Ns mainGlobals mg) (hb : s₁.heap.Ns builtinsNs mb) (hbb : ∀ x : Str, x ≠ "__name__" → mb x = bootBuiltins x) (hlim : s₁.heap.NoLimit) (hg : s₁.gens = #[])
    (ha : s₁.heap.get? a = some { cls := .type "list", data := .seq vs.toArray }) (hi : IntsAre vs ns) (hl : ns.length ≤ sizeLine) (hr : Room k callerA)
    (F : ∀ base : Heap, K.In base → base.Ns mainGlobals mg → FnOk P w K mg base CX k fa fd [x] sp) (hbind : ∀ (s : Shared) (u : Value), BindsTo s fd ⟨[u], []⟩ [(x, u)])
    (hsp : ∀ H : Hp, Only H → SqL K H a (ns.map V.int) → sp [.ref a] H (fun v _ => v = .bl true) fun _ _ _ => False)
    (hCX : ∀ H e s', CX [] H s₁ (fun _ _ _ => False) e s' → False) :
    codeAny (model P w) callerA (.call (.ref fa) ⟨[.ref a], []⟩) (fun r s' => r = .ok (.ret (.bool true)) ∧ OldK s₁.heap s'.heap ∧ s'.os = s₁.os ∧ AllBare s'.gens) s₁ := by
  have rv := vals_ints hi
  have lenV := hi.length
  -- from an abstract heap in which nothing but the script may be tracked
  have core : ∀ H : Hp, Only H → SqL K H a (ns.map V.int) → HOk P w H s₁.heap → (∀ b, H b ≠ none → b = a) → (H a ≠ none → K.lookup a = none) →
      codeAny (model P w) callerA (.call (.ref fa) ⟨[.ref a], []⟩) (fun r s' => r = .ok (.ret (.bool true)) ∧ OldK s₁.heap s'.heap ∧ s'.os = s₁.os ∧ AllBare s'.gens) s₁ := by
    intro H hO hS hok hA hK
    have base_of : ∀ {b : Addr} {o : Obj}, s₁.heap.get? b = some o → H b = none → (hidT s₁.heap H).get? b = some o := fun e n => hidT_get e n
    have noA : ∀ {b : Addr} {o : Obj} {es : Array DictEntry} {ep : Nat}, s₁.heap.get? b = some o → o.data = .dict es ep → H b = none := fun {b o es ep} e d => by
      cases q : H b with
      | none => rfl
      | some u =>
        have e' : b = a := hA b (by rw [q]; simp)
        subst e'
        rw [ha] at e; cases e
        have d' : Data.seq vs.toArray _ = Data.dict es ep := d
        cases d'
    have nsK : ∀ {b : Addr} {m : Str → Option Value}, s₁.heap.Ns b m → (hidT s₁.heap H).Ns b m := fun {b m} ⟨o, es, ep, e, d, r⟩ => ⟨o, es, ep, base_of e (noA e d), d, r⟩
    have hKb : K.In (hidT s₁.heap H) := fun b o e => base_of (KX b o e) (by
      cases q : H b with
      | none => rfl
      | some u =>
        have e' : b = a := hA b (by rw [q]; simp)
        subst e'
        rw [hK (by rw [q]; simp)] at e; cases e)
    have hM : Mod K mg (hidT s₁.heap H) := ⟨hKb, nsK hns, ⟨mb, nsK hb, hbb⟩, let ⟨mc, h1, h2⟩ := hlim; ⟨mc, nsK h1, h2⟩⟩
    have e0 : Env0 P w K mg (hidT s₁.heap H) callerA [] s₁ H := ⟨rfl, hM, fun b o e => of_hidT e, Nat.le_of_eq (hidT_size _ _), trivial, fun b hb => absurd (show b ∈ ([] : List Addr) from hb) (by simp), hok, .of_eq hg⟩
    refine codeAny_mono ((F _ hKb (nsK hns)).run callerA [] s₁ H ⟨[.ref a], []⟩ [.ref a] [.ref a] _ _ hr e0 (hbind s₁ (.ref a)) (.cons rfl .nil) (hsp H hO hS)) fun r s' h => ?_
    cases r with
    | error e => exact (hCX H e s' h).elim
    | ok fl =>
      cases fl with
      | next => exact False.elim h
      | brk => exact False.elim h
      | cont => exact False.elim h
      | ret u =>
        obtain ⟨v, H', os, bare, un, hok', r', q⟩ := h
        have q' : v = .bl true := q
        subst q'
        obtain rfl : u = Value.bool true := r'
        refine ⟨rfl, OldK.of_keep fun b o e => ?_, os, bare⟩
        cases q : H b with
        | none => exact un.keep b o e q (by intro z; exact absurd (show b ∈ ([] : List Addr) from z) (by simp)) (by simp)
        | some u =>
          rcases hO b with z | ⟨ob, xs, z⟩
          · rw [q] at z; cases z
          · have z2 := un.frzs b ob _ z
            obtain ⟨e1, _⟩ := hok b _ z
            obtain ⟨e2, _⟩ := hok' b _ z2
            rw [e] at e1; cases e1
            exact e2
  cases hk : K.lookup a with
  | some o =>
    -- the script is one of the module's own objects
    have e := KX a o hk
    rw [ha] at e
    cases e
    refine core (fun _ => none) (fun _ => .inl rfl) (.inr ⟨_, vs.toArray, _, hk, rfl, rfl, rfl, by rw [List.size_toArray, lenV]; exact hl, by simpa using rv⟩) (fun b u z => by have z' : (none : Option HO) = some u := z; cases z') (fun b z => absurd rfl z) fun z => absurd rfl z
  | none =>
    refine core (fun b => if b = a then some (.frz { cls := .type "list", data := .seq vs.toArray } (.lst (ns.map V.int))) else none) (fun b => ?_) (.inl (.inr ⟨{ cls := .type "list", data := .seq vs.toArray }, if_pos rfl⟩)) (fun b u z => ?_) (fun b z => ?_) fun _ => hk
    · by_cases hb : b = a
      · exact .inr ⟨_, _, if_pos hb⟩
      · exact .inl (if_neg hb)
    · by_cases hb : b = a
      · have z' := (if_pos hb).symm.trans z
        cases z'
        subst hb
        exact ⟨ha, by rw [List.length_map]; exact hl, vs, _, rv, ha⟩
      · have z' := (if_neg hb).symm.trans z
        cases z'
    · by_cases hb : b = a
      · exact hb
      · exact absurd (if_neg hb) z
end L2
namespace L2
open PySem PySem.Spec PyProof.Rows
end L2
namespace L2
open PySem PySem.Spec PyProof.Rows
def defArgs (s : Stmt) : Arguments := match s with
  | .FunctionDef _ a _ _ _ _ _ _ _ _ => a
  | _ => { posonlyargs := [], args := [], vararg := none, kwonlyargs := [], kw_defaults := [], kwarg := none, defaults := [] }
def defBody (s : Stmt) : List Stmt := match s with
  | .FunctionDef _ _ b _ _ _ _ _ _ _ => b
  | _ => []
def defScope (s : Stmt) : Scope := match s with
  | .FunctionDef _ _ _ _ _ _ sc _ _ _ => sc
  | _ => { kind := .function, names := [], isGenerator := false, isCoroutine := false }
abbrev CX0 : CXT := fun _ _ _ _ _ _ => False
abbrev E0 : XK := fun _ _ _ => False
theorem pass0 {X : Cx} : Passes CX0 X E0 := fun _ _ _ _ _ _ _ h => h.elim
structure Fun (K : PySem.W.Frag) (x qual : Str) (st : Stmt) (f : Addr) (fd : FuncData) : Prop where
  ex : ∃ (oc : Value) (od : Option Addr) (kV doc pm : Value) (an : Option Addr) (cdv ct : Value) (osl : Array (Option Value)),
    fd = PySem.W.fnOf x qual (defArgs st) (defBody st) (defScope st) .none kV doc pm an cdv ct ∧ K.lookup f = some ⟨oc, od, .func fd, osl⟩ ∧ PySem.W.codeIn K cdv qual = true
  kp : PySem.W.keepIn K (.ref f) = true
section
variable {P : Program} {w : World} {K : PySem.W.Frag} {mg : Str → Option Value} {base : Heap}
theorem Fun.ok {x qual : Str} {st : Stmt} {f : Addr} {fd : FuncData} {N ps : List Str} {k : Nat} {sp : Sp} (F : Fun K x qual st f fd) (S : FnScope N ps (defScope st)) (len : ∀ vs H Q E, sp vs H Q E → vs.length = ps.length)
    (hbody : ∀ (cdv : Value) (A : Around) (outer : List Env) (s : Shared) (H : Hp) (vs : List V) (Q : VK) (E : XK), Room k (A.deeper (envOfC qual (defScope st) s.heap.objs.size f cdv)) → sp vs H Q E →
      ∃ t, PSs (cxOf CX0 P w K mg base N qual (defScope st) f cdv A outer s H E).nox (defBody st) t ∧ t { nx := fun _ H' => Q .non H', rt := Q } (start N vs) H) : FnOk P w K mg base CX0 (k + 1) f fd ps sp := by
  obtain ⟨oc, od, kV, doc, pm, an, cdv, ct, osl, rfl, lk, hcd⟩ := F.ex
  refine fn_of lk hcd S len fun A outer s H vs Q E hr hsp => ?_
  obtain ⟨t, h, q⟩ := hbody cdv A outer s H vs Q E hr hsp
  exact ⟨t, h.nox, q⟩
theorem Fun.binds {x qual : Str} {st : Stmt} {f : Addr} {fd : FuncData} {ps : List Str} (F : Fun K x qual st f fd)
    (h : ∀ (kV doc pm : Value) (an : Option Addr) (cdv ct : Value) (us : List Value), us.length = ps.length → bindArgs (PySem.W.fnOf x qual (defArgs st) (defBody st) (defScope st) .none kV doc pm an cdv ct) ⟨us, []⟩ = pure (ps.zip us)) : Binds K fd ps [] := by
  obtain ⟨oc, od, kV, doc, pm, an, cdv, ct, osl, rfl, lk, hcd⟩ := F.ex
  exact .all (h kV doc pm an cdv ct)
theorem fun_mk {x qual : Str} {st : Stmt} {f : Addr} {oc : Value} {od an : Option Addr} {osl : Array (Option Value)} {kV doc pm cdv ct : Value} (l : K.lookup f = some ⟨oc, od, .func (PySem.W.fnOf x qual (defArgs st) (defBody st) (defScope st) .none kV doc pm an cdv ct), osl⟩)
    (c : PySem.W.codeIn K cdv qual = true) (k : PySem.W.keepIn K (.ref f) = true) : Fun K x qual st f (PySem.W.fnOf x qual (defArgs st) (defBody st) (defScope st) .none kV doc pm an cdv ct) := ⟨⟨oc, od, kV, doc, pm, an, cdv, ct, osl, rfl, l, c⟩, k⟩
end
theorem small1000 {n : Nat} (h : n ≤ 1000) : n < sizeLine := Nat.lt_of_le_of_lt h (by decide)
section
variable {X : Cx}
theorem pv (i : Nat) {x : Str} {pos : Pos} (hN : X.N[i]? = some x := by rfl) (hv : Vis X.env.scope x := by first | exact Or.inl rfl | exact Or.inr (Or.inl rfl) | exact Or.inr (Or.inr rfl)) (hd : (x == ("__debug__" : Str)) = false := by decide)
    (hcd : (x == ("__classdict__" : Str)) = false := by decide) : PE X (.Name x pos) (tVar i) := pe_var hN hv hd hcd
end
theorem iteF {A B : Prop} (h : B) : if false = true then A else B := by
  rw [if_neg Bool.false_ne_true]
  exact h
theorem iteT {A B : Prop} (h : A) : if true = true then A else B := by
  rw [if_pos rfl]
  exact h
theorem ite2 {c A B : Prop} [Decidable c] (h1 : c → A) (h2 : ¬ c → B) : if c then A else B := by
  by_cases h : c
  · rw [if_pos h]
    exact h1 h
  · rw [if_neg h]
    exact h2 h
theorem iteNS {c A B : Prop} [Decidable c] (hc : c) (h : B) : if (!decide c) = true then A else B := by
  rw [decide_eq_true hc]
  exact iteF h
def Same (H H' : Hp) : Prop := ∀ b o, H b = some o → H' b = some o
theorem Same.refl (H : Hp) : Same H H := fun _ _ h => h
theorem Same.trans {H H1 H2 : Hp} (a : Same H H1) (b : Same H1 H2) : Same H H2 := fun c o h => b c o (a c o h)
theorem Same.free {H H' : Hp} (e : Same H H') {l : Addr} (h : H' l = Option.none) : H l = Option.none := by
  cases q : H l with
  | none => rfl
  | some o =>
    rw [e l o q] at h
    cases h
theorem Same.seq {K : PySem.W.Frag} {H H' : Hp} {a : Addr} {xs : List V} (e : Same H H') (h : SqL K H a xs) : SqL K H' a xs := by
  rcases h with (h | ⟨o, h⟩) | h
  · exact .inl (.inl (e _ _ h))
  · exact .inl (.inr ⟨o, e _ _ h⟩)
  · exact .inr h
end L2
namespace L2
open PySem PySem.Spec PyProof.Rows
def clFor (cells : List (Str × Addr)) : List (Str × NameKind) → List (Str × Addr) → List (Str × Addr)
  | [], acc => acc
  | (n, k) :: r, acc => if k == .free then (match cells.lookup n with | some a => clFor cells r ((n, a) :: acc) | none => clFor cells r acc) else clFor cells r acc
theorem closureFor_eq {scope : Scope} {env : Env} (h : ∀ x ∈ scope.names, x.2 = .free → ∃ c, env.cells.lookup x.1 = some c) :
    closureFor scope env = pure (clFor env.cells scope.names []) := by
  have key : ∀ (f : Str × NameKind → List (Str × Addr) → Sem (ForInStep (List (Str × Addr)))),
      (∀ n k cs, f (n, k) cs = if k == .free then (do let a ← cellOf env n; pure (ForInStep.yield ((n, a) :: cs))) else pure (ForInStep.yield cs)) →
      ∀ (names : List (Str × NameKind)) (acc : List (Str × Addr)), (∀ x ∈ names, x.2 = .free → ∃ c, env.cells.lookup x.1 = some c) →
      forIn names acc f = (pure (clFor env.cells names acc) : Sem (List (Str × Addr))) := by
    intro f hf names
    induction names with
    | nil => intro acc _; rfl
    | cons x r ih =>
      intro acc hx
      obtain ⟨n, k⟩ := x
      rw [List.forIn_cons, hf]
      have hr : ∀ y ∈ r, y.2 = .free → ∃ c, env.cells.lookup y.1 = some c := fun y hy => hx y (List.mem_cons_of_mem _ hy)
      by_cases hk : k = .free
      · obtain ⟨c, hc⟩ := hx (n, k) List.mem_cons_self hk
        have hc' : env.cells.lookup n = some c := hc
        subst hk
        have e : clFor env.cells ((n, NameKind.free) :: r) acc = clFor env.cells r ((n, c) :: acc) := by
          simp only [clFor, beq_self_eq_true, if_true, hc']
        rw [e]
        simp only [beq_self_eq_true, if_true, cellOf, hc', pure_bind]
        exact ih _ hr
      · have hb : (k == NameKind.free) = false := by simpa using hk
        have e : clFor env.cells ((n, k) :: r) acc = clFor env.cells r acc := by
          simp only [clFor, hb, Bool.false_eq_true, if_false]
        rw [e]
        simp only [hb, Bool.false_eq_true, if_false, pure_bind]
        exact ih _ hr
  have q := key (fun x cs => match x with | (name, kind) => if (kind == NameKind.free) = true then (do let a ← cellOf env name; pure (ForInStep.yield ((name, a) :: cs))) else pure (ForInStep.yield cs)) (fun _ _ _ => rfl) scope.names [] h
  exact (congrArg (fun m : Sem (List (Str × Addr)) => m >>= fun cs => pure cs) q).trans (pure_bind _ _)
theorem clFor_of (cells : List (Str × Addr)) {x : Str} {c : Addr} : ∀ (names : List (Str × NameKind)) (acc : List (Str × Addr)),
    (clFor cells names acc).lookup x = some c → acc.lookup x = some c ∨ ((x, NameKind.free) ∈ names ∧ cells.lookup x = some c)
  | [], acc, h => .inl h
  | (n, k) :: r, acc, h => by
    unfold clFor at h
    split at h
    · rename_i hk
      have hk' : k = .free := by simpa using hk
      split at h
      · rename_i a ha
        rcases clFor_of cells r _ h with q | ⟨q, q2⟩
        · rw [List.lookup_cons] at q
          cases hb : x == n with
          | true =>
            rw [hb] at q
            have e : x = n := by simpa using hb
            subst e hk'
            exact .inr ⟨List.mem_cons_self, by rw [ha]; exact q⟩
          | false => rw [hb] at q; exact .inl q
        · exact .inr ⟨List.mem_cons_of_mem _ q, q2⟩
      · rcases clFor_of cells r _ h with q | ⟨q, q2⟩
        · exact .inl q
        · exact .inr ⟨List.mem_cons_of_mem _ q, q2⟩
    · rcases clFor_of cells r _ h with q | ⟨q, q2⟩
      · exact .inl q
      · exact .inr ⟨List.mem_cons_of_mem _ q, q2⟩
theorem clFor_keep (cells : List (Str × Addr)) {x : Str} {c : Addr} (hc : cells.lookup x = some c) : ∀ (names : List (Str × NameKind)) (acc : List (Str × Addr)),
    acc.lookup x = some c → (clFor cells names acc).lookup x = some c
  | [], acc, h => h
  | (n, k) :: r, acc, h => by
    unfold clFor
    split
    · split
      · rename_i a ha
        refine clFor_keep cells hc r _ ?_
        rw [List.lookup_cons]
        cases hb : x == n with
        | true =>
          have e : x = n := by simpa using hb
          subst e
          rw [hc] at ha
          exact ha ▸ rfl
        | false => exact h
      · exact clFor_keep cells hc r _ h
    · exact clFor_keep cells hc r _ h
theorem clFor_has (cells : List (Str × Addr)) {x : Str} {c : Addr} (hc : cells.lookup x = some c) : ∀ (names : List (Str × NameKind)) (acc : List (Str × Addr)),
    (x, NameKind.free) ∈ names → (clFor cells names acc).lookup x = some c
  | [], acc, h => by cases h
  | (n, k) :: r, acc, h => by
    unfold clFor
    rcases List.mem_cons.mp h with e | h
    · cases e
      simp only [beq_self_eq_true, if_true, hc]
      exact clFor_keep cells hc r _ (by rw [List.lookup_cons]; simp)
    · split
      · split
        · exact clFor_has cells hc r _ h
        · exact clFor_has cells hc r _ h
      · exact clFor_has cells hc r _ h
theorem cellsFrom_of {x : Str} {c : Addr} : ∀ (names : List (Str × NameKind)) (n : Nat) (acc : List (Str × Addr)),
    (cellsFrom n names acc).lookup x = some c → acc.lookup x = some c ∨ ((x, NameKind.cell) ∈ names ∧ n ≤ c)
  | [], n, acc, h => .inl h
  | (nm, k) :: r, n, acc, h => by
    unfold cellsFrom at h
    split at h
    · rename_i hk
      have hk' : k = .cell := by simpa using hk
      rcases cellsFrom_of r _ _ h with q | ⟨q, q2⟩
      · rw [List.lookup_cons] at q
        cases hb : x == nm with
        | true =>
          rw [hb] at q
          have e : x = nm := by simpa using hb
          subst e hk'
          have q' : n = c := Option.some.inj q
          exact .inr ⟨List.mem_cons_self, by omega⟩
        | false => rw [hb] at q; exact .inl q
      · exact .inr ⟨List.mem_cons_of_mem _ q, by omega⟩
    · rcases cellsFrom_of r _ _ h with q | ⟨q, q2⟩
      · exact .inl q
      · exact .inr ⟨List.mem_cons_of_mem _ q, q2⟩
theorem cellsFrom_out {x : Str} : ∀ (names : List (Str × NameKind)) (n : Nat) (acc : List (Str × Addr)),
    (x, NameKind.cell) ∉ names → (cellsFrom n names acc).lookup x = acc.lookup x
  | [], n, acc, h => rfl
  | (nm, k) :: r, n, acc, h => by
    unfold cellsFrom
    have hr : (x, NameKind.cell) ∉ r := fun z => h (List.mem_cons_of_mem _ z)
    split
    · rename_i hk
      have hk' : k = .cell := by simpa using hk
      rw [cellsFrom_out r _ _ hr, List.lookup_cons]
      have : (x == nm) = false := by
        rw [beq_eq_false_iff_ne]
        rintro rfl
        exact h (by rw [hk']; exact List.mem_cons_self)
      rw [this]
    · exact cellsFrom_out r _ _ hr
theorem cellsFrom_inj : ∀ (names : List (Str × NameKind)) (n : Nat) (acc : List (Str × Addr)), (∀ x c, acc.lookup x = some c → c < n) → (∀ x y c, acc.lookup x = some c → acc.lookup y = some c → x = y) →
    ∀ x y c, (cellsFrom n names acc).lookup x = some c → (cellsFrom n names acc).lookup y = some c → x = y
  | [], n, acc, h1, h2 => h2
  | (nm, k) :: r, n, acc, h1, h2 => by
    unfold cellsFrom
    split
    · refine cellsFrom_inj r _ _ (fun x c e => ?_) (fun x y c e1 e2 => ?_)
      · rw [List.lookup_cons] at e
        cases hb : x == nm with
        | true => rw [hb] at e; have q : n = c := Option.some.inj e; exact q ▸ Nat.lt_succ_self n
        | false => rw [hb] at e; exact Nat.lt_succ_of_lt (h1 x c e)
      · rw [List.lookup_cons] at e1 e2
        cases hx : x == nm with
        | true =>
          rw [hx] at e1
          have q : n = c := Option.some.inj e1
          cases hy : y == nm with
          | true => rw [show x = nm by simpa using hx, show y = nm by simpa using hy]
          | false => rw [hy] at e2; exact absurd (h1 y c e2) (q ▸ Nat.lt_irrefl n)
        | false =>
          rw [hx] at e1
          cases hy : y == nm with
          | true =>
            rw [hy] at e2
            have q : n = c := Option.some.inj e2
            exact absurd (h1 x c e1) (q ▸ Nat.lt_irrefl n)
          | false => rw [hy] at e2; exact h2 x y c e1 e2
    · exact cellsFrom_inj r _ _ h1 h2
theorem pushCells_cell {x : Str} {c : Addr} : ∀ (names : List (Str × NameKind)) (h : Heap) (acc : List (Str × Addr)),
    (cellsFrom h.objs.size names acc).lookup x = some c → acc.lookup x = some c ∨ (pushCells h names).IsCell c none
  | [], h, acc, e => .inl e
  | (nm, k) :: r, h, acc, e => by
    unfold cellsFrom at e
    unfold pushCells
    split at e
    · rename_i hk
      rw [if_pos hk]
      have e' : (cellsFrom (h.push { cls := .type "cell", data := .cell none }).objs.size r ((nm, h.objs.size) :: acc)).lookup x = some c := by
        rw [Heap.size_push]; exact e
      rcases pushCells_cell r _ _ e' with q | q
      · rw [List.lookup_cons] at q
        cases hb : x == nm with
        | true =>
          rw [hb] at q
          have q' : h.objs.size = c := Option.some.inj q
          subst q'
          exact .inr ⟨_, pushCells_keeps r _ _ _ (Heap.get?_push_size _ rfl), rfl⟩
        | false => rw [hb] at q; exact .inl q
      · exact .inr q
    · rename_i hk
      rw [if_neg hk]
      exact pushCells_cell r h acc e
theorem lookup_relabel {env : Env} {x : Str} : ∀ (names : List (Str × NameKind)),
    (names.map fun (n, k) => if (k == NameKind.free && env.scope.kind == .function && env.kindOf n == some .cell) then (n, NameKind.cell) else (n, k)).lookup x =
      (names.lookup x).map fun k => if (k == NameKind.free && env.scope.kind == .function && env.kindOf x == some .cell) then NameKind.cell else k
  | [] => rfl
  | (nm, k) :: r => by
    have ih := lookup_relabel (env := env) (x := x) r
    rw [List.map_cons]
    show List.lookup x ((if (k == NameKind.free && env.scope.kind == .function && env.kindOf nm == some .cell) = true then (nm, NameKind.cell) else (nm, k)) :: _) = _
    cases hx : x == nm with
    | true =>
      have e : x = nm := by simpa using hx
      subst e
      by_cases hc : (k == NameKind.free && env.scope.kind == .function && env.kindOf x == some .cell) = true
      · rw [if_pos hc, List.lookup_cons, List.lookup_cons, beq_self_eq_true]
        show some NameKind.cell = some (if (k == NameKind.free && env.scope.kind == .function && env.kindOf x == some .cell) = true then NameKind.cell else k)
        rw [if_pos hc]
      · rw [if_neg hc, List.lookup_cons, List.lookup_cons, beq_self_eq_true]
        show some k = some (if (k == NameKind.free && env.scope.kind == .function && env.kindOf x == some .cell) = true then NameKind.cell else k)
        rw [if_neg hc]
    | false =>
      by_cases hc : (k == NameKind.free && env.scope.kind == .function && env.kindOf nm == some .cell) = true
      · rw [if_pos hc]; simp only [List.lookup_cons, hx]; exact ih
      · rw [if_neg hc]; simp only [List.lookup_cons, hx]; exact ih
end L2
namespace L2
open PySem PySem.Spec PyProof.Rows
def cxC (X : Cx) (scope : Scope) (N' : List Str) (s : Shared) (H : Hp) (fp : List Addr) : Cx where
  prog := X.prog
  w := X.w
  K := X.K
  mg := X.mg
  base := X.base
  A := X.A
  N := N'
  s₀ := s
  H₀ := H
  env := compEnvC scope (cellsFrom (s.heap.objs.size + 1) scope.names (clFor X.env.cells scope.names [])) s.heap.objs.size X.env
  outer := X.stack
  stack := X.stack
  ex := fp
  fn := fun x => decide (scope.names.lookup x = some .cell)
  calm := X.calm
  pn := []
  xe := fun _ _ => False
def startC (caps : List (Option Nat)) (σ : St) : St := caps.map fun o => o.bind fun i => (σ[i]?).bind fun v => v
structure CScope (X : Cx) (scope : Scope) (N' : List Str) (caps : List (Option Nat)) : Prop where
  kind : scope.kind = .function
  uniq : (scope.names.map (·.1)).Nodup
  free : ∀ x ∈ scope.names, x.2 = .free → X.env.kindOf x.1 = some .cell ∨ X.env.kindOf x.1 = some .free
  len : caps.length = N'.length
  cap : ∀ (j i : Nat) (x : Str), caps[j]? = some (some i) → N'[j]? = some x → X.N[i]? = some x ∧ (x, NameKind.free) ∈ scope.names
theorem lookup_of_mem {α : Type} : ∀ {l : List (Str × α)} {x : Str} {k : α}, (l.map (·.1)).Nodup → (x, k) ∈ l → l.lookup x = some k
  | [], _, _, _, h => by cases h
  | (y, j) :: r, x, k, nd, h => by
    rw [List.map_cons, List.nodup_cons] at nd
    rw [List.lookup_cons]
    rcases List.mem_cons.mp h with e | h
    · cases e; simp
    · have : (x == y) = false := by
        rw [beq_eq_false_iff_ne]
        intro e
        exact nd.1 (e ▸ List.mem_map.mpr ⟨(x, k), h, rfl⟩)
      rw [this]
      exact lookup_of_mem nd.2 h
section
variable {X : Cx} {pins : List (Addr × Obj)} {σ : St} {H : Hp} {s : Shared} {scope : Scope} {N' : List Str} {caps : List (Option Nat)} {fp : List Addr}
theorem CScope.names (S : CScope X scope N' caps) : ∀ x ∈ scope.names, x.2 = .local → scope.names.lookup x.1 = some .local := fun x hx hl => by
  obtain ⟨n, k⟩ := x
  cases hl
  exact lookup_of_mem S.uniq hx
theorem CScope.clos (S : CScope X scope N' caps) (ok : X.Ok) : closureFor scope X.env = pure (clFor X.env.cells scope.names []) :=
  closureFor_eq fun x hx hf => ok.has x.1 (S.free x hx hf)
theorem inv_comp (I : Inv X pins σ H s) (S : CScope X scope N' caps) (hfp : ∀ b ∈ fp, FpOk X pins H b) (hfo : ∀ b ∈ fp, ∃ o, s.heap.get? b = some o) :
    Inv (cxC X scope N' s H fp) [] (startC caps σ) H { s with heap := pushCells (s.heap.push { cls := .type "dict", data := .dict #[] }) scope.names } := by
  have keep : ∀ b o, s.heap.get? b = some o → (pushCells (s.heap.push { cls := .type "dict", data := .dict #[] }) scope.names).get? b = some o :=
    fun b o e => pushCells_keeps _ _ b o (Heap.get?_push_of_some _ e)
  have accLt : ∀ x c, (clFor X.env.cells scope.names []).lookup x = some c → (x, NameKind.free) ∈ scope.names ∧ X.env.cells.lookup x = some c := fun x c e => by
    rcases clFor_of _ _ _ e with q | q
    · cases q
    · exact q
  have cellLt : ∀ x c, X.env.cells.lookup x = some c → c < s.heap.objs.size := fun x c e => by
    obtain ⟨v, q⟩ := I.cell x c e
    exact q.lt
  have kf : ∀ x, (cxC X scope N' s H fp).env.kindOf x = (scope.names.lookup x).map fun k => if (k == NameKind.free && X.env.scope.kind == .function && X.env.kindOf x == some .cell) then NameKind.cell else k := fun x => lookup_relabel scope.names
  have ofCells : ∀ x c, (cxC X scope N' s H fp).env.cells.lookup x = some c → ((x, NameKind.free) ∈ scope.names ∧ X.env.cells.lookup x = some c) ∨ ((x, NameKind.cell) ∈ scope.names ∧ s.heap.objs.size + 1 ≤ c) := fun x c e => by
    rcases cellsFrom_of _ _ _ e with q | q
    · exact .inl (accLt x c q)
    · exact .inr q
  have notC : ∀ x, (x, NameKind.free) ∈ scope.names → (x, NameKind.cell) ∉ scope.names := fun x h1 h2 => by
    have a := lookup_of_mem S.uniq h1
    rw [lookup_of_mem S.uniq h2] at a
    cases a
  have freeCell : ∀ x c, (x, NameKind.free) ∈ scope.names → X.env.cells.lookup x = some c → (cxC X scope N' s H fp).env.cells.lookup x = some c := fun x c hx e => by
    have q : (cellsFrom (s.heap.objs.size + 1) scope.names (clFor X.env.cells scope.names [])).lookup x = some c := by
      rw [cellsFrom_out _ _ _ (notC x hx)]
      exact clFor_has _ e _ _ hx
    exact q
  have bigCell : ∀ x c, (cxC X scope N' s H fp).env.cells.lookup x = some c → s.heap.objs.size + 1 ≤ c → (pushCells (s.heap.push { cls := .type "dict", data := .dict #[] }) scope.names).IsCell c none := fun x c e hc => by
    have e' : (cellsFrom (s.heap.push { cls := .type "dict", data := .dict #[] }).objs.size scope.names (clFor X.env.cells scope.names [])).lookup x = some c := by
      rw [Heap.size_push]; exact e
    rcases pushCells_cell _ _ _ e' with q | q
    · exact absurd (Nat.lt_of_lt_of_le (cellLt x c (accLt x c q).2) (Nat.le_of_succ_le hc)) (Nat.lt_irrefl _)
    · exact q
  refine ⟨⟨I.mod, S.kind, I.ok.glob, I.ok.blt, Nat.le_refl _, ?inj, ?has, ?cab, I.ok.hd, I.ok.frames, .inl rfl, ?exf, I.bs, Nat.le_trans I.ok.bsz I.sz, ?noex, ?exfs, I.stack, I.stkFree⟩,
    rfl, I.bare, Un.kept keep, ⟨fun _ => none, (Heap.Ns.new s.heap (.type "dict")).keeps (pushCells_keeps _ _), ?loc⟩, ?cell, I.hok.fresh (Nat.le_refl _), ?freeC, fun p hp => absurd (show p ∈ ([] : List (Addr × Obj)) from hp) (by simp), I.hok.kept keep, ?len⟩
  case inj =>
    refine cellsFrom_inj scope.names _ _ (fun x c e => ?_) (fun x y c e1 e2 => I.ok.inj x y c (accLt x c e1).2 (accLt y c e2).2)
    exact Nat.lt_succ_of_lt (cellLt x c (accLt x c e).2)
  case has =>
    intro x hx
    rw [kf] at hx
    cases hl : scope.names.lookup x with
    | none => rw [hl] at hx; rcases hx with hx | hx <;> cases hx
    | some k =>
      have hm := PySem.mem_of_lookup hl
      by_cases hk : k = .free
      · subst hk
        obtain ⟨c, hc⟩ := I.ok.has x (S.free _ hm rfl)
        exact ⟨c, freeCell x c hm hc⟩
      · have hb : (k == NameKind.free) = false := by simpa using hk
        rw [hl] at hx
        simp only [Option.map_some, hb, Bool.false_and, Bool.false_eq_true, if_false, Option.some.injEq] at hx
        have hk2 : k = .cell := by
          rcases hx with z | z
          · exact z
          · exact absurd z hk
        subst hk2
        exact Option.isSome_iff_exists.mp (PySem.W.cellsFrom_some scope.names (s.heap.objs.size + 1) (clFor X.env.cells scope.names []) (.inl hl))
  case cab =>
    intro x c hf e
    have hf' : scope.names.lookup x = some .cell := of_decide_eq_true hf
    rcases ofCells x c e with ⟨q, _⟩ | ⟨_, q⟩
    · exact absurd (PySem.mem_of_lookup hf') (notC x q)
    · show s.heap.objs.size ≤ c
      omega
  case exf =>
    intro b hb
    obtain ⟨o, ho⟩ := hfo b hb
    have hlt := Heap.lt_size ho
    obtain ⟨f0, f1, f2, f3, f4, f5⟩ := hfp b hb
    refine ⟨Nat.ne_of_lt hlt, fun x c e => ?_⟩
    rcases ofCells x c e with ⟨_, q⟩ | ⟨_, q⟩
    · exact f4 x c q
    · exact (Nat.ne_of_lt (Nat.lt_of_lt_of_le hlt (Nat.le_of_succ_le q))).symm
  case noex =>
    intro b o e hb
    obtain ⟨f0, f1, f2, f3, f4, f5⟩ := hfp b hb
    rcases f3 with z | z
    · exact I.ok.noex b o e z
    · exact absurd (Nat.lt_of_lt_of_le (Heap.lt_size e) (Nat.le_trans I.ok.bsz z)) (Nat.lt_irrefl _)
  case exfs =>
    intro b hb z
    obtain ⟨f0, f1, f2, f3, f4, f5⟩ := hfp b hb
    rcases List.mem_cons.mp (I.stkSub b z) with q | q
    · exact f1 q
    · exact f2 q
  case loc =>
    intro i x v h1 h2 h3
    unfold startC at h2
    rw [List.getElem?_map] at h2
    cases hc : caps[i]? with
    | none => rw [hc] at h2; cases h2
    | some o =>
      rw [hc] at h2
      cases o with
      | none => cases h2
      | some k =>
        have h2' : ((σ[k]?).bind fun v => v) = some v := by simpa using h2
        obtain ⟨e1, e2⟩ := S.cap i k x hc h1
        have hσ : σ[k]? = some (some v) := by
          cases hq : σ[k]? with
          | none => rw [hq] at h2'; cases h2'
          | some y => rw [hq] at h2'; simp at h2'; rw [h2']
        have hkd := S.free _ e2 rfl
        obtain ⟨m, hn, hl⟩ := I.loc
        obtain ⟨u, r, lk⟩ := hl k x v e1 hσ (by rcases hkd with q | q; exact .inr (.inl q); exact .inr (.inr q))
        refine ⟨u, r, ?_⟩
        rcases lk with ⟨q, _⟩ | ⟨q, c, e, z⟩
        · rcases hkd with z | z
          · rw [q] at z; cases z
          · rw [q] at z; cases z
        · refine .inr ⟨?_, c, freeCell x c e2 e, z.keeps keep⟩
          rw [kf, lookup_of_mem S.uniq e2]
          simp only [Option.map_some, beq_self_eq_true, Bool.true_and]
          split
          · exact .inl rfl
          · exact .inr rfl
  case cell =>
    intro x c e
    rcases ofCells x c e with ⟨_, q⟩ | ⟨_, q⟩
    · obtain ⟨v, z⟩ := I.cell x c q
      exact ⟨v, z.keeps keep⟩
    · exact ⟨none, bigCell x c e q⟩
  case freeC =>
    intro x c e
    rcases ofCells x c e with ⟨_, q⟩ | ⟨_, q⟩
    · exact I.freeC x c q
    · exact I.hok.fresh (by omega)
  case len =>
    show (startC caps σ).length = N'.length
    unfold startC
    rw [List.length_map, S.len]
theorem Inv.comp_end {H3 H' : Hp} {s3 s' : Shared} {pins' : List (Addr × Obj)} {σ' : St} (I : Inv X pins σ H s) (hos : s3.os = s.os) (u3 : Un (frs X.stack) fp H H3 s.heap s3.heap) (hfp : ∀ b ∈ fp, FpOk X pins H b)
    (J : Inv (cxC X scope N' s3 H3 fp) pins' σ' H' s') : Inv X pins σ H' s' := by
  refine I.call' (ch := fp) (J.os.trans hos) (u3.trans J.base) J.hok J.bare fun b hb => ?_
  obtain ⟨f0, f1, f2, f3, f4, f5⟩ := hfp b hb
  exact ⟨f3, f1, f4, f5⟩
theorem wpAny_newFunctionEnv_comp {M : Model} {A : Around} {E : Value → Shared → Prop} {globals : Addr} {cl : List (Str × Addr)} {qual : Str} {env : Env} {Q : Env → Shared → Prop}
    (hQ : Q (newEnv scope s.heap.objs.size globals (cellsFrom (s.heap.objs.size + 1) scope.names cl) qual none .none (some env) builtinsNs) { s with heap := pushCells (s.heap.push { cls := .type "dict", data := .dict #[] }) scope.names }) :
    wpAny M A (newFunctionEnv scope globals cl [] qual none .none (some env)) Q E s := by
  simp only [newFunctionEnv, Option.isSome_some, if_true]
  refine wpAny_bind (wpAny_alloc ?_)
  refine wpAny_bind (wpAny_layCells _ (fun nm kd cs => by cases hkd : kd == NameKind.cell <;> simp [hkd]) _ _ _ _ ?_)
  rw [show ({ s with heap := s.heap.push { cls := .type "dict", data := .dict #[] } } : Shared).heap.objs.size = s.heap.objs.size + 1 from Heap.size_push ..]
  rw [List.forIn_nil]
  exact wpAny_bind (wpAny_pure (wpAny_pure hQ))
end
section
variable {pg : Program} {wd : World} {Ar : Around} {Rz : Result → Shared → Prop} {s0 : Shared}
theorem codeAny_compLoop_tgt {elt tg it0 : Expr} {cs : List Expr} {sco : Scope} {ps : Pos} {itv ac : Value} {ev : Env} (J : Nat → Shared → Prop)
    (hturn : ∀ m t, J m t → wpAny (model pg wd) Ar (pyNext itv) (fun rr t₁ => match rr with
      | none => Rz (.ok .next) t₁
      | some v => wpAny (model pg wd) Ar (letOwnedTupleGo tg itv v) (fun _ t₁ => wpAny (model pg wd) Ar (assign tg ev v) (fun _ t₂ =>
          wpAny (model pg wd) Ar (forIn cs true fun c r => if r = true then do let ok ← isTrue c ev (eval c ev); pure (ForInStep.yield ok) else pure (ForInStep.yield r)) (fun good t₃ =>
            if good = true then wpAny (model pg wd) Ar (eval elt ev) (fun y t₄ =>
              wpAny (model pg wd) Ar (call (.builtin "list.append") [ac, y]) (fun _ t₅ => ∃ k, k < m ∧ J k t₅) (fun _ _ => False) t₄) (fun _ _ => False) t₃
            else ∃ k, k < m ∧ J k t₃) (fun _ _ => False) t₂) (fun _ _ => False) t₁) (fun _ _ => False) t₁) (fun _ _ => False) t)
    (m0 : Nat) (h0 : J m0 s0) : codeAny (model pg wd) Ar (.compLoop (.ListComp elt [⟨tg, it0, cs, 0⟩] sco ps) 0 itv ac ev) Rz s0 := by
  have no : ∀ {α : Type} {tr : Sem α} {Q : α → Shared → Prop} {E : Value → Shared → Prop} {t : Shared}, wpAny (model pg wd) Ar tr Q (fun _ _ => False) t → wpAny (model pg wd) Ar tr Q E t :=
    fun z => wpAny_mono z (fun _ _ x => x) fun _ _ x => x.elim
  refine codeAny_loop rfl J (fun m t hJ => wpAny_noted ?_) m0 h0
  show wpAny _ Ar (compTurn (.ListComp elt [⟨tg, it0, cs, 0⟩] sco ps) 0 itv ac ev) _ _ t
  rw [compTurn_list]
  refine wpAny_bind (wpAny_standAt (wpAny_bind (wpAny_mono (no (hturn m t hJ)) (fun rr t₁ q₁ => ?_) fun _ _ z => z)))
  cases rr with
  | none => exact wpAny_pure q₁
  | some v =>
    refine wpAny_bind (wpAny_mono (no q₁) (fun _ t₁ q₂ => ?_) fun _ _ z => z)
    refine wpAny_bind (wpAny_mono (no q₂) (fun _ t₂ q₃ => wpAny_bind (wpAny_mono (no q₃) (fun good t₃ q₄ => ?_) fun _ _ z => z)) fun _ _ z => z)
    cases good with
    | false => exact wpAny_pure (And.intro rfl q₄)
    | true =>
      refine wpAny_bind (wpAny_bind (wpAny_mono (no q₄) (fun y t₄ q₅ => wpAny_bind (wpAny_mono (no q₅)
        (fun _ t₅ q₆ => wpAny_pure (wpAny_pure (And.intro rfl q₆))) fun _ _ z => z)) fun _ _ z => z))
end
end L2
namespace L2
open PySem PySem.Spec PyProof.Rows
def PIf (X : Cx) (ifs : List Expr) (t : TT) : Prop :=
  ∀ (pins : List (Addr × Obj)) (s : Shared) (σ : St) (H : Hp) (Q : Bool → Hp → Prop), Inv X pins σ H s → t σ H Q →
    wpAny (model X.prog X.w) X.A (forIn ifs true fun c r => if r = true then do let ok ← isTrue c X.env (eval c X.env); pure (ForInStep.yield ok) else pure (ForInStep.yield r)) (TP X pins σ Q) X.xe s
def tTrue : TT := fun _ H Q => Q true H
theorem tt_intro {σ : St} {H : Hp} {A B : Hp → Prop} (h : A H) : tTrue σ H (fun b H5 => if b = true then A H5 else B H5) := by
  show if true = true then A H else B H
  exact iteT h
theorem pif_nil {X : Cx} : PIf X [] tTrue := fun _ _ _ H _ I h => wpAny_tests_nil ⟨H, I, h⟩
theorem pif_one {X : Cx} {c : Expr} {t : TT} (h : PT X c t) : PIf X [c] t := fun pins s σ H Q I q => wpAny_tests_one (h pins s σ H Q I q)
def CapKeep (a b : St) : Prop := b.length = a.length ∧ ∀ (k : Nat) v, a[k]? = some (some v) → b[k]? = some (some v)
theorem CapKeep.set {a : St} {i : Nat} {v : Option V} (h : a[i]? = some none) : CapKeep a (a.set i v) :=
  ⟨List.length_set, fun k u e => by
    by_cases hk : i = k
    · subst hk; rw [h] at e; cases e
    · rw [List.getElem?_set_ne hk]; exact e⟩
def LCw (σ0 : St) (g : TG) (tc : TT) (te : TE) (Q : VK) (J : It) (H1 : Hp) : Prop :=
  ∀ D, H1 D = none → ∃ W : Nat → Nat → List V → Hp → Prop, (∃ m, W 0 m [] (upd H1 D (.lst []))) ∧ ∀ i m acc H2, W i m acc H2 →
    (J.stop i H2 ∧ Q (.ref D) H2) ∨ (J.go i H2 ∧ ∃ N : List V → Hp → Prop, (∀ acc' H', N acc' H' → ∃ m', m' < m ∧ W (i + 1) m' acc' H') ∧
      ∀ x H3, J.yld i H2 x H3 → g x σ0 H3 fun σ4 H4 => CapKeep σ0 σ4 ∧ tc σ4 H4 fun b H5 =>
        if b = true then te σ4 H5 fun y H6 => H6 D = some (.lst acc) ∧ acc.length < sizeLine ∧ N (acc ++ [y]) (upd H6 D (.lst (acc ++ [y]))) else N acc H5)
def tLC (caps : List (Option Nat)) (wi : TI) (g : TG) (tc : TT) (te : TE) : TE := fun σ H Q => wi σ H (LCw (startC caps σ) g tc te Q)
section
variable {X : Cx} {scope : Scope} {N' : List Str} {caps : List (Option Nat)} {elt tg iter : Expr} {ifs : List Expr} {pos : Pos} {wi : TI} {g : TG} {tc : TT} {te : TE}
theorem comp_block (hc : X.calm = true) (S : CScope X scope N' caps)
    (hb : ∀ (s : Shared) (H : Hp) (fp : List Addr), PG (cxC X scope N' s H fp) tg g ∧ PIf (cxC X scope N' s H fp) ifs tc ∧ PE (cxC X scope N' s H fp) elt te)
    {pins : List (Addr × Obj)} {s : Shared} {σ : St} {H : Hp} {J : It} {it : Addr} {fp : List Addr} {tn : Nat → Heap → Prop} {Q : VK} {E : Value → Shared → Prop} {RR : Value → Addr → Result → Shared → Prop}
    (I : Inv X pins σ H s) (T : Turn X.prog X.w X.K tg J fp it tn) (st : tn 0 s.heap) (hf : ∀ b ∈ fp, FpOk X pins H b) (hw : LCw (startC caps σ) g tc te Q J H)
    (hRR : ∀ D C s' H', Inv X pins σ H' s' → (∃ m, s'.heap.Ns C m) → FpOk X pins H' C → Q (.ref D) H' → RR (.ref D) C (.ok .next) s') :
    wpAny (model X.prog X.w) X.A (newList []) (fun acc s₃ => wpAny (model X.prog X.w) X.A (newFunctionEnv scope X.env.globals (clFor X.env.cells scope.names []) [] X.env.qual none .none (some X.env)) (fun cenv s₄ =>
      codeAny (model X.prog X.w) X.A (.compStart (.ListComp elt [⟨tg, iter, ifs, 0⟩] scope pos) 0 (.ref it) acc { cenv with scope := relabel scope X.env }) (RR acc cenv.locals) s₄) E s₃) E s := by
  refine wpAny_newObj_type ?_
  have hDn : H s.heap.objs.size = none := I.fresh
  have I3 : Inv X pins σ (upd H s.heap.objs.size (.lst [])) { s with heap := s.heap.push { cls := .type "list", data := .seq ([] : List Value).toArray } } := I.lnew (t' := s.toks) .nil (Nat.zero_le _)
  have fo : ∀ b ∈ fp, ∃ o, s.heap.get? b = some o := fun b hb => let ⟨o, e, _⟩ := T.obj _ _ st b hb; ⟨o, e⟩
  have fne : ∀ b ∈ fp, b ≠ s.heap.objs.size := fun b hb => let ⟨o, e⟩ := fo b hb; Nat.ne_of_lt (Heap.lt_size e)
  have f3 : ∀ b ∈ fp, FpOk X pins (upd H s.heap.objs.size (.lst [])) b := fun b hb => ⟨by rw [upd_ne (fne b hb)]; exact (hf b hb).1, (hf b hb).2⟩
  have push3 : ∀ b o, s.heap.get? b = some o → (s.heap.push { cls := .type "list", data := .seq ([] : List Value).toArray }).get? b = some o := fun b o e => Heap.get?_push_of_some _ e
  have fo3 : ∀ b ∈ fp, ∃ o, (s.heap.push { cls := .type "list", data := .seq ([] : List Value).toArray }).get? b = some o := fun b hb => let ⟨o, e⟩ := fo b hb; ⟨o, push3 b o e⟩
  have st3 : tn 0 (s.heap.push { cls := .type "list", data := .seq ([] : List Value).toArray }) := T.keep _ _ _ st fun b _ o e => push3 b o e
  have u3 : Un (frs X.stack) fp H (upd H s.heap.objs.size (.lst [])) s.heap (s.heap.push { cls := .type "list", data := .seq ([] : List Value).toArray }) := Un.laid push3 (Nat.le_refl _) hDn
  generalize hD : s.heap.objs.size = D at *
  generalize hs3 : ({ s with heap := s.heap.push { cls := .type "list", data := .seq ([] : List Value).toArray } } : Shared) = s3 at *
  have os3 : s3.os = s.os := by rw [← hs3]
  have hp3 : s.heap.push { cls := .type "list", data := .seq ([] : List Value).toArray } = s3.heap := by rw [← hs3]
  rw [hp3] at st3 u3 fo3
  have sz3 : s.heap.objs.size ≤ s3.heap.objs.size := by rw [← hp3, Heap.size_push]; exact Nat.le_succ _
  refine wpAny_newFunctionEnv_comp ?_
  have J0 := inv_comp I3 S f3 fo3
  have st4 : tn 0 (pushCells (s3.heap.push { cls := .type "dict", data := .dict #[] }) scope.names) := T.keep _ _ _ st3 fun b _ o e => pushCells_keeps _ _ b o (Heap.get?_push_of_some _ e)
  generalize hs4 : ({ s3 with heap := pushCells (s3.heap.push { cls := .type "dict", data := .dict #[] }) scope.names } : Shared) = s4 at *
  have st4' : tn 0 s4.heap := by rw [← hs4]; exact st4
  obtain ⟨W, ⟨m0, w0⟩, turn⟩ := hw D hDn
  obtain ⟨hPG, hPI, hPE⟩ := hb s3 (upd H D (.lst [])) fp
  have stat : ∀ {σ' : St} {H' : Hp} {s' : Shared}, Inv (cxC X scope N' s3 (upd H D (.lst [])) fp) [] σ' H' s' → (∀ b ∈ fp, H' b = none) → ∀ b ∈ fp, FpOk (cxC X scope N' s3 (upd H D (.lst [])) fp) [] H' b := fun K hn b hb =>
    ⟨hn b hb, (K.ok.exf b hb).1, K.ok.exfs b hb, .inl hb, (K.ok.exf b hb).2, fun p hp => absurd (show p ∈ ([] : List (Addr × Obj)) from hp) (by simp)⟩
  have loop : codeAny (model X.prog X.w) X.A (.compLoop (.ListComp elt [⟨tg, iter, ifs, 0⟩] scope pos) 0 (.ref it) (.ref D) (cxC X scope N' s3 (upd H D (.lst [])) fp).env) (RR (.ref D) s3.heap.objs.size) s4 := by
    refine codeAny_compLoop_tgt (fun n s' => ∃ i acc H', Inv (cxC X scope N' s3 (upd H D (.lst [])) fp) [] (startC caps σ) H' s' ∧ tn i s'.heap ∧ (∀ b ∈ fp, H' b = none) ∧ W i n acc H') ?_ m0
      ⟨0, [], _, J0, st4', fun b hb => (f3 b hb).1, w0⟩
    rintro n s5 ⟨i, acc, H5, J5, st5, fr5, w5⟩
    rcases turn i n acc H5 w5 with ⟨stop, q⟩ | ⟨go, N, hN, step⟩
    · refine thn (T.done (cxC X scope N' s3 (upd H D (.lst [])) fp) rfl rfl rfl hc i [] s5 _ H5 (fun _ _ => False) J5 (stat J5 fr5) st5 stop) fun r s6 ⟨hr, J6⟩ => ?_
      subst hr
      refine hRR D s3.heap.objs.size s6 H5 (I.comp_end os3 u3 hf J6) ?_ (I.fpOk sz3 J6.free) q
      obtain ⟨m, hn, _⟩ := J6.loc
      exact ⟨m, hn⟩
    · refine thn (T.item (cxC X scope N' s3 (upd H D (.lst [])) fp) rfl rfl rfl hc i [] s5 _ H5 (fun _ _ => False) J5 (stat J5 fr5) st5 go) fun r s6 ⟨u, hr, h6⟩ => ?_
      subst hr
      refine thn h6 fun _ s7 ⟨x, H7, J7, r7, y7, st7, fr7⟩ => ?_
      have J7' := J7.pinned (stat J7 fr7) (T.obj _ _ st7)
      have again : ∀ {σ9 : St} {H9 : Hp} {s9 : Shared} {acc9 : List V}, CapKeep (startC caps σ) σ9 → Inv (cxC X scope N' s3 (upd H D (.lst [])) fp) ([] ++ pinsAt fp s7.heap) σ9 H9 s9 → N acc9 H9 →
          ∃ m, m < n ∧ ∃ i acc H', Inv (cxC X scope N' s3 (upd H D (.lst [])) fp) [] (startC caps σ) H' s9 ∧ tn i s9.heap ∧ (∀ b ∈ fp, H' b = none) ∧ W i m acc H' := fun {σ9 H9 s9 acc9} ck J9 n9 => by
        obtain ⟨m', hm, w9⟩ := hN acc9 H9 n9
        refine ⟨m', hm, i + 1, acc9, H9, J9.unpinned.weak ck.1.symm ck.2, T.keep _ _ _ st7 fun b hb o e => (J9.pin (b, o) (List.mem_append_right _ (List.mem_append_right _ (mem_pinsAt hb e)))).1, fun b hb => ?_, w9⟩
        obtain ⟨o, e, d⟩ := T.obj _ _ st7 b hb
        exact (J9.pin (b, o) (List.mem_append_right _ (List.mem_append_right _ (mem_pinsAt hb e)))).2.1
      refine thn (hPG _ s7 _ H7 x u _ J7' r7 (step x H7 y7)) fun _ s8 ⟨σ8, H8, J8, ck, q8⟩ => ?_
      refine thn (hPI _ s8 σ8 H8 _ J8 q8) fun b s9 ⟨H9, J9, q9⟩ => ?_
      cases b with
      | false => exact again ck J9 q9
      | true =>
        refine thn (hPE _ s9 σ8 H9 _ J9 q9) fun y s10 ⟨yv, H10, J10, r10, hD10, hz, q10⟩ => ?_
        refine thn (mt_append _ s10 σ8 H10 (.ref D) [yv] (.ref D) [y] (fun _ H11 => N (acc ++ [yv]) H11) J10 rfl (.cons r10 .nil) ⟨D, acc, yv, rfl, rfl, hD10, hz, q10⟩) fun _ s11 ⟨_, H11, J11, _, q11⟩ => ?_
        exact again ck J11 q11
  exact codeAny_compStart_list loop (T.self _ 0 _ _ _ st4' loop)
theorem pe_lc (hc : X.calm = true) (S : CScope X scope N' caps) (hi : PI X tg iter wi)
    (hb : ∀ (s : Shared) (H : Hp) (fp : List Addr), PG (cxC X scope N' s H fp) tg g ∧ PIf (cxC X scope N' s H fp) ifs tc ∧ PE (cxC X scope N' s H fp) elt te)
    (hs : ∀ x, foldedSetIterable iter X.env x = pure x := by intro _; rfl) : PE X (.ListComp elt [⟨tg, iter, ifs, 0⟩] scope pos) (tLC caps wi g tc te) := by
  intro pins s σ H Q I h
  rw [eval_ListComp]
  refine wpAny_comprehension_free (use := none) rfl hs (S.clos I.ok) S.kind S.names (thn (hi pins s σ H _ I h) fun v s1 h1 => thn h1 fun itv s2 h2 => ?_)
  obtain ⟨it, fp, tn, J, H2, e, I2, T, st2, f2, hw⟩ := h2
  subst e
  refine comp_block (RR := fun acc C => compPost (model X.prog X.w) X.A X.xe none (EP X pins σ Q) acc C) hc S hb I2 T st2 f2 hw ?_
  intro D C s' H' I' ns fC q
  obtain ⟨m, hn⟩ := ns
  refine ⟨m, hn, fun h' hsb => ⟨.ref D, H', ?_, rfl, q⟩⟩
  obtain ⟨c0, c1, c2, c3, c4, c5⟩ := fC
  exact I'.turned (t' := s'.toks) (fun b o hb e => (hsb.2 b hb).trans e) c0 c1 c3 c4 c5
theorem ps_setLC {i : Nat} {y : Str} {pos' spos : Pos} (hN : X.N.Nodup) (hiy : X.N[i]? = some y) (hy : Loc X.env.scope y) (hc : X.calm = true) (S : CScope X scope N' caps) (hi : PI X tg iter wi)
    (hb : ∀ (s : Shared) (H : Hp) (fp : List Addr), PG (cxC X scope N' s H fp) tg g ∧ PIf (cxC X scope N' s H fp) ifs tc ∧ PE (cxC X scope N' s H fp) elt te)
    (hsw : swapsWith (.ListComp elt [⟨tg, iter, ifs, 0⟩] scope pos) (some (.Name y pos')) spos.line X.env = pure true := by rfl)
    (hs : ∀ x, foldedSetIterable iter X.env x = pure x := by intro _; rfl)
    (hfn : X.fn y = true ∨ X.env.scope.names.lookup y = some .local := by first | exact .inl rfl | exact .inr rfl | assumption) :
    PS X (.Assign [.Name y pos'] (.ListComp elt [⟨tg, iter, ifs, 0⟩] scope pos) spos) (tAsg (tLC caps wi g tc te) (gName i)) := by
  intro pins s σ H D I h
  rw [exec_Assign_Name_used _ _ _ _ hsw]; refine wpAny_bind (wpAny_standAt (wpAny_bind ?_))
  show wpAny _ X.A (do let _ ← comprehension (.ListComp elt [⟨tg, iter, ifs, 0⟩] scope pos) scope X.env _ (newList []) false (eval iter X.env) (some (assign (.Name y pos') X.env))) _ _ s
  refine wpAny_bind (wpAny_mono (wpAny_comprehension_free (use := some (assign (.Name y pos') X.env)) (Q := fun _ s' => SP X pins D .next s') rfl hs (S.clos I.ok) S.kind S.names
    (thn (hi pins s σ H _ I h) fun v s1 h1 => thn h1 fun itv s2 h2 => ?_)) (fun _ s' hq => wpAny_pure (wpAny_pure hq)) fun _ _ e => e)
  obtain ⟨it, fp, tn, J, H2, e, I2, T, st2, f2, hw⟩ := h2
  subst e
  refine comp_block (RR := fun acc C => compPost (model X.prog X.w) X.A X.xe (some (assign (.Name y pos') X.env)) (fun _ s' => SP X pins D .next s') acc C) hc S hb I2 T st2 f2 hw ?_
  intro Da C s' H' I' ns fC q
  obtain ⟨m, hn⟩ := ns
  obtain ⟨c0, c1, c2, c3, c4, c5⟩ := fC
  refine wpAny_assign_Name (store_ok2 I' hN hiy hy (v := .ref Da) (u := .ref Da) rfl (fun s'' I'' ch => ?_) hfn)
  obtain ⟨a, sb, ha⟩ := ch
  have haC : C ≠ a := by
    rcases ha with z | z
    · rw [z]; exact c1.symm.symm
    · exact (c4 y a z).symm
  refine ⟨m, hn.sameBut sb haC, fun h' hsb => ⟨_, H', ?_, q⟩⟩
  exact I''.turned (t' := s''.toks) (fun b o hb e => (hsb.2 b hb).trans e) c0 c1 c3 c4 c5
end
theorem lc_range {lo : Int} {n : Nat} {σ0 : St} {g : TG} {tc : TT} {te : TE} {Q : VK} {H1 : Hp} (Pv : Addr → Nat → List V → Hp → Prop)
    (h0 : ∀ D, H1 D = none → Pv D 0 [] (upd H1 D (.lst [])))
    (hs : ∀ D i acc H2, i < n → Pv D i acc H2 → g (.int (lo + i)) σ0 H2 fun σ4 H4 => CapKeep σ0 σ4 ∧ tc σ4 H4 fun b H5 =>
      if b = true then te σ4 H5 fun y H6 => H6 D = some (.lst acc) ∧ acc.length < sizeLine ∧ Pv D (i + 1) (acc ++ [y]) (upd H6 D (.lst (acc ++ [y]))) else Pv D (i + 1) acc H5)
    (hd : ∀ D acc H2, Pv D n acc H2 → Q (.ref D) H2) : LCw σ0 g tc te Q (Itr lo n) H1 := by
  intro D hD
  refine ⟨fun i m acc H => m = n - i ∧ i ≤ n ∧ Pv D i acc H, ⟨n, by simp, Nat.zero_le _, h0 D hD⟩, ?_⟩
  rintro i m acc H2 ⟨rfl, hi, p⟩
  by_cases hlt : i < n
  · refine .inr ⟨hlt, Pv D (i + 1), fun acc' H' p' => ⟨n - (i + 1), by omega, rfl, hlt, p'⟩, fun x H' y => ?_⟩
    obtain ⟨e, y⟩ := y
    subst e y
    exact hs D i acc _ hlt p
  · have e : i = n := by omega
    subst e
    exact .inl ⟨Nat.le_refl _, hd D acc H2 p⟩
theorem lc_list {K : PySem.W.Frag} {a : Addr} {xs : List V} {σ0 : St} {g : TG} {tc : TT} {te : TE} {Q : VK} {H1 : Hp} (Pv : Addr → Nat → List V → Hp → Prop)
    (h0 : ∀ D, H1 D = none → Pv D 0 [] (upd H1 D (.lst []))) (hl : ∀ D i acc H, i ≤ xs.length → Pv D i acc H → SqL K H a xs)
    (hs : ∀ D i x acc H2, xs[i]? = some x → Pv D i acc H2 → g x σ0 H2 fun σ4 H4 => CapKeep σ0 σ4 ∧ tc σ4 H4 fun b H5 =>
      if b = true then te σ4 H5 fun y H6 => H6 D = some (.lst acc) ∧ acc.length < sizeLine ∧ Pv D (i + 1) (acc ++ [y]) (upd H6 D (.lst (acc ++ [y]))) else Pv D (i + 1) acc H5)
    (hd : ∀ D acc H2, Pv D xs.length acc H2 → Q (.ref D) H2) : LCw σ0 g tc te Q (Itl K a) H1 := by
  intro D hD
  refine ⟨fun i m acc H => m = xs.length - i ∧ i ≤ xs.length ∧ Pv D i acc H, ⟨xs.length, by simp, Nat.zero_le _, h0 D hD⟩, ?_⟩
  rintro i m acc H2 ⟨rfl, hi, p⟩
  have q := hl D i acc H2 hi p
  by_cases hlt : i < xs.length
  · refine .inr ⟨⟨xs, xs[i], q, by simp [hlt]⟩, Pv D (i + 1), fun acc' H' p' => ⟨xs.length - (i + 1), by omega, rfl, hlt, p'⟩, fun x H' y => ?_⟩
    obtain ⟨e, y⟩ := y
    subst e
    exact hs D i x acc _ (y xs q) p
  · have e : i = xs.length := by omega
    subst e
    exact .inl ⟨⟨xs, q, Nat.le_refl _⟩, hd D acc H2 p⟩
end L2
namespace L2
open PySem PySem.Spec PyProof.Rows
theorem Vals.insertAt {x : V} {u : Value} (r : RelV x u) {xs : List V} {us : List Value} (k : Nat) (h : Vals xs us) : Vals (xs.take k ++ x :: xs.drop k) (us.take k ++ u :: us.drop k) :=
  (h.take k).append (.cons r (h.drop k))
section
variable {X : Cx}
def rInsert : V → List V → Hp → VK → Prop := fun x vs H Q => ∃ l xs i y, x = .ref l ∧ vs = [.int i, y] ∧ H l = some (.lst xs) ∧ 0 ≤ i ∧ i ≤ xs.length ∧ xs.length < sizeLine ∧ Q .non (upd H l (.lst (xs.take i.toNat ++ y :: xs.drop i.toNat)))
theorem mt_insert : MtM X "list.insert" rInsert := by
  intro pins s σ H x vs v us Q I rx rv h
  obtain ⟨l, xs, i, y, rfl, rfl, hH, h0, h1, hz, q⟩ := h
  cases rx
  obtain ⟨u, u2, rfl, ru, ru2⟩ := rv.two
  obtain ⟨t, rfl⟩ := ru
  obtain ⟨z, its, n, r, hl, e⟩ := I.lstM hH
  have hn := line63
  refine call_meets F.slot_list_insert ⟨_, e, rfl⟩ F.entry_list_insert (F.args_list_insert_3 _ _ _)
    (AutoSeq1.list_insert_list_int_val_1 l its.toArray n i t u2 (by rw [fitsIndex_both (by omega) (by omega)]; decide) (by rw [List.size_toArray]; omega)) ⟨e, ?_⟩
  refine ⟨.non, _, I.lset (its' := its.take i.toNat ++ u2 :: its.drop i.toNat) hH e ?_ (r.insertAt ru2 i.toNat) ?_, rfl, q⟩
  · have hk : min i.toNat its.toArray.size = i.toNat := by rw [List.size_toArray]; omega
    have hneg : ¬ i < 0 := by omega
    show (its.toArray.extract 0 (if i < 0 then _ else min i.toNat its.toArray.size)).push u2 ++ its.toArray.extract (if i < 0 then _ else min i.toNat its.toArray.size) its.toArray.size = _
    rw [if_neg hneg, hk]
    apply Array.toList_inj.mp
    simp [Array.toList_extract, List.extract_eq_drop_take]
    exact List.take_of_length_le (by rw [List.length_drop]; exact Nat.le_refl _)
  · rw [List.length_append, List.length_cons, List.length_take, List.length_drop]
    omega
def rSorted (K : PySem.W.Frag) : List V → Hp → VK → Prop := fun xs H Q => ∃ (p : Addr) (ns : List Int), xs = [.ref p] ∧ SqL K H p (ns.map V.int) ∧ ns.length < 64 ∧
  ∀ (l : Addr) (ns' : List Int), H l = none → ns'.Perm ns → ns'.Pairwise (· ≤ ·) → Q (.ref l) (upd H l (.lst (ns'.map V.int)))
theorem call_sorted : CallR X (.builtin "sorted") (rSorted X.K) := by
  intro pins s σ H xs us Q I r h
  obtain ⟨p, ns, rfl, hq, h64, q⟩ := h
  obtain ⟨u, rfl, rx⟩ := vals1 r
  cases rx
  obtain ⟨its, r', pl, hz⟩ := I.list hq
  have hlen := r'.length
  rw [List.length_map] at hlen hz
  refine sorted_ints pl.isList (intsAre_of r') (by omega) fun out ns' a1 a2 a3 => ?_
  obtain ⟨e, he⟩ := sortedAll_at s.heap its out
  have hl' : ns'.length = ns.length := a2.length_eq
  refine ⟨.ref (s.heap.objs.size + 1), _, I.laid (t' := s.toks) (fun b o => sortedAll_old) (Nat.le_succ _) (show ObjOk X.prog X.w _ _ _ (.lst (ns'.map V.int)) from ⟨?_, out.toList, e, vals_ints a1, ?_⟩), rfl, q _ _ (I.hok.fresh (Nat.le_succ _)) a2 a3⟩
  · rw [List.length_map]; omega
  · exact he
def RowsAt (K : PySem.W.Frag) (H : Hp) (as : List Addr) (rows : List (List Int)) : Prop := Paired (fun a (r : List Int) => SqL K H a (r.map V.int)) as rows
theorem RowsAt.length {K : PySem.W.Frag} {H : Hp} {as : List Addr} {rows : List (List Int)} (r : RowsAt K H as rows) : as.length = rows.length := Paired.length r
theorem RowsAt.get {K : PySem.W.Frag} {H : Hp} : ∀ {as : List Addr} {rows : List (List Int)} {i : Nat} {r : List Int}, RowsAt K H as rows → rows[i]? = some r → ∃ a, as[i]? = some a ∧ SqL K H a (r.map V.int)
  | _, _, _, _, .nil, e => by simp at e
  | _, _, 0, _, .cons r _, e => by simp at e; subst e; exact ⟨_, rfl, r⟩
  | _, _, i + 1, x, .cons _ t, e => by
    obtain ⟨u, h1, h2⟩ := RowsAt.get (i := i) (r := x) t (by simpa using e)
    exact ⟨u, by simpa using h1, h2⟩
theorem RowsAt.getA {K : PySem.W.Frag} {H : Hp} : ∀ {as : List Addr} {rows : List (List Int)} {i : Nat} {a : Addr}, RowsAt K H as rows → as[i]? = some a → ∃ r, rows[i]? = some r ∧ SqL K H a (r.map V.int)
  | _, _, _, _, .nil, e => by simp at e
  | _, _, 0, _, .cons r _, e => by simp at e; subst e; exact ⟨_, rfl, r⟩
  | _, _, i + 1, x, .cons _ t, e => by
    obtain ⟨u, h1, h2⟩ := RowsAt.getA (i := i) (a := x) t (by simpa using e)
    exact ⟨u, by simpa using h1, h2⟩
def Ite (K : PySem.W.Frag) (a : Addr) : It :=
  ⟨fun i H => ∃ xs x, SqL K H a xs ∧ xs[i]? = some x, fun i H x H' => ∃ p v, H p = none ∧ x = .ref p ∧ H' = upd H p (.tup [.int i, v]) ∧ ∀ xs, SqL K H a xs → xs[i]? = some v, fun i H => ∃ xs, SqL K H a xs ∧ xs.length ≤ i⟩
theorem turn_enum {P : Program} {w : World} {K : PySem.W.Frag} {es : List Expr} {k : Nat} {pos : Pos} (a e it : Addr) (hne : e ≠ it) : Turn P w K (.Tuple es k pos) (Ite K a) [e, it] e (fun i h => ∃ old, IsEnum h e it i old ∧ h.IsListIter it a i) where
  mem := by simp
  obj := fun i h st b hb => by
    obtain ⟨old, s1, o, s2, c, d⟩ := st
    rcases List.mem_cons.mp hb with rfl | hb
    · exact ⟨_, s1, fun v z => by cases (show Data.fields _ = Data.cell v from z)⟩
    · have e : b = it := by simpa using hb
      subst e
      exact ⟨o, s2, fun v z => by rw [d] at z; cases z⟩
  keep := fun i h h' st kk => by
    obtain ⟨old, s1, s2⟩ := st
    exact ⟨old, kk e (by simp) _ s1, s2.at fun o q => kk it (by simp) o q⟩
  item := by
    intro X hP hw hK hc i pins s σ H E I hf st hg
    subst hP hw hK
    obtain ⟨xs, x, hq, hx⟩ := hg
    obtain ⟨old, s1, s2⟩ := st
    obtain ⟨its, rv, p, hz⟩ := I.list hq
    obtain ⟨u, hu, ru⟩ := rv.get hx
    obtain ⟨f0, f1, f2, f3, f4, f5⟩ := hf e (by simp)
    obtain ⟨g0, g1, g2, g3, g4, g5⟩ := hf it (by simp)
    have elt : e < s.heap.objs.size := Heap.lt_size s1
    refine wpAny_pyNext_enum_item s1 s2 p.isList (x := u) (by simpa using hu) hne fun h1 o1 i1 t1 z1 k1 => ?_
    refine ⟨_, rfl, wpAny_letOwnedTupleGo_enum o1 fun h2 e2 sb => ?_⟩
    replace sb : Heap.SameBut e h1 h2 := sb
    have k2 : ∀ b o, b ≠ e → b ≠ it → s.heap.get? b = some o → h2.get? b = some o := fun b o hb hb2 q => (sb.2 b hb).trans (k1 b o hb hb2 q)
    have nb : ∀ b o, H b = some o → b ≠ e ∧ b ≠ it := fun b o q => And.intro (fun z => by rw [z, f0] at q; cases q) (fun z => by rw [z, g0] at q; cases q)
    have ht : h2.get? s.heap.objs.size = some { cls := .type "tuple", data := .seq #[.int i s.toks, u] } := (sb.2 _ (Nat.ne_of_gt elt)).trans t1
    have hfr : H s.heap.objs.size = none := I.fresh
    have itlt : it < s.heap.objs.size := by obtain ⟨o, q, _⟩ := s2; exact Heap.lt_size q
    have hokH : HOk X.prog X.w (upd H s.heap.objs.size (.tup [.int i, x])) h2 := fun b ob q => by
      by_cases hb : b = s.heap.objs.size
      · subst hb
        rw [upd_same] at q
        cases q
        exact ⟨by show 2 ≤ sizeLine; decide, [.int i s.toks, u], .cons ⟨_, rfl⟩ (.cons ru .nil), ⟨_, ht, rfl, 0, rfl⟩⟩
      · rw [upd_ne hb] at q
        refine (I.hok b ob q).stay (fun c v hcc qq => ?_) (fun c q => by rw [upd_ne (ne_of_none q hfr)]; exact q) fun c ys q => by rw [upd_ne (ne_of_none q hfr)]; exact q
        have hn : c ≠ e ∧ c ≠ it := by
          rcases hcc with z | z
          · rw [z]; exact nb b ob q
          · exact nb c _ z
        exact k2 c v hn.1 hn.2 qq
    have I2 : Inv X pins σ (upd H s.heap.objs.size (.tup [.int i, x])) { s with heap := h2, toks := s.toks + 1 } := by
      refine I.step (g' := s.gens) (d' := s.drawn) (ch := [e, it]) (fun b hb => ?_) (fun b o _ _ hc q _ => k2 b o (fun z => hc (by simp [z])) (fun z => hc (by simp [z])) q) (fun b o _ _ hc q _ => ⟨o.slots, k2 b o (fun z => hc (by simp [z])) (fun z => hc (by simp [z])) q⟩)
        (fun b o _ q n => by rw [upd_ne (Nat.ne_of_lt (Heap.lt_size q))]; exact n)
        (fun b o hc q => ?_) (fun b ys q => by rw [upd_ne (ne_of_none q hfr)]; exact q) (fun b o u q => by rw [upd_ne (ne_of_none q hfr)]; exact q) (fun b ps q => ⟨#[], by rw [upd_ne (ne_of_none q hfr), q]; simp⟩) (fun m hm => ?_) hokH I.bare
      · rcases List.mem_cons.mp hb with rfl | hb
        · exact ⟨f3, f1, f4, f5⟩
        · have q : b = it := by simpa using hb
          subst q
          exact ⟨g3, g1, g4, g5⟩
      · exact ⟨o, k2 b o (fun z => hc (by simp [z])) (fun z => hc (by simp [z])) q⟩
      · obtain ⟨o, es', ep, ho, r⟩ := hm
        exact ⟨o, es', ep, k2 _ o f1.symm g1.symm ho, r⟩
    refine ⟨.ref s.heap.objs.size, _, I2, rfl, ⟨_, x, hfr, rfl, rfl, fun ys hy => by rw [I.list_inj hy hq]; exact hx⟩, ⟨u, ?_, i1.extBut sb.extBut hne.symm⟩, fun b hb => ?_⟩
    · have e3 : IsEnum h2 e it ((i : Int) + 1) u := e2
      show IsEnum h2 e it ((i + 1 : Nat) : Int) u
      rw [Int.natCast_add]
      exact e3
    · rcases List.mem_cons.mp hb with rfl | hb
      · rw [upd_ne (Nat.ne_of_lt elt)]; exact f0
      · have q : b = it := by simpa using hb
        subst q
        rw [upd_ne (Nat.ne_of_lt itlt)]; exact g0
  done := by
    intro X hP hw hK hc i pins s σ H E I hf st hg
    subst hP hw hK
    obtain ⟨xs, hq, hx⟩ := hg
    obtain ⟨old, s1, s2⟩ := st
    obtain ⟨its, rv, p, hz⟩ := I.list hq
    obtain ⟨g0, g1, g2, g3, g4, g5⟩ := hf it (by simp)
    have hl := rv.length
    exact wpAny_pyNext_enum_end (I.ok.hd hc) s1 s2 p.isList (by simp; omega) fun h' eb => ⟨rfl, I.turned (t' := s.toks) (fun b o hb q => eb b o hb q) g0 g1 g3 g4 g5⟩
  self := fun _ _ _ _ _ st h => by
    obtain ⟨old, s1, _⟩ := st
    exact wpAny_pyIter_enum s1 h
def iEnum (K : PySem.W.Frag) (ta : TA) : TI := fun σ H R => ta σ H fun vs H1 => ∃ a, vs = [.ref a] ∧ (∃ xs, SqL K H1 a xs) ∧ R (Ite K a) H1
theorem pi_enum {es : List Expr} {k : Nat} {l : Expr} {ta : TA} {p pos pos' : Pos} (hg : Gl X "enumerate") (hm : X.mg "enumerate" = none) (ha : PA X [l] ta) (hs : starEach [l] X.env = [(false, eval l X.env)] := by rfl) :
    PI X (.Tuple es k pos') (.Call (.Name "enumerate" p) [l] [] pos) (iEnum X.K ta) := by
  intro pins s σ H R I h
  refine Call_ (ld_blt (u := .type "enumerate") I hg hm (by decide +kernel) (PyProof.Rows.callWith_type1 (thn (ha pos pins s σ H _ I h) fun us s1 ⟨vs, H1, I1, r1, q1⟩ => ?_) hs rfl))
  obtain ⟨a, e, ⟨xs, hq⟩, q⟩ := q1
  subst e
  obtain ⟨u, rfl, rx⟩ := vals1 r1
  cases rx
  obtain ⟨its, rv, pl, hz⟩ := I1.list hq
  refine call_enumerate_list pl.isList fun h' he hi hz' kp => wpAny_pyIter_enum he ?_
  refine ⟨s1.heap.objs.size + 1, [s1.heap.objs.size + 1, s1.heap.objs.size], _, _, H1, rfl, I1.kept (t' := s1.toks) kp, turn_enum a _ _ (Nat.succ_ne_self _), ⟨_, he, hi⟩, fun b hb => ?_, q⟩
  rcases List.mem_cons.mp hb with rfl | hb
  · exact I1.fpOk (Nat.le_succ _) (I1.hok.fresh (Nat.le_succ _))
  · have e : b = s1.heap.objs.size := by simpa using hb
    subst e
    exact I1.fpOk (Nat.le_refl _) (I1.hok.fresh (Nat.le_refl _))
theorem for_enum {K : PySem.W.Frag} {a : Addr} {xs : List V} {g : TG} {tb : TS} {D : Ends} {σ : St} {H : Hp} (Pv : Nat → St → Hp → Prop) (h0 : Pv 0 σ H) (hl : ∀ i σ H, i ≤ xs.length → Pv i σ H → SqL K H a xs)
    (hs : ∀ i x p σ H, xs[i]? = some x → Pv i σ H → H p = none → g (.ref p) σ (upd H p (.tup [.int i, x])) fun σ2 H2 => tb { D with nx := Pv (i + 1), ct := Pv (i + 1), bk := D.nx } σ2 H2) (hd : ∀ σ H, Pv xs.length σ H → D.nx σ H) :
    ∃ W : Nat → Nat → St → Hp → Prop, (∃ m, W 0 m σ H) ∧ ∀ i m σ H, W i m σ H →
      ((Ite K a).stop i H ∧ D.nx σ H) ∨ ((Ite K a).go i H ∧ ∃ N : St → Hp → Prop, (∀ σ' H', N σ' H' → ∃ m', m' < m ∧ W (i + 1) m' σ' H') ∧ ∀ x H', (Ite K a).yld i H x H' → g x σ H' fun σ2 H2 => tb { D with nx := N, ct := N, bk := D.nx } σ2 H2) := by
  refine ⟨fun i m σ H => m = xs.length - i ∧ i ≤ xs.length ∧ Pv i σ H, ⟨xs.length, by simp, Nat.zero_le _, h0⟩, ?_⟩
  rintro i m σ H ⟨rfl, hi, p⟩
  have q := hl i σ H hi p
  by_cases hlt : i < xs.length
  · refine .inr ⟨⟨xs, xs[i], q, by simp [hlt]⟩, Pv (i + 1), fun σ' H' p' => ⟨xs.length - (i + 1), by omega, rfl, hlt, p'⟩, fun x H' y => ?_⟩
    obtain ⟨pt, v, hn, e1, e2, y⟩ := y
    subst e1 e2
    exact hs i v pt σ _ (y xs q) p hn
  · have e : i = xs.length := by omega
    subst e
    exact .inl ⟨⟨xs, q, Nat.le_refl _⟩, hd σ H p⟩
end
end L2
namespace L2
open PySem PySem.Spec PyProof.Rows
def Has (P : Program) (w : World) (K : PySem.W.Frag) (mg : Str → Option Value) (base : Heap) (k : Nat) (x : Str) (ps : List Str) (sp : Sp) : Prop :=
  ∃ f fd, FnOk P w K mg base CX0 k f fd ps sp ∧ Binds K fd ps [] ∧ PySem.W.keepIn K (.ref f) = true ∧ mg x = some (.ref f)
section
variable {X : Cx} {k : Nat} {x : Str} {ps : List Str} {sp : Sp} {p pos : Pos} {e : Expr} {es : List Expr} {t : TA}
theorem pe_callH (C : Has X.prog X.w X.K X.mg X.base k x ps sp) (hr : Room k X.A) (hg : Gl X x) (ha : PA X (e :: es) t)
    (hdb : (x == ("__debug__" : Str)) = false := by decide) (he : starEach (e :: es) X.env = (false, eval e X.env) :: starEach es X.env := by rfl) (hpl : (backTo pos (starEach es X.env)).any (·.1) = false := by rfl) :
    PE X (.Call (.Name x p) (e :: es) [] pos) (tCall sp [] E0 t) := by
  obtain ⟨f, fd, F, b, kp, m⟩ := C
  exact pe_call F hr hg m kp b .nil pass0 ha hdb he hpl
end
def csOk (names : List (Str × NameKind)) (kindOf : Str → Option NameKind) (N N' : List Str) (caps : List (Option Nat)) : Bool :=
  decide ((names.map (·.1)).Nodup) && names.all (fun x => !(x.2 == NameKind.free) || (kindOf x.1 == some .cell || kindOf x.1 == some .free)) && (caps.length == N'.length) &&
    (List.range caps.length).all fun j => match caps[j]?, N'[j]? with
      | some (some i), some x => N[i]? == some x && names.any (fun y => y.1 == x && y.2 == NameKind.free)
      | _, _ => true
theorem cscope {X : Cx} {scope : Scope} {N' : List Str} {caps : List (Option Nat)} (hk : scope.kind = .function := by rfl) (h : csOk scope.names X.env.kindOf X.N N' caps = true := by kernel_rfl) : CScope X scope N' caps := by
  unfold csOk at h
  simp only [Bool.and_eq_true, decide_eq_true_eq, List.all_eq_true, beq_iff_eq] at h
  obtain ⟨⟨⟨h1, h2⟩, h3⟩, h4⟩ := h
  refine ⟨hk, h1, fun x hx hf => ?_, h3, fun j i x hc hn => ?_⟩
  · have q := h2 x hx
    rw [hf] at q
    simpa using q
  · have hj : j < caps.length := (List.getElem?_eq_some_iff.mp hc).1
    have q := h4 j (List.mem_range.mpr hj)
    rw [hc, hn] at q
    simp only [Bool.and_eq_true, beq_iff_eq, List.any_eq_true] at q
    obtain ⟨q1, y, hy, q2, q3⟩ := q
    refine ⟨q1, ?_⟩
    obtain ⟨y1, y2⟩ := y
    have e1 : y1 = x := q2
    have e2 : y2 = NameKind.free := q3
    rw [← e1, ← e2]
    exact hy
def tJoin (t : TS) : TS := fun D σ H => ∃ Mid : St → Hp → Prop, t { D with nx := Mid } σ H ∧ ∀ σ' H', Mid σ' H' → D.nx σ' H'
theorem ps_join {X : Cx} {st : Stmt} {t : TS} (h : PS X st t) : PS X st (tJoin t) := by
  intro pins s σ H D I hw
  obtain ⟨Mid, h1, h2⟩ := hw
  refine thn (h pins s σ H _ I h1) fun f s' q => ?_
  cases f with
  | next =>
    obtain ⟨σ', H', J, m⟩ := q
    exact ⟨σ', H', J, h2 σ' H' m⟩
  | brk => exact q
  | cont => exact q
  | ret u => exact q
section
variable {X : Cx} {K : PySem.W.Frag}
theorem call_len_seqK (hK : X.K = K) : CallR X (.builtin "len") (fun xs H Q => ∃ p ys, xs = [.ref p] ∧ (SqL K H p ys ∨ SqT K H p ys) ∧ Q (.int ys.length) H) := by subst hK; exact call_len_seq
theorem call_list_ofK (hK : X.K = K) : CallR X (.type "list") (fun xs H Q => ∃ p ys, xs = [.ref p] ∧ (SqL K H p ys ∨ SqT K H p ys) ∧ ∀ l, H l = none → Q (.ref l) (upd H l (.lst ys))) := by subst hK; exact call_list_of
theorem call_sortedK (hK : X.K = K) : CallR X (.builtin "sorted") (rSorted K) := by subst hK; exact call_sorted
end
structure Blt (mg : Str → Option Value) : Prop where
  len : mg "len" = none
  range : mg "range" = none
  sorted : mg "sorted" = none
  list : mg "list" = none
  isinstance : mg "isinstance" = none
  bool : mg "bool" = none
  int : mg "int" = none
  enumerate : mg "enumerate" = none
  all : mg "all" = none
  sum : mg "sum" = none
  set : mg "set" = none
  max : mg "max" = none
  zip : mg "zip" = none
  str : mg "str" = none
  any : mg "any" = none
  ValueError : mg "ValueError" = none
end L2
namespace KH
def rowAt (rows : List (List Int)) (i : Nat) : List Int := rows.getD i []
def BeatenOk (row : List Int) (p m : Int) : Prop := row.Pairwise (· < ·) ∧ ∀ x ∈ row, 0 ≤ x ∧ x < m ∧ x ≠ p
def OneEach (rows : List (List Int)) : Prop := ∀ i j : Nat, j < i → i < rows.length → (((j : Int) ∈ rowAt rows i) ↔ ¬ ((i : Int) ∈ rowAt rows j))
structure IsHall (rows : List (List Int)) : Prop where
  lo : 1 ≤ rows.length
  hi : rows.length ≤ 12
  beat : ∀ i, i < rows.length → BeatenOk (rowAt rows i) i rows.length
  one : OneEach rows
noncomputable def dec (p : Prop) : Bool := @decide p (Classical.propDecidable p)
theorem dec_true {p : Prop} (h : p) : dec p = true := @decide_eq_true p (Classical.propDecidable p) h
theorem dec_false {p : Prop} (h : ¬ p) : dec p = false := @decide_eq_false p (Classical.propDecidable p) h
theorem dec_iff {p q : Prop} (h : p ↔ q) : dec p = dec q := by rw [propext h]
def lastD (l : List Int) : Int := l.getLast?.getD (-1)
theorem lastD_snoc (l : List Int) (x : Int) : lastD (l ++ [x]) = x := by simp [lastD]
theorem lastD_mem (l : List Int) : (l = [] ∧ lastD l = -1) ∨ lastD l ∈ l := by
  cases h : l.getLast? with
  | none => left; have : l = [] := by simpa using h
            subst this; exact ⟨rfl, rfl⟩
  | some y => right; unfold lastD; rw [h]; exact List.mem_of_getLast? h
theorem le_lastD : ∀ {l : List Int}, l.Pairwise (· < ·) → ∀ x ∈ l, x ≤ lastD l := by
  intro l h x hx
  obtain ⟨l', y, rfl⟩ : ∃ l' y, l = l' ++ [y] := by
    have hne : l ≠ [] := by rintro rfl; cases hx
    exact ⟨l.dropLast, l.getLast hne, (List.dropLast_concat_getLast hne).symm⟩
  rw [lastD_snoc]
  rw [List.pairwise_append] at h
  rcases List.mem_append.mp hx with q | q
  · exact Int.le_of_lt (h.2.2 x q y (by simp))
  · have : x = y := by simpa using q
    omega
theorem beaten_nil (p m : Int) : BeatenOk [] p m := ⟨List.Pairwise.nil, fun _ h => by cases h⟩
theorem beaten_snoc {l : List Int} {x p m : Int} : BeatenOk (l ++ [x]) p m ↔ BeatenOk l p m ∧ lastD l < x ∧ x < m ∧ x ≠ p := by
  constructor
  · rintro ⟨h1, h2⟩
    rw [List.pairwise_append] at h1
    have hx := h2 x (by simp)
    refine ⟨⟨h1.1, fun y hy => h2 y (List.mem_append_left _ hy)⟩, ?_, hx.2.1, hx.2.2⟩
    rcases lastD_mem l with ⟨_, e⟩ | q
    · omega
    · exact h1.2.2 _ q x (by simp)
  · rintro ⟨⟨h1, h2⟩, h3, h4, h5⟩
    refine ⟨List.pairwise_append.mpr ⟨h1, List.pairwise_singleton _ _, fun y hy z hz => ?_⟩, fun y hy => ?_⟩
    · have e : z = x := by simpa using hz
      have := le_lastD h1 y hy
      omega
    · rcases List.mem_append.mp hy with q | q
      · exact h2 y q
      · have e : y = x := by simpa using q
        subst e
        refine ⟨?_, h4, h5⟩
        rcases lastD_mem l with ⟨_, e⟩ | q
        · omega
        · have := (h2 _ q).1
          omega
theorem beaten_take {l : List Int} {p m : Int} (h : BeatenOk l p m) (i : Nat) : BeatenOk (l.take i) p m :=
  ⟨h.1.sublist (List.take_sublist _ _), fun x hx => h.2 x (List.mem_of_mem_take hx)⟩
theorem take_snoc {α : Type} {l : List α} {i : Nat} {x : α} (h : l[i]? = some x) : l.take (i + 1) = l.take i ++ [x] := by
  rw [List.take_succ, h]; rfl
def nums (n : Nat) : List Int := (List.range n).map fun (i : Nat) => (i : Int)
theorem nums_succ (n : Nat) : nums (n + 1) = nums n ++ [(n : Int)] := by simp [nums, List.range_succ]
theorem nums_length (n : Nat) : (nums n).length = n := by simp [nums]
theorem mem_nums {n : Nat} {x : Int} : x ∈ nums n ↔ 0 ≤ x ∧ x < n := by
  simp only [nums, List.mem_map, List.mem_range]
  constructor
  · rintro ⟨i, hi, rfl⟩; omega
  · rintro ⟨h0, h1⟩; exact ⟨x.toNat, by omega, by omega⟩
theorem nums_nodup (n : Nat) : (nums n).Nodup := by
  unfold nums
  rw [List.nodup_iff_pairwise_ne, List.pairwise_map]
  exact (List.nodup_iff_pairwise_ne.mp List.nodup_range).imp fun h e => h (by omega)
theorem perm_insert {l m : List Int} {x : Int} (h : l.Perm m) (k : Nat) : (l.take k ++ x :: l.drop k).Perm (m ++ [x]) := by
  have a : (l.take k ++ x :: l.drop k).Perm (x :: (l.take k ++ l.drop k)) := List.perm_middle
  rw [List.take_append_drop] at a
  exact a.trans ((h.cons x).trans (List.perm_append_singleton x m).symm)
structure OrdOk (n : Nat) (ord : List Int) : Prop where
  len : ord.length = n
  rng : ∀ a, a < n → 0 ≤ ord.getD a 0 ∧ ord.getD a 0 < n
  inj : ∀ a b, a < n → b < n → ord.getD a 0 = ord.getD b 0 → a = b
  sur : ∀ u : Int, 0 ≤ u → u < n → ∃ a, a < n ∧ ord.getD a 0 = u
theorem getD_of_lt {α : Type} {l : List α} {a : Nat} {d : α} (h : a < l.length) : l.getD a d = l[a] := by
  rw [List.getD_eq_getElem?_getD, List.getElem?_eq_getElem h]; rfl
theorem ord_of_perm {n : Nat} {ord : List Int} (h : ord.Perm (nums n)) : OrdOk n ord := by
  have hl : ord.length = n := h.length_eq.trans (nums_length n)
  have nd : ord.Nodup := h.nodup_iff.mpr (nums_nodup n)
  refine ⟨hl, fun a ha => ?_, fun a b ha hb e => ?_, fun u h0 h1 => ?_⟩
  · rw [getD_of_lt (by omega)]
    exact mem_nums.mp (h.mem_iff.mp (List.getElem_mem _))
  · rw [getD_of_lt (by omega), getD_of_lt (by omega)] at e
    exact (List.getElem_inj nd).mp e
  · have hm : u ∈ ord := h.mem_iff.mpr (mem_nums.mpr ⟨h0, h1⟩)
    obtain ⟨a, ha, e⟩ := List.mem_iff_getElem.mp hm
    exact ⟨a, by omega, by rw [getD_of_lt ha]; exact e⟩
def R (rows : List (List Int)) (u : Int) : List Int := rows.getD u.toNat []
def push (rows : List (List Int)) (u v : Int) : List (List Int) := rows.set u.toNat (R rows u ++ [v])
theorem push_length (rows : List (List Int)) (u v : Int) : (push rows u v).length = rows.length := by simp [push]
theorem R_push {rows : List (List Int)} {u v w : Int} (hu : 0 ≤ u) (h : u.toNat < rows.length) (hw : 0 ≤ w) : R (push rows u v) w = if w = u then R rows u ++ [v] else R rows w := by
  unfold R push
  by_cases e : w = u
  · subst e
    rw [if_pos rfl, List.getD_eq_getElem?_getD, List.getElem?_set_self h]; rfl
  · rw [if_neg e, List.getD_eq_getElem?_getD, List.getElem?_set_ne (by omega), ← List.getD_eq_getElem?_getD]
structure Drawn (n : Nat) (ord : List Int) (rows : List (List Int)) (i j : Nat) : Prop where
  len : rows.length = n
  nd : ∀ u : Int, 0 ≤ u → u < n → (R rows u).Nodup
  rng : ∀ u : Int, 0 ≤ u → u < n → ∀ x ∈ R rows u, 0 ≤ x ∧ x < n ∧ x ≠ u
  done : ∀ a b, a < b → b < n → (a < i ∨ (a = i ∧ b < j)) → (ord.getD b 0 ∈ R rows (ord.getD a 0) ↔ ¬ ord.getD a 0 ∈ R rows (ord.getD b 0))
  todo : ∀ a b, a < b → b < n → ¬ (a < i ∨ (a = i ∧ b < j)) → ord.getD b 0 ∉ R rows (ord.getD a 0) ∧ ord.getD a 0 ∉ R rows (ord.getD b 0)
theorem drawn_start {n : Nat} {ord : List Int} (O : OrdOk n ord) : Drawn n ord (List.replicate n []) 0 0 := by
  have e : ∀ u : Int, R (List.replicate n []) u = [] := fun u => by
    unfold R
    rw [List.getD_eq_getElem?_getD, List.getElem?_replicate]
    split <;> rfl
  refine ⟨by simp, fun u _ _ => ?_, fun u _ _ x hx => ?_, fun a b h1 h2 h3 => ?_, fun a b _ _ _ => ?_⟩
  · rw [e]; exact List.nodup_nil
  · rw [e] at hx; cases hx
  · omega
  · rw [e, e]; exact ⟨List.not_mem_nil, List.not_mem_nil⟩
theorem Drawn.next {n : Nat} {ord : List Int} {rows : List (List Int)} {i : Nat} (D : Drawn n ord rows i n) : Drawn n ord rows (i + 1) 0 :=
  ⟨D.len, D.nd, D.rng, fun a b h1 h2 h3 => D.done a b h1 h2 (by omega), fun a b h1 h2 h3 => D.todo a b h1 h2 (by omega)⟩
theorem Drawn.skip {n : Nat} {ord : List Int} {rows : List (List Int)} {i : Nat} (D : Drawn n ord rows i 0) : Drawn n ord rows i (i + 1) :=
  ⟨D.len, D.nd, D.rng, fun a b h1 h2 h3 => D.done a b h1 h2 (by omega), fun a b h1 h2 h3 => D.todo a b h1 h2 (by omega)⟩
theorem Drawn.win {n : Nat} {ord : List Int} {rows : List (List Int)} {i j : Nat} (O : OrdOk n ord) (D : Drawn n ord rows i j) (hij : i < j) (hj : j < n) {u v : Int}
    (h : (u = ord.getD i 0 ∧ v = ord.getD j 0) ∨ (u = ord.getD j 0 ∧ v = ord.getD i 0)) : Drawn n ord (push rows u v) i (j + 1) := by
  have hi : i < n := by omega
  have oi := O.rng i hi
  have oj := O.rng j hj
  have hu : 0 ≤ u ∧ u < n := by rcases h with ⟨a, _⟩ | ⟨a, _⟩ <;> rw [a] <;> assumption
  have hv : 0 ≤ v ∧ v < n := by rcases h with ⟨_, a⟩ | ⟨_, a⟩ <;> rw [a] <;> assumption
  have ne : ord.getD i 0 ≠ ord.getD j 0 := fun e => by have := O.inj i j hi hj e; omega
  have huv : v ≠ u := by rcases h with ⟨a, b⟩ | ⟨a, b⟩ <;> rw [a, b]; exact ne.symm; exact ne
  have hlt : u.toNat < rows.length := by rw [D.len]; omega
  have RP : ∀ w : Int, 0 ≤ w → R (push rows u v) w = if w = u then R rows u ++ [v] else R rows w := fun w hw => R_push hu.1 hlt hw
  have fresh : v ∉ R rows u := by
    have q := D.todo i j hij hj (by omega)
    rcases h with ⟨a, b⟩ | ⟨a, b⟩ <;> rw [a, b]
    · exact q.1
    · exact q.2
  have mem : ∀ w x : Int, 0 ≤ w → (x ∈ R (push rows u v) w ↔ x ∈ R rows w ∨ (w = u ∧ x = v)) := fun w x hw => by
    rw [RP w hw]
    split
    · rename_i e; subst e; simp
    · rename_i e; simp [e]
  refine ⟨by rw [push_length]; exact D.len, fun w h0 h1 => ?_, fun w h0 h1 x hx => ?_, fun a b h1 h2 h3 => ?_, fun a b h1 h2 h3 => ?_⟩
  · rw [RP w h0]
    split
    · rw [List.nodup_append]
      refine ⟨D.nd u hu.1 hu.2, by simp, fun x hx y hy e => ?_⟩
      have : y = v := by simpa using hy
      subst this; subst e; exact fresh hx
    · exact D.nd w h0 h1
  · rcases (mem w x h0).mp hx with q | ⟨q1, q2⟩
    · exact D.rng w h0 h1 x q
    · subst q1 q2; exact ⟨hv.1, hv.2, huv⟩
  · have ha : a < n := by omega
    have oa := O.rng a ha
    have ob := O.rng b h2
    rw [mem _ _ oa.1, mem _ _ ob.1]
    by_cases hab : a = i ∧ b = j
    · obtain ⟨rfl, rfl⟩ := hab
      have q := D.todo a b h1 h2 (by omega)
      rcases h with ⟨e1, e2⟩ | ⟨e1, e2⟩
      · rw [e1, e2]
        constructor
        · intro _ z
          rcases z with z | ⟨z, _⟩
          · exact q.2 z
          · exact ne z.symm
        · intro _; exact .inr ⟨rfl, rfl⟩
      · rw [e1, e2]
        constructor
        · intro z
          rcases z with z | ⟨z, _⟩
          · exact absurd z q.1
          · exact absurd z ne
        · intro z; exact absurd (.inr ⟨rfl, rfl⟩) z
    · have q := D.done a b h1 h2 (by omega)
      have n1 : ¬ (ord.getD a 0 = u ∧ ord.getD b 0 = v) := fun ⟨z1, z2⟩ => by
        rcases h with ⟨e1, e2⟩ | ⟨e1, e2⟩
        · exact hab ⟨O.inj a i ha hi (z1.trans e1), O.inj b j h2 hj (z2.trans e2)⟩
        · have := O.inj a j ha hj (z1.trans e1); have := O.inj b i h2 hi (z2.trans e2); omega
      have n2 : ¬ (ord.getD b 0 = u ∧ ord.getD a 0 = v) := fun ⟨z1, z2⟩ => by
        rcases h with ⟨e1, e2⟩ | ⟨e1, e2⟩
        · have := O.inj b i h2 hi (z1.trans e1); have := O.inj a j ha hj (z2.trans e2); omega
        · exact hab ⟨O.inj a i ha hi (z2.trans e2), O.inj b j h2 hj (z1.trans e1)⟩
      simp only [n1, n2, or_false]
      exact q
  · have ha : a < n := by omega
    have oa := O.rng a ha
    have ob := O.rng b h2
    rw [mem _ _ oa.1, mem _ _ ob.1]
    have hab : ¬ (a = i ∧ b = j) := fun ⟨e1, e2⟩ => h3 (by omega)
    have q := D.todo a b h1 h2 (by omega)
    have n1 : ¬ (ord.getD a 0 = u ∧ ord.getD b 0 = v) := fun ⟨z1, z2⟩ => by
      rcases h with ⟨e1, e2⟩ | ⟨e1, e2⟩
      · exact hab ⟨O.inj a i ha hi (z1.trans e1), O.inj b j h2 hj (z2.trans e2)⟩
      · have := O.inj a j ha hj (z1.trans e1); have := O.inj b i h2 hi (z2.trans e2); omega
    have n2 : ¬ (ord.getD b 0 = u ∧ ord.getD a 0 = v) := fun ⟨z1, z2⟩ => by
      rcases h with ⟨e1, e2⟩ | ⟨e1, e2⟩
      · have := O.inj b i h2 hi (z1.trans e1); have := O.inj a j ha hj (z2.trans e2); omega
      · exact hab ⟨O.inj a i ha hi (z2.trans e2), O.inj b j h2 hj (z1.trans e1)⟩
    simp only [n1, n2, or_false]
    exact q
theorem Drawn.hall {n : Nat} {ord : List Int} {rows rows' : List (List Int)} (O : OrdOk n ord) (D : Drawn n ord rows n 0) (h1 : 1 ≤ n) (h12 : n ≤ 12) (hl : rows'.length = n)
    (hs : ∀ i, i < n → (rowAt rows' i).Perm (rowAt rows i) ∧ (rowAt rows' i).Pairwise (· ≤ ·)) : IsHall rows' := by
  have eR : ∀ i : Nat, R rows (i : Int) = rowAt rows i := fun i => by unfold R rowAt; rw [Int.toNat_natCast]
  have mem : ∀ i : Nat, i < n → ∀ x, x ∈ rowAt rows' i ↔ x ∈ R rows i := fun i hi x => by rw [eR]; exact (hs i hi).1.mem_iff
  refine ⟨by omega, by omega, fun i hi => ?_, fun i j hji hi => ?_⟩
  · rw [hl] at hi
    obtain ⟨hp, hw⟩ := hs i hi
    have nd : (rowAt rows' i).Nodup := hp.nodup_iff.mpr (by rw [← eR]; exact D.nd i (by omega) (by omega))
    refine ⟨?_, fun x hx => ?_⟩
    · have := hw.and (List.nodup_iff_pairwise_ne.mp nd)
      exact this.imp fun ⟨a, b⟩ => by omega
    · rw [hl]; exact D.rng i (by omega) (by omega) x ((mem i hi x).mp hx)
  · rw [hl] at hi
    rw [mem i hi, mem j (by omega)]
    obtain ⟨a, ha, ea⟩ := O.sur i (by omega) (by omega)
    obtain ⟨b, hb, eb⟩ := O.sur j (by omega) (by omega)
    have hab : a ≠ b := by rintro rfl; omega
    rcases Nat.lt_or_gt_of_ne hab with q | q
    · have := D.done a b q hb (by omega)
      rw [ea, eb] at this
      exact this
    · have := D.done b a q ha (by omega)
      rw [ea, eb] at this
      rw [this]
      exact ⟨fun h z => z h, fun h => Classical.byContradiction h⟩
theorem few_of_nodup : ∀ (n : Nat) (l : List Int), l.Nodup → (∀ x ∈ l, 0 ≤ x ∧ x < n) → l.length ≤ n
  | 0, l, _, h => by
    cases l with
    | nil => exact Nat.le_refl _
    | cons x r => have := h x List.mem_cons_self; omega
  | n + 1, l, nd, h => by
    by_cases hm : (n : Int) ∈ l
    · have e := List.length_erase_of_mem hm
      have ih := few_of_nodup n (l.erase (n : Int)) (nd.erase _) fun x hx => by
        have := (nd.mem_erase_iff.mp hx)
        have := h x this.2
        omega
      omega
    · have ih := few_of_nodup n l nd fun x hx => by
        have q := h x hx
        have : x ≠ n := fun e => hm (e ▸ hx)
        omega
      omega
theorem Drawn.few {n : Nat} {ord : List Int} {rows : List (List Int)} {i j : Nat} (D : Drawn n ord rows i j) (k : Nat) (hk : k < n) : (rowAt rows k).length ≤ n := by
  have e : rowAt rows k = R rows (k : Int) := by unfold R rowAt; rw [Int.toNat_natCast]
  rw [e]
  exact few_of_nodup n _ (D.nd k (by omega) (by omega)) fun x hx => by
    have := D.rng k (by omega) (by omega) x hx
    omega
theorem IsHall.few {rows : List (List Int)} (h : IsHall rows) (k : Nat) (hk : k < rows.length) : (rowAt rows k).length ≤ rows.length :=
  few_of_nodup _ _ (List.nodup_iff_pairwise_ne.mpr ((h.beat k hk).1.imp fun a e => by omega)) fun x hx => by
    have := (h.beat k hk).2 x hx
    omega
end KH
namespace KH
open PySem L2
theorem paired_imp {α β : Type} {F G : α → β → Prop} : ∀ {as : List α} {bs : List β}, Paired F as bs → (∀ a b, a ∈ as → F a b → G a b) → Paired G as bs
  | _, _, .nil, _ => .nil
  | _, _, .cons r t, f => .cons (f _ _ List.mem_cons_self r) (paired_imp t fun a b h => f a b (List.mem_cons_of_mem _ h))
theorem paired_get {α β : Type} {F : α → β → Prop} : ∀ {as : List α} {bs : List β} {i : Nat} {b : β}, Paired F as bs → bs[i]? = some b → ∃ a, as[i]? = some a ∧ F a b
  | _, _, _, _, .nil, e => by simp at e
  | _, _, 0, _, .cons r _, e => by simp at e; subst e; exact ⟨_, rfl, r⟩
  | _, _, i + 1, x, .cons _ t, e => by
    obtain ⟨u, h1, h2⟩ := paired_get (i := i) (b := x) t (by simpa using e)
    exact ⟨u, by simpa using h1, h2⟩
theorem paired_getA {α β : Type} {F : α → β → Prop} : ∀ {as : List α} {bs : List β} {i : Nat} {a : α}, Paired F as bs → as[i]? = some a → ∃ b, bs[i]? = some b ∧ F a b
  | _, _, _, _, .nil, e => by simp at e
  | _, _, 0, _, .cons r _, e => by simp at e; subst e; exact ⟨_, rfl, r⟩
  | _, _, i + 1, x, .cons _ t, e => by
    obtain ⟨u, h1, h2⟩ := paired_getA (i := i) (a := x) t (by simpa using e)
    exact ⟨u, by simpa using h1, h2⟩
theorem paired_set {α β : Type} {F G : α → β → Prop} : ∀ {as : List α} {bs : List β} {i : Nat} {a : α} {b : β}, Paired F as bs → as.Nodup → as[i]? = some a → G a b → (∀ c d, c ≠ a → F c d → G c d) → Paired G as (bs.set i b)
  | _, _, _, _, _, .nil, _, e, _, _ => by simp at e
  | _, _, 0, _, _, .cons r t, nd, e, g, f => by
    simp at e; subst e
    rw [List.nodup_cons] at nd
    exact .cons g (paired_imp t fun c d hc q => f c d (fun z => nd.1 (z ▸ hc)) q)
  | _, _, i + 1, a, _, .cons r t, nd, e, g, f => by
    rw [List.nodup_cons] at nd
    have e' := (by simpa using e : _[i]? = some a)
    refine .cons (f _ _ (fun z => nd.1 (z ▸ List.mem_of_getElem? e')) r) (paired_set t nd.2 e' g f)
structure HallAt (H : Hp) (p : Addr) (as : List Addr) (rows : List (List Int)) : Prop where
  top : H p = some (.lst (as.map V.ref))
  row : Paired (fun a (r : List Int) => H a = some (.lst (r.map V.int))) as rows
  nd : as.Nodup
  ne : p ∉ as
theorem HallAt.len {H : Hp} {p : Addr} {as : List Addr} {rows : List (List Int)} (h : HallAt H p as rows) : as.length = rows.length := Paired.length h.row
theorem HallAt.sq {K : PySem.W.Frag} {H : Hp} {p : Addr} {as : List Addr} {rows : List (List Int)} (h : HallAt H p as rows) : SqL K H p (as.map V.ref) := SqL.of h.top
theorem HallAt.rows {K : PySem.W.Frag} {H : Hp} {p : Addr} {as : List Addr} {rows : List (List Int)} (h : HallAt H p as rows) : RowsAt K H as rows := paired_imp h.row fun _ _ _ q => SqL.of q
theorem HallAt.same {H H' : Hp} {p : Addr} {as : List Addr} {rows : List (List Int)} (h : HallAt H p as rows) (s : Same H H') : HallAt H' p as rows :=
  ⟨s _ _ h.top, paired_imp h.row fun _ _ _ q => s _ _ q, h.nd, h.ne⟩
theorem rows_same {K : PySem.W.Frag} {H H' : Hp} {as : List Addr} {rows : List (List Int)} (h : RowsAt K H as rows) (s : Same H H') : RowsAt K H' as rows := paired_imp h fun _ _ _ q => s.seq q
theorem same_new {H : Hp} {p : Addr} (h : H p = none) (o : HO) : Same H (upd H p o) := fun b u q => by rw [upd_ne (ne_of_none q h)]; exact q
structure NewHall (H0 H : Hp) (p : Addr) (as : List Addr) (rows : List (List Int)) : Prop where
  at_ : HallAt H p as rows
  same : Same H0 H
  np : H0 p = none
  na : ∀ a ∈ as, H0 a = none
theorem NewHall.start {H : Hp} {p : Addr} (h : H p = none) : NewHall H (upd H p (.lst [])) p [] [] :=
  ⟨⟨upd_same, .nil, List.nodup_nil, List.not_mem_nil⟩, same_new h _, h, fun _ z => by cases z⟩
theorem NewHall.snoc {H0 H H' : Hp} {p b : Addr} {as : List Addr} {rows : List (List Int)} {r : List Int} (h : NewHall H0 H p as rows) (hs : Same H H') (hb : H' b = some (.lst (r.map V.int))) (hn : H b = none) :
    NewHall H0 (upd H' p (.lst ((as ++ [b]).map V.ref))) p (as ++ [b]) (rows ++ [r]) := by
  have hbp : b ≠ p := (ne_of_none h.at_.top hn).symm
  have hba : b ∉ as := fun hm => by
    obtain ⟨i, hi, e⟩ := List.mem_iff_getElem.mp hm
    obtain ⟨r', _, q⟩ := paired_getA h.at_.row (List.getElem?_eq_getElem hi)
    rw [e, hn] at q
    cases q
  refine ⟨⟨upd_same, ?_, ?_, ?_⟩, fun c o q => ?_, h.np, fun a ha => ?_⟩
  · refine Paired.snoc (paired_imp h.at_.row fun a r' ha q => ?_) ?_
    · rw [upd_ne (fun (z : a = p) => h.at_.ne (z ▸ ha))]
      exact hs _ _ q
    · rw [upd_ne hbp]; exact hb
  · rw [List.nodup_append]
    exact ⟨h.at_.nd, by simp, fun x hx y hy e => hba (by rw [show y = b by simpa using hy] at e; exact e ▸ hx)⟩
  · intro hm
    rcases List.mem_append.mp hm with q | q
    · exact h.at_.ne q
    · exact hbp (by simpa using q : p = b).symm
  · rw [upd_ne (fun z => by rw [z, h.np] at q; cases q)]
    exact hs _ _ (h.same _ _ q)
  · rcases List.mem_append.mp ha with q | q
    · exact h.na a q
    · rw [show a = b by simpa using q]
      exact h.same.free hn
theorem NewHall.snoc' {H0 H H' : Hp} {p b : Addr} {as : List Addr} {rows : List (List Int)} {r : List Int} (h : NewHall H0 H p as rows) (hs : Same H H') (hb : H' b = some (.lst (r.map V.int))) (hn : H b = none) :
    NewHall H0 (upd H' p (.lst (as.map V.ref ++ [.ref b]))) p (as ++ [b]) (rows ++ [r]) := by
  have q := h.snoc hs hb hn
  rw [List.map_append] at q
  exact q
theorem NewHall.grow {H0 H H' : Hp} {p : Addr} {as : List Addr} {rows : List (List Int)} (h : NewHall H0 H p as rows) (s : Same H H') : NewHall H0 H' p as rows :=
  ⟨h.at_.same s, h.same.trans s, h.np, h.na⟩
theorem NewHall.base {H0 H1 H : Hp} {p : Addr} {as : List Addr} {rows : List (List Int)} (s : Same H0 H1) (h : NewHall H1 H p as rows) : NewHall H0 H p as rows :=
  ⟨h.at_, s.trans h.same, s.free h.np, fun a ha => s.free (h.na a ha)⟩
theorem NewHall.put {H0 H : Hp} {p a : Addr} {as : List Addr} {rows : List (List Int)} {i : Nat} {r' : List Int} (h : NewHall H0 H p as rows) (ha : as[i]? = some a) :
    NewHall H0 (upd H a (.lst (r'.map V.int))) p as (rows.set i r') := by
  have hm := List.mem_of_getElem? ha
  refine ⟨⟨?_, ?_, h.at_.nd, h.at_.ne⟩, fun b o q => ?_, h.np, h.na⟩
  · rw [upd_ne (fun (z : p = a) => h.at_.ne (z ▸ hm))]; exact h.at_.top
  · exact paired_set h.at_.row h.at_.nd ha upd_same fun c d hc q => by rw [upd_ne hc]; exact q
  · rw [upd_ne (fun z => by rw [z, h.na a hm] at q; cases q)]
    exact h.same _ _ q
theorem paired_erase {α β : Type} {F : α → β → Prop} : ∀ {as : List α} {bs : List β} (i : Nat), Paired F as bs → Paired F (as.eraseIdx i) (bs.eraseIdx i)
  | _, _, _, .nil => .nil
  | _, _, 0, .cons _ t => t
  | _, _, i + 1, .cons r t => .cons r (paired_erase i t)
theorem paired_insert {α β : Type} {F : α → β → Prop} {a : α} {b : β} (r : F a b) : ∀ {as : List α} {bs : List β} (i : Nat), Paired F as bs → Paired F (as.take i ++ a :: as.drop i) (bs.take i ++ b :: bs.drop i)
  | _, _, _, .nil => by simpa using Paired.cons r .nil
  | _, _, 0, .cons q t => .cons r (.cons q t)
  | _, _, i + 1, .cons q t => .cons q (paired_insert r i t)
theorem NewHall.erase {H0 H : Hp} {p : Addr} {as : List Addr} {rows : List (List Int)} (h : NewHall H0 H p as rows) (i : Nat) :
    NewHall H0 (upd H p (.lst ((as.eraseIdx i).map V.ref))) p (as.eraseIdx i) (rows.eraseIdx i) := by
  have sub : ∀ a ∈ as.eraseIdx i, a ∈ as := fun a ha => List.mem_of_mem_eraseIdx ha
  refine ⟨⟨upd_same, paired_imp (paired_erase i h.at_.row) fun a r ha q => ?_, h.at_.nd.sublist (List.eraseIdx_sublist _ _), fun z => h.at_.ne (sub _ z)⟩, fun b o q => ?_, h.np, fun a ha => h.na a (sub a ha)⟩
  · rw [upd_ne (fun (z : a = p) => h.at_.ne (z ▸ sub a ha))]; exact q
  · rw [upd_ne (fun z => by rw [z, h.np] at q; cases q)]
    exact h.same _ _ q
theorem NewHall.insert {H0 H H' : Hp} {p b : Addr} {as : List Addr} {rows : List (List Int)} {r : List Int} (h : NewHall H0 H p as rows) (hs : Same H H') (hb : H' b = some (.lst (r.map V.int))) (hn : H b = none) (i : Nat) :
    NewHall H0 (upd H' p (.lst ((as.take i ++ b :: as.drop i).map V.ref))) p (as.take i ++ b :: as.drop i) (rows.take i ++ r :: rows.drop i) := by
  have hbp : b ≠ p := (ne_of_none h.at_.top hn).symm
  have hba : b ∉ as := fun hm => by
    obtain ⟨i, hi, e⟩ := List.mem_iff_getElem.mp hm
    obtain ⟨r', _, q⟩ := paired_getA h.at_.row (List.getElem?_eq_getElem hi)
    rw [e, hn] at q
    cases q
  have perm : (as.take i ++ b :: as.drop i).Perm (b :: as) := by
    have a : (as.take i ++ b :: as.drop i).Perm (b :: (as.take i ++ as.drop i)) := List.perm_middle
    rw [List.take_append_drop] at a
    exact a
  have mem : ∀ a ∈ as.take i ++ b :: as.drop i, a = b ∨ a ∈ as := fun a ha => List.mem_cons.mp (perm.mem_iff.mp ha)
  refine ⟨⟨upd_same, paired_imp (paired_insert (a := b) (b := r) hb i (paired_imp h.at_.row fun a r' _ q => hs _ _ q)) fun a r' ha q => ?_, perm.nodup_iff.mpr (List.nodup_cons.mpr ⟨hba, h.at_.nd⟩), fun z => ?_⟩, fun c o q => ?_, h.np, fun a ha => ?_⟩
  · rw [upd_ne (fun z => ?_)]
    · exact q
    · rcases mem a ha with e | e
      · exact hbp (e.symm.trans z)
      · exact h.at_.ne (z ▸ e)
  · rcases mem p z with e | e
    · exact hbp e.symm
    · exact h.at_.ne e
  · rw [upd_ne (fun z => by rw [z, h.np] at q; cases q)]
    exact hs _ _ (h.same _ _ q)
  · rcases mem a ha with e | e
    · rw [e]; exact h.same.free hn
    · exact h.na a e
def Lens (c : Nat) (rows : List (List Int)) : Prop := ∀ r ∈ rows, r.length ≤ c
theorem Lens.at_ {c : Nat} {rows : List (List Int)} (h : Lens c rows) (i : Nat) : (rowAt rows i).length ≤ c := by
  unfold rowAt
  by_cases hi : i < rows.length
  · rw [getD_of_lt hi]; exact h _ (List.getElem_mem _)
  · rw [List.getD_eq_getElem?_getD, List.getElem?_eq_none (by omega)]; exact Nat.zero_le _
theorem Lens.mono {c d : Nat} {rows : List (List Int)} (h : Lens c rows) (hcd : c ≤ d) : Lens d rows := fun r hr => Nat.le_trans (h r hr) hcd
theorem Lens.set {c : Nat} {rows : List (List Int)} {r : List Int} (h : Lens c rows) (hr : r.length ≤ c) (i : Nat) : Lens c (rows.set i r) := fun x hx => by
  rcases List.mem_or_eq_of_mem_set hx with q | q
  · exact h x q
  · rw [q]; exact hr
theorem Lens.snoc {c : Nat} {rows : List (List Int)} {r : List Int} (h : Lens c rows) (hr : r.length ≤ c) : Lens c (rows ++ [r]) := fun x hx => by
  rcases List.mem_append.mp hx with q | q
  · exact h x q
  · rw [show x = r by simpa using q]; exact hr
theorem Lens.erase {c : Nat} {rows : List (List Int)} (h : Lens c rows) (i : Nat) : Lens c (rows.eraseIdx i) := fun x hx => h x (List.mem_of_mem_eraseIdx hx)
theorem Lens.insert {c : Nat} {rows : List (List Int)} {r : List Int} (h : Lens c rows) (hr : r.length ≤ c) (i : Nat) : Lens c (rows.take i ++ r :: rows.drop i) := fun x hx => by
  rcases List.mem_append.mp hx with q | q
  · exact h x (List.mem_of_mem_take q)
  · rcases List.mem_cons.mp q with q | q
    · rw [q]; exact hr
    · exact h x (List.mem_of_mem_drop q)
theorem IsHall.lens {rows : List (List Int)} (h : IsHall rows) : Lens 12 rows := fun r hr => by
  obtain ⟨i, hi, e⟩ := List.mem_iff_getElem.mp hr
  have := h.few i hi
  have hh := h.hi
  have e2 : rowAt rows i = r := by unfold rowAt; rw [getD_of_lt hi]; exact e
  rw [e2] at this
  omega
theorem at_int {ns : List Int} {k : Int} (h0 : 0 ≤ k) (h : k < ns.length) : atI (ns.map V.int) k = some (.int (ns.getD k.toNat 0)) := by
  have hk : k.toNat < ns.length := by omega
  have ek : k = ((k.toNat : Nat) : Int) := by omega
  have q : atI (ns.map V.int) ((k.toNat : Nat) : Int) = some (.int ns[k.toNat]) := atI_nat (by rw [List.getElem?_map, List.getElem?_eq_getElem hk]; rfl)
  rw [← ek] at q
  rw [q, getD_of_lt hk]
theorem at_ref {as : List Addr} {k : Int} {a : Addr} (h0 : 0 ≤ k) (h : as[k.toNat]? = some a) : atI (as.map V.ref) k = some (.ref a) := by
  have ek : k = ((k.toNat : Nat) : Int) := by omega
  have q : atI (as.map V.ref) ((k.toNat : Nat) : Int) = some (.ref a) := atI_nat (by rw [List.getElem?_map, h]; rfl)
  rw [← ek] at q
  exact q
theorem rows_at {K : PySem.W.Frag} {H : Hp} {as : List Addr} {rows : List (List Int)} {k : Int} (R : RowsAt K H as rows) (h0 : 0 ≤ k) (h : k < rows.length) :
    ∃ a, atI (as.map V.ref) k = some (.ref a) ∧ as[k.toNat]? = some a ∧ SqL K H a ((rowAt rows k.toNat).map V.int) := by
  have hk : k.toNat < rows.length := by omega
  obtain ⟨a, ea, sa⟩ := RowsAt.get R (i := k.toNat) (r := rowAt rows k.toNat) (by rw [List.getElem?_eq_getElem hk]; unfold rowAt; rw [getD_of_lt hk])
  exact ⟨a, at_ref h0 ea, ea, sa⟩
theorem flat_ints (ns : List Int) : (ns.map V.int).all flatV = true := by
  rw [List.all_eq_true]
  intro x hx
  obtain ⟨i, _, rfl⟩ := List.mem_map.mp hx
  rfl
theorem inV_int (x : Int) (ns : List Int) : inV (.int x) (ns.map V.int) = decide (x ∈ ns) := by
  unfold inV
  rw [Bool.eq_iff_iff, List.any_eq_true, decide_eq_true_iff]
  constructor
  · rintro ⟨y, hy, e⟩
    obtain ⟨i, hi, rfl⟩ := List.mem_map.mp hy
    have : i = x := by simpa [eqV] using e
    rw [← this]; exact hi
  · intro h
    exact ⟨.int x, List.mem_map.mpr ⟨x, h, rfl⟩, by simp [eqV]⟩
theorem small {n : Nat} (h : n ≤ 1000) : n ≤ sizeLine := Nat.le_of_lt (small1000 h)
theorem smallL {n : Nat} (h : n ≤ 1000) : n < sizeLine := small1000 h
end KH
namespace L2
open PySem PySem.Spec PyProof.Rows
theorem HOk.keptOn {P : Program} {w : World} {H : Hp} {h h' : Heap} (x : HOk P w H h) (k : ∀ b u o, H b = some o → h.get? b = some u → h'.get? b = some u) : HOk P w H h' := fun a o e =>
  (x a o e).stay (fun b u hb q => by
    rcases hb with z | z
    · subst z; exact k _ _ _ e q
    · exact k _ _ _ z q) (fun _ q => q) fun _ _ q => q
theorem ObjOk.has {P : Program} {w : World} {H : Hp} {h : Heap} {a : Addr} {o : HO} (x : ObjOk P w H h a o) : ∃ ob, h.get? a = some ob := by
  cases o with
  | lst xs => obtain ⟨_, _, _, _, e⟩ := x; exact ⟨_, e⟩
  | tup xs => obtain ⟨_, _, _, _, e, _⟩ := x; exact ⟨_, e⟩
  | dK kvs => obtain ⟨_, _, _, _, o, _, _, e, _⟩ := x; exact ⟨_, e⟩
  | dT kvs => obtain ⟨_, _, _, _, o, _, _, e, _⟩ := x; exact ⟨_, e⟩
  | set S n => obtain ⟨o, _, _, _, e, _⟩ := x; exact ⟨_, e⟩
  | ins C dx fs => obtain ⟨_, _, _, e, _⟩ := x; exact ⟨_, e⟩
  | own y => obtain ⟨_, e⟩ := x; exact ⟨_, e⟩
  | xd fs => obtain ⟨_, ⟨_, _, _, e, _⟩, _⟩ := x; exact ⟨_, e⟩
  | rng lo hi => obtain ⟨_, _, _, e⟩ := x; exact ⟨_, e⟩
  | frz ob u => obtain ⟨e, _⟩ := x; exact ⟨_, e⟩
  | tbl ps => exact ⟨_, (show h.get? a = some _ from x)⟩
  | met f y => exact ⟨_, (show h.get? a = some _ from x)⟩
  | ext φ => obtain ⟨_, ⟨_, e⟩, _⟩ := x; exact ⟨_, e⟩
def CXE (P : Program) (w : World) : CXT := fun outer H s E e s' => ∃ (ea C : Addr) (a0 : Value) (H' : Hp) (B : Heap), e = .ref ea ∧ s'.os = s.os ∧ AllBare s'.gens ∧ Un (frs outer) [] H H' s.heap s'.heap ∧ HOk P w H' s'.heap ∧
  Heap.FlyingW B outer ea (.ref C) a0 s'.heap ∧ (∀ b, b ∉ frs outer → ((∃ o, s.heap.get? b = some o) ∨ ∃ u, H' b = some u) → ∃ o, B.get? b = some o) ∧ E (.ref C) none H'
section
variable {P : Program} {w : World} {K : PySem.W.Frag} {mg : Str → Option Value} {base : Heap} {N : List Str} {qual : Str} {scope : Scope} {f : Addr} {cd : Value} {A : Around} {outer : List Env} {s : Shared} {H : Hp} {E : XK}
theorem leave_core {pins : List (Addr × Obj)} {σ : St} {H1 : Hp} {s1 : Shared} {ea C : Addr} {a0 : Value} {B h' : Heap} {g' : Array GenState} {d' : Drawn} {t' : Nat} (I : Inv (cxOf (CXE P w) P w K mg base N qual scope f cd A outer s H E) pins σ H1 s1)
    (hg : AllBare g') (fl : Heap.FlyingW B outer ea (.ref C) a0 h') (up : s1.heap.UpToSlots h')
    (cov : ∀ b, b ∉ frs (envOfC qual scope s.heap.objs.size f cd :: outer) → ((∃ o, s.heap.get? b = some o) ∨ ∃ u, H1 b = some u) → ∃ o, B.get? b = some o ∧ s1.heap.get? b = some o)
    (q : E (.ref C) none H1) : CXE P w outer H s E (.ref ea) ⟨h', g', d', t', s1.os⟩ := by
  have base_ : Un (frs outer) [] H H1 s.heap s1.heap := I.base
  have stk : ∀ b, b ∈ frs (envOfC qual scope s.heap.objs.size f cd :: outer) → H1 b = none := I.stkFree
  have loc : ∀ b, b ∈ frs (envOfC qual scope s.heap.objs.size f cd :: outer) → b = s.heap.objs.size ∨ b ∈ frs outer := fun b hb => List.mem_cons.mp (I.stkSub b hb)
  have nst : ∀ b o, s.heap.get? b = some o → b ∉ frs outer → b ∉ frs (envOfC qual scope s.heap.objs.size f cd :: outer) := fun b o e hb hm => by
    rcases loc b hm with z | z
    · rw [z] at e; exact absurd (Heap.lt_size e) (Nat.lt_irrefl _)
    · exact hb z
  have keep : ∀ b o, s1.heap.get? b = some o → b ∉ frs (envOfC qual scope s.heap.objs.size f cd :: outer) → ((∃ o, s.heap.get? b = some o) ∨ ∃ u, H1 b = some u) → h'.get? b = some o := fun b o e hb hc => by
    obtain ⟨o', e1, e2⟩ := cov b hb hc
    rw [e] at e2
    cases e2
    exact fl.1 _ _ e1
  have slot : ∀ b o, s.heap.get? b = some o → H b = none → b ∈ frs outer → ∃ sl, h'.get? b = some { o with slots := sl } := fun b o e hn hm => by
    obtain ⟨sl, e1⟩ := base_.slot b o e hn hm (by simp)
    obtain ⟨_, o', ho', hd⟩ := I.ok.funs.mem (show b ∈ (outer.filterMap (·.frame)) from hm)
    have eo : o' = o := by
      have : s.heap.get? b = some o' := ho'
      rw [e] at this
      exact (Option.some.inj this).symm
    subst eo
    obtain ⟨sl2, e2⟩ := up b _ e1 hd
    exact ⟨sl2, e2⟩
  refine ⟨ea, C, a0, H1, B, rfl, I.os, hg, ⟨fun b o e hn hb _ => ?_, fun b o e hn hb _ => slot b o e hn hb, fun b o e hn hx => base_.free b o e hn hx, fun b o e hx => ?_, base_.tups, base_.frzs, base_.tbls⟩, ?_, fl, fun b hb hc => ?_, q⟩
  · exact keep b o (base_.keep b o e hn hb (by simp)) (nst b o e hb) (.inl ⟨o, e⟩)
  · by_cases hb : b ∈ frs outer
    · obtain ⟨sl, e1⟩ := slot b o e (I.ok.frf b hb) hb
      exact ⟨_, e1⟩
    · obtain ⟨o', e1⟩ := base_.there b o e hx
      exact ⟨o', keep b o' e1 (nst b o e hb) (.inl ⟨o, e⟩)⟩
  · exact I.hok.keptOn fun b u o e1 e2 => keep b u e2 (fun hm => by rw [stk b hm] at e1; cases e1) (.inr ⟨o, e1⟩)
  · by_cases hm : b ∈ frs (envOfC qual scope s.heap.objs.size f cd :: outer)
    · rcases loc b hm with z | z
      · rcases hc with ⟨o, e⟩ | ⟨u, e⟩
        · rw [z] at e; exact absurd (Heap.lt_size e) (Nat.lt_irrefl _)
        · rw [stk b hm] at e; cases e
      · exact absurd z hb
    · obtain ⟨o, e1, _⟩ := cov b hm hc
      exact ⟨o, e1⟩
theorem passE : Passes (CXE P w) (cxOf (CXE P w) P w K mg base N qual scope f cd A outer s H E) E := by
  intro pins σ H1 s1 e s' I h
  obtain ⟨ea, C, a0, H', B, rfl, os, bare, un, hok, fl, cov, q⟩ := h
  have J : Inv (cxOf (CXE P w) P w K mg base N qual scope f cd A outer s H E) pins σ H' s' := I.call' os un hok bare fun b hb => absurd hb (by simp)
  have sz : s.heap.objs.size ≤ s1.heap.objs.size := I.sz
  refine wpAny_leaves_onW (A := A.deeper (envOfC qual scope s.heap.objs.size f cd)) I.ok.frames rfl fl fun h'' fl'' up => ?_
  obtain ⟨hh, g, d, t, os'⟩ := s'
  refine leave_core (s1 := ⟨hh, g, d, t, os'⟩) J bare fl'' up (fun b hb hc => ?_) q
  have hc' : (∃ o, s1.heap.get? b = some o) ∨ ∃ u, H' b = some u := by
    rcases hc with ⟨o, e⟩ | hc
    · exact .inl (I.base.there b o e (fun z => absurd (show b ∈ ([] : List Addr) from z) (by simp)))
    · exact .inr hc
  obtain ⟨o, e1⟩ := cov b hb hc'
  exact ⟨o, e1, fl.1 _ _ e1⟩
theorem raiseE {pins : List (Addr × Obj)} {σ : St} {H1 : Hp} {s1 : Shared} {h2 : Heap} {ea C : Addr} {args : List Value} (I : Inv (cxOf (CXE P w) P w K mg base N qual scope f cd A outer s H E) pins σ H1 s1)
    (hx : Heap.MadeExcOf s1.heap h2 ea (.ref C) args) (q : E (.ref C) none H1) : (cxOf (CXE P w) P w K mg base N qual scope f cd A outer s H E).xe (.ref ea) { s1 with heap := h2 } := by
  obtain ⟨hh, g, d, t, os'⟩ := s1
  have hin : ∀ env ∈ (envOfC qual scope s.heap.objs.size f cd :: outer), ∀ b, env.frame = some b → b ∈ frs (envOfC qual scope s.heap.objs.size f cd :: outer) := fun env he b hb => List.mem_filterMap.mpr ⟨env, he, hb⟩
  refine wpAny_leaves_madeW (A := A.deeper (envOfC qual scope s.heap.objs.size f cd)) (base := PySem.W.hideAll hh (frs (envOfC qual scope s.heap.objs.size f cd :: outer))) (h := hh) I.ok.frames rfl (fun b o q => PySem.W.of_hideAll _ q) (PySem.W.funFrames_hide I.stack hin) hx fun h' t x1 x2 x3 x4 => ?_
  refine leave_core (s1 := ⟨hh, g, d, _, os'⟩) I I.bare x1 ((Heap.UpToSlots.of_keeps hx.keeps).trans x4) (fun b hb hc => ?_) q
  have : ∃ o, hh.get? b = some o := by
    rcases hc with ⟨o, e⟩ | ⟨u, e⟩
    · exact I.base.there b o e (fun z => absurd (show b ∈ ([] : List Addr) from z) (by simp))
    · exact (I.hok b u e).has
  obtain ⟨o, e⟩ := this
  exact ⟨o, PySem.W.hideAll_get _ e hb, e⟩
end
end L2
namespace L2
open PySem PySem.Spec PyProof.Rows
abbrev bmVE : List Value := [.type "ValueError", .type "Exception", .type "BaseException", .type "object"]
abbrev OwnE (mg : Str → Option Value) (base : Heap) (x : Str) (C : Addr) : Prop := OwnCls x C bmVE "ValueError.__new__" mg base
def tRaise (E : XK) (C : Addr) (t : TA) : TS := fun _ σ H => t σ H fun vs H1 => vs.length ≤ sizeLine ∧ E (.ref C) none H1
section
variable {P : Program} {w : World} {K : PySem.W.Frag} {mg : Str → Option Value} {base : Heap} {N : List Str} {qual : Str} {scope : Scope} {f : Addr} {cd : Value} {A : Around} {outer : List Env} {s : Shared} {H : Hp} {E : XK}
theorem ps_raise {x : Str} {C : Addr} {np cpos pos : Pos} {e : Expr} {es : List Expr} {t : TA} (O : OwnE mg base x C) (hg : Gl (cxOf (CXE P w) P w K mg base N qual scope f cd A outer s H E) x)
    (ha : PA (cxOf (CXE P w) P w K mg base N qual scope f cd A outer s H E) (e :: es) t) (hdb : (x == ("__debug__" : Str)) = false := by decide)
    (he : starEach (e :: es) (cxOf (CXE P w) P w K mg base N qual scope f cd A outer s H E).env = (false, eval e (cxOf (CXE P w) P w K mg base N qual scope f cd A outer s H E).env) :: starEach es (cxOf (CXE P w) P w K mg base N qual scope f cd A outer s H E).env := by rfl)
    (hpl : (backTo cpos (starEach es (cxOf (CXE P w) P w K mg base N qual scope f cd A outer s H E).env)).any (·.1) = false := by rfl) :
    PS (cxOf (CXE P w) P w K mg base N qual scope f cd A outer s H E) (.Raise (some (.Call (.Name x np) (e :: es) [] cpos)) none pos) (tRaise E C t) := by
  intro pins s1 σ H1 D I h
  obtain ⟨tl, Nn, nm, q, bs, hdct, sn, sub, ab, col, dd, k0, k1, k2, k3, k5, mN, hC, hN, hni, T⟩ := O.obj
  have hh : (cxOf (CXE P w) P w K mg base N qual scope f cd A outer s H E).A.handled = none := I.ok.hd rfl
  refine wpAny_Raise_call_subU (C := C) (nm := nm) (q := q) (N := Nn) (bs := bs) (bm := tl) (hdct := hdct) (sn := sn) (sub := sub) (ab := ab) (col := col) (dd := dd) (k0 := k0) (k1 := k1) (k2 := k2) (k3 := k3) (k5 := k5)
    PySem.F.excBase_ValueError (by decide +kernel) PySem.F.excBase_ValueError (mN := mN) (T.hasType (by decide +kernel)) hh (by rw [he]; exact hpl) hni ?_
  refine ld_glob I hg O.bound ⟨rfl, ?_⟩ hdb
  have hA := fun Q (hq : t σ H1 Q) => ha cpos pins s1 σ H1 Q I hq
  rw [he] at hA ⊢
  refine Calls.evalArgs_plain (thn (hA _ h) fun us s2 ⟨vs, H2, I2, r2, hz, q2⟩ => ?_)
  have kb := I2.bk
  exact ⟨rfl, by rw [← r2.length]; exact hz, kb _ _ hC, hN.keeps kb, T.keeps kb, fun h' e' hm => raiseE I2 hm q2⟩
end
end L2
namespace L2
open PySem PySem.Spec PyProof.Rows
section
variable {P : Program} {w : World} {K : PySem.W.Frag} {mg : Str → Option Value} {base : Heap}
theorem Fun.okE {x qual : Str} {st : Stmt} {f : Addr} {fd : FuncData} {N ps : List Str} {k : Nat} {sp : Sp} (F : Fun K x qual st f fd) (S : FnScope N ps (defScope st)) (len : ∀ vs H Q E, sp vs H Q E → vs.length = ps.length)
    (hbody : ∀ (cdv : Value) (A : Around) (outer : List Env) (s : Shared) (H : Hp) (vs : List V) (Q : VK) (E : XK), Room k (A.deeper (envOfC qual (defScope st) s.heap.objs.size f cdv)) → sp vs H Q E →
      ∃ t, PSs (cxOf (CXE P w) P w K mg base N qual (defScope st) f cdv A outer s H E) (defBody st) t ∧ t { nx := fun _ H' => Q .non H', rt := Q } (start N vs) H) : FnOk P w K mg base (CXE P w) (k + 1) f fd ps sp := by
  obtain ⟨oc, od, kV, doc, pm, an, cdv, ct, osl, rfl, lk, hcd⟩ := F.ex
  exact fn_of lk hcd S len fun A outer s H vs Q E hr hsp => hbody cdv A outer s H vs Q E hr hsp
def HasE (P : Program) (w : World) (K : PySem.W.Frag) (mg : Str → Option Value) (base : Heap) (k : Nat) (x : Str) (ps : List Str) (sp : Sp) : Prop :=
  ∃ f fd, FnOk P w K mg base (CXE P w) k f fd ps sp ∧ Binds K fd ps [] ∧ PySem.W.keepIn K (.ref f) = true ∧ mg x = some (.ref f)
end
section
variable {X : Cx} {k : Nat} {x : Str} {ps : List Str} {sp : Sp} {p pos : Pos} {e : Expr} {es : List Expr} {t : TA} {E : XK}
theorem pe_callE (C : HasE X.prog X.w X.K X.mg X.base k x ps sp) (hr : Room k X.A) (hx : Passes (CXE X.prog X.w) X E) (hg : Gl X x) (ha : PA X (e :: es) t)
    (hdb : (x == ("__debug__" : Str)) = false := by decide) (he : starEach (e :: es) X.env = (false, eval e X.env) :: starEach es X.env := by rfl) (hpl : (backTo pos (starEach es X.env)).any (·.1) = false := by rfl) :
    PE X (.Call (.Name x p) (e :: es) [] pos) (tCall sp [] E t) := by
  obtain ⟨f, fd, F, b, kp, m⟩ := C
  exact pe_call F hr hg m kp b .nil hx ha hdb he hpl
end
end L2
namespace L2
open PySem PySem.Spec PyProof.Rows
section
variable {X : Cx} {k : Nat} {x : Str} {ps : List Str} {sp : Sp} {p pos : Pos} {e : Expr} {es : List Expr} {t : TA} {E : XK}
theorem call_caught {pins : List (Addr × Obj)} {σ : St} {H : Hp} {s : Shared} {Q : VK} {XE : Value → Shared → Prop} (C : HasE X.prog X.w X.K X.mg X.base k x ps sp) (hr : Room k X.A) (hg : Gl X x) (ha : ∀ xe, PA (X.wish xe) (e :: es) t)
    (I : Inv X pins σ H s) (h : t σ H fun vs H1 => sp vs H1 Q E) (hx : ∀ H1 s1 v s', Inv X pins σ H1 s1 → CXE X.prog X.w X.stack H1 s1 E v s' → XE v s')
    (hdb : (x == ("__debug__" : Str)) = false := by decide) (he : starEach (e :: es) X.env = (false, eval e X.env) :: starEach es X.env := by rfl) (hpl : (backTo pos (starEach es X.env)).any (·.1) = false := by rfl) :
    wpAny (model X.prog X.w) X.A (eval (.Call (.Name x p) (e :: es) [] pos) X.env) (EP X pins σ Q) XE s := by
  obtain ⟨f, fd, F, b, kp, m⟩ := C
  refine wpAny_Call_Name_kw (ld_glob I hg m ?_ hdb)
  refine PySem.W.callWith_K (h₀ := X.base) I.ok.mod.kin kp (thn (ha XE pos pins s σ H _ (I.wish XE) h) fun us s1 ⟨vs, H1, I1, r, q⟩ => ?_) he hpl
  have J : Inv X pins σ H1 s1 := I1.unwish
  refine ⟨J.kIn, ?_⟩
  have hl : us.length = ps.length := by rw [← r.length]; exact F.len _ _ _ _ q
  have hbt := b s1 us J.kIn (by rw [List.append_nil]; exact hl)
  rw [List.append_nil] at hbt
  refine wpAny_call (codeAny_mono (F.run X.A X.stack s1 H1 ⟨us, []⟩ us vs Q E hr J.env0 hbt r q) fun r s' hq => ?_)
  cases r with
  | ok fl =>
    cases fl with
    | ret u => exact J.after hq
    | next => exact hq.elim
    | brk => exact hq.elim
    | cont => exact hq.elim
  | error v => exact hx H1 s1 v s' J hq
end
end L2
namespace L2
open PySem PySem.Spec PyProof.Rows
section
variable {M : Model} {A : Around} {E : Value → Shared → Prop}
variable {nm qn : Str} {C N : Addr} {bs bm : List Value} {hdct : Bool} {sn : List Str} {sub : List Value} {ab : Bool} {col : Option Bool} {dd : Option Addr} {k0 k1 k2 k3 k5 : Option Value} {newId : String}
variable {nm' qn' : Str} {D N' : Addr} {bs' bm' : List Value} {hdct' : Bool} {sn' : List Str} {sub' : List Value} {ab' : Bool} {col' : Option Bool} {dd' : Option Addr} {l0 l1 l2 l3 l5 : Option Value} {newId' : String}
theorem exc_matches {h : Heap} {g : Array GenState} {d : Drawn} {t : Nat} {os : OsState} {e : Addr} {oe : Obj} {b : Bool} {Q : Bool → Shared → Prop}
    (hC : h.get? C = some (excClassObj nm qn C N bs bm hdct sn sub ab col dd k0 k1 k2 k3 k5 newId)) (hD : h.get? D = some (excClassObj nm' qn' D N' bs' bm' hdct' sn' sub' ab' col' dd' l0 l1 l2 l3 l5 newId'))
    (he : h.get? e = some oe) (hcls : oe.cls = .ref C) (hbase : bm'.contains (.type "BaseException") = true) (hb : (Value.ref C :: bm).contains (.ref D) = b) (hq : Q b ⟨h, g, d, t, os⟩) : wpAny M A (excMatches (.ref e) (.ref D)) Q E ⟨h, g, d, t, os⟩ := by
  have hdB : (Value.ref D :: bm').contains (.type "BaseException") = true := by rw [List.contains_cons, hbase, Bool.or_true]
  have f := tc_notTuple
  unfold excMatches
  repeat (first
    | (with_reducible refine wpAny_loadPart_at he ?_; rw [hcls])
    | with_reducible refine wpAny_loadPart_at hD ?_
    | (with_reducible refine wpAny_isSubtype_exc hD ?_; rw [hdB])
    | (with_reducible refine wpAny_isSubtype_exc hC ?_; rw [hb])
    | wp_step)
  cases b <;> (wp_walk; exact hq)
end
theorem un_fly {P : Program} {w : World} {l : List Env} {H H' : Hp} {h h1 h2 B base : Heap} (u : Un (frs l) [] H H' h h1) (hok : HOk P w H' h1) (k1 : B.StaysIn h1) (k2 : B.StaysIn h2)
    (cov : ∀ b, b ∉ frs l → ((∃ o, h.get? b = some o) ∨ ∃ u, H' b = some u) → ∃ o, B.get? b = some o) (up : h1.UpToSlots h2) (ff : h.FunFrames base l) (fr : ∀ b ∈ frs l, H b = none) (fr' : ∀ b ∈ frs l, H' b = none) :
    Un (frs l) [] H H' h h2 ∧ HOk P w H' h2 := by
  have keep : ∀ b o, h1.get? b = some o → b ∉ frs l → ((∃ o, h.get? b = some o) ∨ ∃ u, H' b = some u) → h2.get? b = some o := fun b o e hb hc => by
    obtain ⟨o', e1⟩ := cov b hb hc
    have := k1 _ _ e1
    rw [e] at this
    cases this
    exact k2 _ _ e1
  have slot : ∀ b o, h.get? b = some o → b ∈ frs l → ∃ sl, h2.get? b = some { o with slots := sl } := fun b o e hm => by
    obtain ⟨sl, e1⟩ := u.slot b o e (fr b hm) hm (by simp)
    obtain ⟨_, o', ho', hd⟩ := ff.mem hm
    rw [e] at ho'
    cases ho'
    obtain ⟨sl2, e2⟩ := up b _ e1 hd
    exact ⟨sl2, e2⟩
  refine ⟨⟨fun b o e hn hb _ => keep b o (u.keep b o e hn hb (by simp)) hb (.inl ⟨o, e⟩), fun b o e hn hb _ => slot b o e hb, u.free, fun b o e hx => ?_, u.tups, u.frzs, u.tbls⟩, ?_⟩
  · by_cases hb : b ∈ frs l
    · obtain ⟨sl, e1⟩ := slot b o e hb
      exact ⟨_, e1⟩
    · obtain ⟨o', e1⟩ := u.there b o e hx
      exact ⟨o', keep b o' e1 hb (.inl ⟨o, e⟩)⟩
  · exact hok.keptOn fun b v o e1 e2 => keep b v e2 (fun hm => by rw [fr' b hm] at e1; cases e1) (.inr ⟨o, e1⟩)
abbrev Cx.mark (X : Cx) (v : Value) : Cx := { X with A := X.A.mark (some v), calm := false }
theorem Inv.mark {X : Cx} {pins : List (Addr × Obj)} {σ : St} {H : Hp} {s : Shared} (I : Inv X pins σ H s) (v : Value) : Inv (X.mark v) pins σ H s :=
  ⟨⟨I.ok.mod, I.ok.kind, I.ok.glob, I.ok.blt, I.ok.above, I.ok.inj, I.ok.has, I.ok.cab, (fun h => by cases h), I.ok.frames, I.ok.stk, I.ok.exf, I.ok.bs, I.ok.bsz, I.ok.noex, I.ok.exfs, I.ok.funs, I.ok.frf⟩, I.os, I.bare, I.base, I.loc, I.cell, I.free, I.freeC, I.pin, I.hok, I.len⟩
theorem Inv.unmark {X : Cx} {v : Value} {pins : List (Addr × Obj)} {σ : St} {H : Hp} {s : Shared} (ok : X.Ok) (I : Inv (X.mark v) pins σ H s) : Inv X pins σ H s :=
  ⟨ok, I.os, I.bare, I.base, I.loc, I.cell, I.free, I.freeC, I.pin, I.hok, I.len⟩
end L2
namespace L2
open PySem PySem.Spec PyProof.Rows
def ExcOb (ea C : Addr) : HO := .ext fun h => ∃ o, h.get? ea = some o ∧ o.cls = .ref C
theorem excOb_ok {P : Program} {w : World} {H : Hp} {h : Heap} {ea C : Addr} {o : Obj} (e : h.get? ea = some o) (c : o.cls = .ref C) : ObjOk P w H h ea (ExcOb ea C) :=
  ⟨⟨o, e, c⟩, ⟨o, e⟩, fun _ _ ⟨o', x, y⟩ k => ⟨o', k o' x, y⟩⟩
theorem track {P : Program} {w : World} {l : List Env} {H H' : Hp} {h h2 : Heap} {ea : Addr} {o : HO} (u : Un (frs l) [] H H' h h2) (hok0 : HOk P w H h) (hok : HOk P w H' h2) (hn : h.get? ea = none) (hH : H' ea = none) (new : ObjOk P w (upd H' ea o) h2 ea o) :
    Un (frs l) [] H (upd H' ea o) h h2 ∧ HOk P w (upd H' ea o) h2 := by
  have ne : ∀ b q, h.get? b = some q → b ≠ ea := fun b q e z => by rw [z, hn] at e; cases e
  have neT : ∀ b q, H b = some q → b ≠ ea := fun b q e => let ⟨ob, x⟩ := (hok0 b q e).has; ne b ob x
  have neH : ∀ b q, H' b = some q → b ≠ ea := fun b q e z => by rw [z, hH] at e; cases e
  refine ⟨⟨u.keep, u.slot, fun b q e n hx => ?_, u.there, fun b xs e => ?_, fun b q v e => ?_, fun b ps e => ?_⟩, fun a q e => ?_⟩
  · rw [upd_ne (ne b q e)]; exact u.free b q e n hx
  · rw [upd_ne (neT b _ e)]; exact u.tups b xs e
  · rw [upd_ne (neT b _ e)]; exact u.frzs b q v e
  · rw [upd_ne (neT b _ e)]; exact u.tbls b ps e
  · by_cases z : a = ea
    · subst z
      rw [upd_same] at e
      cases e
      exact new
    · rw [upd_ne z] at e
      exact (hok a q e).stay (fun _ _ _ q => q) (fun b r => by rw [upd_ne (neH b _ r)]; exact r) fun b xs r => by rw [upd_ne (neH b _ r)]; exact r
theorem unbind_ok {X : Cx} {M : Model} {A : Around} {E : Value → Shared → Prop} {pins : List (Addr × Obj)} {σ : St} {H : Hp} {s : Shared} {i : Nat} {n : Str} {pos : Pos} {Q : Unit → Shared → Prop} (I : Inv X pins σ H s) (hN : X.N.Nodup) (hi : X.N[i]? = some n)
    (hl : X.env.scope.names.lookup n = some .local) (h : ∀ s', Inv X pins (σ.set i none) H s' → Q () s') : wpAny M A (do bindName X.env n .none; unbindBehindTheSuite X.env n pos) Q E s := by
  obtain ⟨m, hn, hv⟩ := id I.loc
  have hcls : (X.env.scope.kind == .class || (X.env.scope.kind == .module && X.env.locals != X.env.globals)) = false := by rw [I.ok.kind]; rfl
  refine wpAny_nameGoes_keeps (show X.env.kindOf n = some .local from hl) hn hcls fun h' v hn' hs => h _ ?_
  have low : ∀ b o, X.s₀.heap.get? b = some o → b ≠ X.env.locals := fun b o e => Nat.ne_of_lt (Nat.lt_of_lt_of_le (Heap.lt_size e) I.ok.above)
  refine ⟨I.ok, I.os, I.bare, ⟨fun b o e q hb hx => (hs.2 b (low b o e)).trans (I.base.keep b o e q hb hx), fun b o e q hb hx => ?_, I.base.free, fun b o e hx => ?_, I.base.tups, I.base.frzs, I.base.tbls⟩, ⟨_, hn', fun j y v' e1 e2 e3 => ?_⟩, fun y c e => ?_, I.free, I.freeC, fun p hp => ?_, fun b ob e => ?_, by rw [List.length_set]; exact I.len⟩
  · obtain ⟨sl, e1⟩ := I.base.slot b o e q hb hx
    exact ⟨sl, (hs.2 b (low b o e)).trans e1⟩
  · obtain ⟨o', e1⟩ := I.base.there b o e hx
    exact ⟨o', (hs.2 b (low b o e)).trans e1⟩
  · by_cases hj : j = i
    · subst hj
      have hlt : j < σ.length := by
        have := (List.getElem?_eq_some_iff.mp e2).1
        rw [List.length_set] at this
        exact this
      rw [List.getElem?_set_self hlt] at e2
      cases e2
    · rw [List.getElem?_set_ne (Ne.symm hj)] at e2
      obtain ⟨u', r', q⟩ := hv j y v' e1 e2 e3
      refine ⟨u', r', ?_⟩
      rcases q with ⟨k, e⟩ | ⟨k, c, e, z⟩
      · refine .inl ⟨k, ?_⟩
        have ny : y ≠ n := fun e => hj (nodup_ix hN e1 (e ▸ hi))
        show (if y = n then v else m y) = some u'
        rw [if_neg ny]; exact e
      · exact .inr ⟨k, c, e, z.sameBut hs (I.cne y c e)⟩
  · obtain ⟨w', z⟩ := I.cell y c e
    exact ⟨w', z.sameBut hs (I.cne y c e)⟩
  · obtain ⟨e, q, ne, nf, d⟩ := I.pin p hp
    exact ⟨(hs.2 p.1 ne).trans e, q, ne, nf, d⟩
  · refine (I.hok b ob e).stay (fun c w' hc q => (hs.2 c ?_).trans q) (fun _ q => q) fun _ _ q => q
    intro z
    have fr := I.free
    rcases hc with y | y
    · rw [← z, y, e] at fr; cases fr
    · rw [← z, y] at fr; cases fr
end L2
namespace L2
open PySem PySem.Spec PyProof.Rows
def Under (base : Heap) (C D : Addr) : Prop := ∃ bm N nm q bs hdct sn sub ab col dd k0 k1 k2 k3 k5 newId, base.get? C = some (excClassObj nm q C N bs bm hdct sn sub ab col dd k0 k1 k2 k3 k5 newId) ∧ (Value.ref C :: bm).contains (.ref D) = true
def Ends.gone (D : Ends) (i : Nat) : Ends := { nx := fun σ H => D.nx (σ.set i none) H, rt := D.rt, bk := fun σ H => D.bk (σ.set i none) H, ct := fun σ H => D.ct (σ.set i none) H }
def CatchE (tb : TS) (D : Ends) (i : Nat) (base : Heap) (Dc : Addr) (σ : St) : XK := fun v _ H => ∃ C, v = .ref C ∧ Under base C Dc ∧ ∀ ea, H ea = none → tb (D.gone i) (σ.set i (some (.ref ea))) (upd H ea (ExcOb ea C))
theorem caught {X : Cx} {pins : List (Addr × Obj)} {σ : St} {H1 : Hp} {s1 s' : Shared} {v : Value} {D : Ends} {i : Nat} {n c : Str} {Dc : Addr} {np hp : Pos} {b₀ : Stmt} {suite : List Stmt} {tb : TS}
    (J : Inv X pins σ H1 s1) (hx : CXE X.prog X.w X.stack H1 s1 (CatchE tb D i X.base Dc σ) v s') (hs : X.stack = X.env :: X.outer) (hf : X.env.frame = some X.env.locals)
    (hN : X.N.Nodup) (hi : X.N[i]? = some n) (hl : X.env.scope.names.lookup n = some .local) (hgc : Gl X c) (OD : OwnE X.mg X.base c Dc) (hb : ∀ u, PSs (X.mark u).nox (b₀ :: suite) tb) (hdb : (c == ("__debug__" : Str)) = false := by decide) :
    wpAny (model X.prog X.w) X.A (noteFrame v X.env) (fun _ s₂ => wpAny (model X.prog X.w) X.A (setFlight v none) (fun _ s₃ =>
      wpAny (model X.prog X.w) X.A (handleBy v X.env [.ExceptHandler (some (.Name c np)) (some n) (b₀ :: suite) hp]) (SP X pins D) X.xe s₃) X.xe s₂) X.xe s' := by
  obtain ⟨ea, C, a0, H', B, rfl, os, bare, un, hok, fl, cov, C', eC, hU, q⟩ := hx
  cases eC
  obtain ⟨hh, g, d, tk, os'⟩ := s'
  have hfr : X.A.frames = some (X.env :: X.outer) := by rw [← hs]; exact J.ok.frames
  have J' : Inv X pins σ H' ⟨hh, g, d, tk, os'⟩ := J.call' os un hok bare fun b hb => absurd hb (by simp)
  have flS : Heap.FlyingW B (X.env :: X.outer) ea (.ref C) a0 hh := by rw [← hs]; exact fl
  -- the exception is new, and no frame
  have nfr : ∀ h : Heap, Heap.FlyingW B (X.env :: X.outer) ea (.ref C) a0 h → ea ∉ frs X.stack := fun h x hm => by
    obtain ⟨_, _, f3, oe, vs, _, _, _, he, _, hd, _⟩ := x
    rw [hs] at hm
    obtain ⟨_, o, ho, hnf⟩ := f3.mem hm
    rw [he] at ho
    cases ho
    exact hnf vs hd
  have nB : ∀ o, B.get? ea ≠ some o := fun o e => by rw [fl.2.1] at e; cases e
  have hH : H' ea = none := by
    cases e : H' ea with
    | none => rfl
    | some u => obtain ⟨o, z⟩ := cov ea (nfr hh flS) (.inr ⟨u, e⟩); exact absurd z (nB o)
  have hn1 : s1.heap.get? ea = none := by
    cases e : s1.heap.get? ea with
    | none => rfl
    | some u => obtain ⟨o, z⟩ := cov ea (nfr hh flS) (.inl ⟨u, e⟩); exact absurd z (nB o)
  have stay : ∀ h : Heap, B.StaysIn h → hh.UpToSlots h → Un (frs X.stack) [] H1 H' s1.heap h ∧ HOk X.prog X.w H' h := fun h k up => un_fly (base := X.base) un hok fl.1 k cov up J.stack J.stkFree J'.stkFree
  refine wpAny_looks_onW hfr hf flS fun h4 held4 sm4 => ?_
  refine wpAny_landsW held4 fun h5 fl5 sm5 => ?_
  have st5 := stay h5 fl5.1 (sm4.trans sm5)
  have I5 : Inv X pins σ H' ⟨h5, g, d, tk, os'⟩ := J.call' os st5.1 st5.2 bare fun b hb => absurd hb (by simp)
  refine wpAny_handleBy_cons (codeAny_handlers_test (ld_glob (I5.mark (.ref ea)) hgc OD.bound ?_ hdb)) (by intro q; cases q)
  obtain ⟨ob, hob, hobc⟩ := fl5.there
  obtain ⟨bm, N, nm, qn, bs, hdct, sn, sub, ab, col, dd, k0, k1, k2, k3, k5, newId, hC, hm⟩ := hU
  obtain ⟨bm', N', nm', qn', bs', hdct', sn', sub', ab', col', dd', l0, l1, l2, l3, l5, mN', hD, _, _, T⟩ := OD.obj
  refine exc_matches (I5.bk _ _ hC) (I5.bk _ _ hD) hob hobc (T.hasType (by decide +kernel)) hm ?_
  refine codeAny_handlers_suite_as ?_
  refine lands_againW fl5 fun h6 fl6 sm6 => ?_
  have st6 := stay h6 fl6.1 ((sm4.trans sm5).trans sm6)
  obtain ⟨ob6, hob6, hobc6⟩ := fl6.there
  have tr := track st6.1 J.hok st6.2 hn1 hH (excOb_ok hob6 hobc6)
  have I6 : Inv X pins σ (upd H' ea (ExcOb ea C)) ⟨h6, g, d, tk, os'⟩ := J.call' os tr.1 tr.2 bare fun b hb => absurd hb (by simp)
  refine store_ok I6 hN hi (.inl hl) (v := .ref ea) (u := .ref ea) rfl (fun s7 I7 => ?_) (.inr hl)
  refine wpAny_mono (hb (.ref ea) pins s7 _ _ (D.gone i) ((I7.mark (.ref ea)).wish _) (q ea hH)) (fun f s8 h8 => ?_) (fun _ _ z => z.elim)
  cases f with
  | next =>
    obtain ⟨σ', H'', I8, q8⟩ := h8
    exact unbind_ok (I8.unwish.unmark J.ok) hN hi hl fun s9 I9 => ⟨_, _, I9, q8⟩
  | brk =>
    obtain ⟨σ', H'', I8, q8⟩ := h8
    exact unbind_ok (I8.unwish.unmark J.ok) hN hi hl fun s9 I9 => ⟨_, _, I9, q8⟩
  | cont =>
    obtain ⟨σ', H'', I8, q8⟩ := h8
    exact unbind_ok (I8.unwish.unmark J.ok) hN hi hl fun s9 I9 => ⟨_, _, I9, q8⟩
  | ret u =>
    obtain ⟨v', σ', H'', I8, r8, q8⟩ := h8
    exact unbind_ok (I8.unwish.unmark J.ok) hN hi hl fun s9 I9 => ⟨_, _, _, I9, r8, q8⟩
end L2
namespace L2
open PySem PySem.Spec PyProof.Rows
section
variable {X : Cx} {k : Nat} {x : Str} {ps : List Str} {sp : Sp} {p pos p2 tp np hp : Pos} {e : Expr} {es : List Expr} {t : TA} {i : Nat} {n c : Str} {Dc : Addr} {b₀ : Stmt} {suite : List Stmt} {tb : TS}
end
end L2
namespace L2
open PySem PySem.Spec PyProof.Rows
structure RoomM (k : Nat) (A : Around) : Prop where
  dp : A.depth + 3 * k + 5 < recursionLimit
  un : A.units + 16 * k + 200 < cLine
theorem Room.toM {k : Nat} {A : Around} (r : Room k A) : RoomM k A := ⟨r.dp, r.un⟩
theorem RoomM.mark {k : Nat} {A : Around} {v : Option Value} (r : RoomM k A) : RoomM k (A.mark v) := ⟨r.dp, r.un⟩
theorem RoomM.deeper {k : Nat} {A : Around} (r : RoomM (k + 1) A) (env : Env) : RoomM k (A.deeper env) :=
  ⟨by have := r.dp; show A.depth + 1 + 3 * k + 5 < _; omega, by have := r.un; show A.units + 3 + 16 * k + 200 < _; omega⟩
abbrev cxM (P : Program) (w : World) (K : PySem.W.Frag) (mg : Str → Option Value) (base : Heap) (N : List Str) (qual : Str) (scope : Scope) (f : Addr) (cd : Value) (A : Around) (outer : List Env) (s : Shared) (H : Hp) (E : XK) : Cx :=
  { (cxOf CX0 P w K mg base N qual scope f cd A outer s H E).nox with calm := false }
structure FnOkM (P : Program) (w : World) (K : PySem.W.Frag) (mg : Str → Option Value) (base : Heap) (k : Nat) (f : Addr) (fd : FuncData) (ps : List Str) (sp : Sp) : Prop where
  len : ∀ vs H Q E, sp vs H Q E → vs.length = ps.length
  run : ∀ (A : Around) (outer : List Env) (s : Shared) (H : Hp) (args : Args) (us : List Value) (vs : List V) (Q : VK) (E : XK), RoomM k A → Env0 P w K mg base A outer s H → BindsTo s fd args (ps.zip us) → Vals vs us → sp vs H Q E →
    codeAny (model P w) A (.call (.ref f) args) (CR CX0 outer P w H s Q E) s
section
variable {P : Program} {w : World} {K : PySem.W.Frag} {mg : Str → Option Value} {base : Heap}
theorem Fun.okM {x qual : Str} {st : Stmt} {f : Addr} {fd : FuncData} {N ps : List Str} {k : Nat} {sp : Sp} (F : Fun K x qual st f fd) (S : FnScope N ps (defScope st)) (len : ∀ vs H Q E, sp vs H Q E → vs.length = ps.length)
    (hbody : ∀ (cdv : Value) (A : Around) (outer : List Env) (s : Shared) (H : Hp) (vs : List V) (Q : VK) (E : XK), RoomM k (A.deeper (envOfC qual (defScope st) s.heap.objs.size f cdv)) → sp vs H Q E →
      ∃ t, PSs (cxM P w K mg base N qual (defScope st) f cdv A outer s H E) (defBody st) t ∧ t { nx := fun _ H' => Q .non H', rt := Q } (start N vs) H) : FnOkM P w K mg base (k + 1) f fd ps sp := by
  obtain ⟨oc, od, kV, doc, pm, an, cdv, ct, osl, rfl, lk, hcd⟩ := F.ex
  refine ⟨len, fun A outer s H args us vs Q E hr e0 hb r hsp => ?_⟩
  have hl := len _ _ _ _ hsp
  have kin : K.In s.heap := e0.mod.kin.keeps fun b o e => (e0.bs b o e).1
  have lim : s.heap.NoLimit := e0.mod.nolimit.keeps fun b o e => (e0.bs b o e).1
  have hdep : A.depth < recursionLimit := by have := hr.dp; omega
  refine codeAny_call_function hdep (kin _ _ lk) rfl S.co S.gen rfl (PySem.W.codeRec_of kin hcd) (hb _ _ _ _ ?_)
  refine wpAny_newFunctionEnv_cells S.kind (fun ⟨n, v⟩ hy => (S.par n (List.of_mem_zip hy).1).imp id fun z => ⟨z, PySem.W.cellsFrom_some _ _ _ (.inl z)⟩) fun env he s1 x => ?_
  subst he
  refine ⟨lim.keeps x.toInCall.keep, codeAny_func ?_⟩
  obtain ⟨t, ht, hq⟩ := hbody cdv A outer s H vs Q E (hr.deeper _) hsp
  have e1 : Env0 P w K mg base { A with handled := none } outer s H := ⟨e0.frames, e0.mod, e0.bs, e0.bsz, e0.funs, e0.frf, e0.hok, e0.bare⟩
  have I0 : Inv (cxOf CX0 P w K mg base N qual (defScope st) f cdv { A with handled := none } outer s H E) [] (start N vs) H s1 := inv_start S rfl e1 hl r x
  have I : Inv (cxM P w K mg base N qual (defScope st) f cdv A outer s H E) [] (start N vs) H s1 :=
    ⟨⟨I0.ok.mod, I0.ok.kind, I0.ok.glob, I0.ok.blt, I0.ok.above, I0.ok.inj, I0.ok.has, I0.ok.cab, (fun z => by cases z), Around.frames_deeper e0.frames, I0.ok.stk, I0.ok.exf, I0.ok.bs, I0.ok.bsz, I0.ok.noex, I0.ok.exfs, I0.ok.funs, I0.ok.frf⟩,
      I0.os, I0.bare, I0.base, I0.loc, I0.cell, I0.free, I0.freeC, I0.pin, I0.hok, I0.len⟩
  refine wpAny_mono (ht [] s1 (start N vs) H _ I hq) (fun fl s' hs => ?_) fun e s' hs => hs.elim
  cases fl with
  | ret u =>
    obtain ⟨v, σ', H', J, rv, q⟩ := hs
    exact ⟨v, H', J.os, J.bare, J.base, J.hok, rv, q⟩
  | next =>
    obtain ⟨σ', H', J, q⟩ := hs
    exact ⟨V.non, H', J.os, J.bare, J.base, J.hok, rfl, q⟩
  | brk =>
    obtain ⟨_, _, _, q⟩ := hs
    exact q.elim
  | cont =>
    obtain ⟨_, _, _, q⟩ := hs
    exact q.elim
def HasM (P : Program) (w : World) (K : PySem.W.Frag) (mg : Str → Option Value) (base : Heap) (k : Nat) (x : Str) (ps : List Str) (sp : Sp) : Prop :=
  ∃ f fd, FnOkM P w K mg base k f fd ps sp ∧ Binds K fd ps [] ∧ PySem.W.keepIn K (.ref f) = true ∧ mg x = some (.ref f)
end
section
variable {X : Cx} {k : Nat} {x : Str} {ps : List Str} {sp : Sp} {p pos : Pos} {e : Expr} {es : List Expr} {t : TA}
theorem pe_callM (C : HasM X.prog X.w X.K X.mg X.base k x ps sp) (hr : RoomM k X.A) (hg : Gl X x) (ha : PA X (e :: es) t)
    (hdb : (x == ("__debug__" : Str)) = false := by decide) (he : starEach (e :: es) X.env = (false, eval e X.env) :: starEach es X.env := by rfl) (hpl : (backTo pos (starEach es X.env)).any (·.1) = false := by rfl) :
    PE X (.Call (.Name x p) (e :: es) [] pos) (tCall sp [] E0 t) := by
  intro pins s σ H Q I h
  obtain ⟨f, fd, F, b, kp, m⟩ := C
  refine wpAny_Call_Name_kw (ld_glob I hg m ?_ hdb)
  refine PySem.W.callWith_K (h₀ := X.base) I.ok.mod.kin kp (thn (ha pos pins s σ H _ I h) fun us s1 ⟨vs, H1, J, r, q⟩ => ?_) he hpl
  refine ⟨J.kIn, ?_⟩
  replace q : sp vs H1 Q E0 := by
    have q0 : sp (vs ++ []) H1 Q E0 := q
    rw [List.append_nil] at q0
    exact q0
  have hl : us.length = ps.length := by rw [← r.length]; exact F.len _ _ _ _ q
  have hbt := b s1 us J.kIn (by rw [List.append_nil]; exact hl)
  rw [List.append_nil] at hbt
  refine wpAny_call (codeAny_mono (F.run X.A X.stack s1 H1 ⟨us, []⟩ us vs Q E0 hr J.env0 hbt r q) fun r s' hq => ?_)
  cases r with
  | ok fl =>
    cases fl with
    | ret u => exact J.after hq
    | next => exact hq.elim
    | brk => exact hq.elim
    | cont => exact hq.elim
  | error v => exact hq.elim
end
end L2
namespace L2
open PySem PySem.Spec PyProof.Rows PySem.W PySem.SeqAt PySem.Calls Builtin Builtin.ObjectAttr Builtin.Getset_descriptor
structure ExcFacts (K : PySem.W.Frag) (C : Addr) : Prop where
  ga : findIn K (.ref C) "__getattribute__" = some (some (.builtin "BaseException.__getattribute__"))
  be : mroIn K C (.type "BaseException") = some true
  gh : findIn K (.ref C) "__getattr__" = some none
  cl : findIn K (.ref C) "__class__" = some (some (.builtin "object.__class__"))
  gt : specialIn K (.builtin "object.__class__") "__get__" = some (some (.builtin "getset_descriptor.__get__"))
  tk : takesIn K (.builtin "object.__class__") = some true
  ob : mroIn K C (.type "object") = some true
  me : mroIn K C (.ref C) = some true
def OfCls (x C : Addr) (h : Heap) : Prop := ∃ o, h.get? x = some o ∧ o.cls = .ref C
theorem OfCls.ty {M : Model} {x C : Addr} {h : Heap} (I : OfCls x C h) : Looks M h (typeOf (.ref x)) (.ref C) := by
  obtain ⟨o, e, c⟩ := I
  have t : Looks M h (typeOf (.ref x)) o.cls := (Looks.ld e).andThen .now
  rw [c] at t
  exact t
theorem ExcFacts.isT {M : Model} {K : PySem.W.Frag} {C : Addr} (F : ExcFacts K C) {h : Heap} (X : K.In h) : Looks M h (isType (.ref C)) true := by
  have m := F.me
  unfold mroIn clsIn at m
  split at m
  · rename_i c' d' cd' sl' ho
    intro A' Q' E' s' k q
    unfold isType loadHead
    exact wpAny_bind (wpAny_loadPart (k _ _ (X _ _ ho)) (wpAny_pure q))
  · cases m
section
variable {prog : Program} {w : World} {A : Around} {E : Value → Shared → Prop} {s : Shared} {K : PySem.W.Frag} {x C : Addr}
theorem cls_get {tp : Value} {Rr : Result → Shared → Prop} (F : ExcFacts K C) (X : K.In s.heap) (I : OfCls x C s.heap) (h : Rr (.ok (.ret (.ref C))) s) :
    codeAny (model prog w) A (.call (.builtin "getset_descriptor.__get__") ⟨[.builtin "object.__class__", .ref x, tp], []⟩) Rr s := by
  obtain ⟨hp, gs, dr, tks, os⟩ := s
  have l0 := I.ty (M := model prog w)
  have l1 := looks_mroIn (M := model prog w) X F.ob
  refine codeAny_call_builtin KF.slot_gs.plain KF.entry_gs (KF.slot_gs.check _ _ _ _ _ _ _ _ (KF.type_class) (KF.args_gs _ _ _) ?_)
  unfold Builtin.«getset_descriptor.__get__» descrGet; rw [dga_obj]
  refine wpAny_bind (wpAny_pure ?_)
  unfold descrGetter descrCheckInstance descrNameAndClass isInstance; simp only [KF.owner_class]
  repeat lk
  refine ⟨Code.quiet_builtin _ (by decide +kernel), codeAny_builtin (KF.entry_class) ?_⟩
  unfold Builtin.«object.__class__» shownTypeOf; repeat lk
  exact h
theorem cls_find {M : Model} (F : ExcFacts K C) {h : Heap} (X : K.In h) : Looks M h (find (.ref x) (.ref C) "__class__") (.bind (.builtin "getset_descriptor.__get__") (.builtin "object.__class__")) := by
  have l3 := looks_takesIn (M := M) X F.tk
  refine (looks_findIn (M := M) X F.cl).andThen ((looks_specialIn X F.gt).andThen ?_)
  exact (show Looks M h (dataDescriptor? (some (.builtin "object.__class__")) (some (.builtin "getset_descriptor.__get__"))) (some (_, _)) from l3.andThen .now).andThen (Looks.tag .now)
theorem ga_check {M : Model} {nv : Value} {Q : Unit → Shared → Prop} (F : ExcFacts K C) (X : K.In s.heap) (I : OfCls x C s.heap) (q : Q () s) : wpAny M A (checkBuiltinCall "BaseException.__getattribute__" ⟨[.ref x, nv], []⟩) Q E s := by
  obtain ⟨hp, gs, dr, tks, os⟩ := s
  have l0 := I.ty (M := M)
  have l1 := looks_mroIn (M := M) X F.be
  have kd : builtinKind "BaseException.__getattribute__" = some .slot := by decide +kernel
  have sp : splitId "BaseException.__getattribute__" = some ("BaseException", "__getattribute__") := by decide +kernel
  have ar := PySem.F.args_bexc_ga (.ref x) nv
  simp only [checkBuiltinCall, kd, sp]
  refine wpAny_bind ?_
  unfold isInstance
  repeat (first | lk | wp_step)
  exact q
theorem ga_entry {tk : Tok} {Q : Fin → Shared → Prop} (F : ExcFacts K C) (X : K.In s.heap) (I : OfCls x C s.heap) (q : Q (.done (.ret (.ref C))) s) : wpAny (model prog w) A (Builtin.«object.__getattribute__» ⟨[.ref x, .str "__class__" tk], []⟩) Q E s := by
  have c0 := fun (A' : Around) (Rr : Result → Shared → Prop) (h : Rr (.ok (.ret (.ref C))) s) => cls_get (prog := prog) (w := w) (A := A') (tp := .ref C) (Rr := Rr) F X I h
  obtain ⟨hp, gs, dr, tks, os⟩ := s
  have l0 := I.ty (M := model prog w)
  have l3 := cls_find (x := x) (M := model prog w) F X
  unfold Builtin.«object.__getattribute__»
  refine wpAny_bind (wpAny_pure (wpAny_bind ?_))
  refine wpAny_pure ?_
  refine wpAny_bind (l0.at (wpAny_bind (l3.at ?_)))
  show wpAny _ _ (bindTo _ _ _ _) _ _ _
  unfold bindTo
  exact wpAny_bind (wpAny_holding (wpAny_call (c0 _ _ (wpAny_pure q))))
theorem cls_attr {Q : Option Value → Shared → Prop} (F : ExcFacts K C) (X : K.In s.heap) (I : OfCls x C s.heap) (h : Q (some (.ref C)) { s with toks := s.toks + 1 }) : wpAny (model prog w) A (getAttr? (.ref x) "__class__") Q E s := by
  obtain ⟨hp, gs, dr, tks, os⟩ := s
  have l0 := I.ty (M := model prog w)
  have l1 := looks_findIn (M := model prog w) X F.ga
  have l2 := looks_findIn (M := model prog w) X F.gh
  have b0 := PySem.F.excAttr_ValueError.ga.bind (.ref x)
  unfold getAttr? getAttrBy? getAttrBy
  refine wpAny_bind (wpAny_mkText (wpAny_bind (wpAny_attempt (wpAny_holding (wpAny_bind (l0.at (wpAny_bind (l1.at ?_))))))))
  show wpAny _ _ (getAttrByItsOwn _ _ _ _ _ _) _ _ _
  unfold getAttrByItsOwn hookBefore callGetattribute boundAndCalled
  refine wpAny_bind (l2.at (wpAny_bind (wpAny_attempt (wpAny_holding ?_))))
  show wpAny _ _ (bindSpecial _ _ >>= _) _ _ _
  rw [b0]
  refine wpAny_bind (wpAny_pure (wpAny_call (codeAny_call_builtin PySem.F.excAttr_ValueError.ga.plain PySem.F.entry_bexc_ga ?_)))
  refine ga_check F X I (ga_entry F X I ?_)
  exact handed_on rfl (wpAny_pure h)
theorem kitx_exc (F : ExcFacts K C) : KitX K (.ref x) (.ref C) (OfCls x C) where
  ty := fun _ _ _ I => I.ty
  it := fun _ _ X _ => F.isT X
  ne := fun h tp dd its n sl X htp => by
    have m := F.me
    unfold mroIn clsIn at m
    split at m
    · rename_i c' d' cd' sl' ho
      refine Bool.eq_false_iff.mpr fun q => ?_
      have e : C = tp := Value.ref.inj (beq_iff_eq.mp q)
      subst e
      exact nomatch (X _ _ ho).symm.trans htp
    · cases m
  ca := fun X I k => cls_attr F X I k
end
theorem kit_of {K : PySem.W.Frag} {C D : Addr} {b : Bool} {cd : ClassData} (F : ExcFacts K C) (hc : clsIn K D = some cd) (ht : typeIn K (.ref D) = some (.type "type")) (hm : mroIn K C (.ref D) = some b) : kitOne K (.ref C) (.ref D) = some b := by
  unfold kitOne
  by_cases e : C = D
  · subst e
    rw [F.me] at hm
    cases hm
    rw [if_pos (by simp)]
  · rw [if_neg (by simpa using e)]
    show (if ((clsIn K D).isSome && typeIn K (.ref D) == some (.type "type")) = true then mroIn K C (.ref D) else none) = some b
    rw [hc, ht, if_pos (by simp)]
    exact hm
theorem kit_ve {K : PySem.W.Frag} {C : Addr} {b : Bool} (hm : mroIn K C (.type "ValueError") = some b) : kitOne K (.ref C) (.type "ValueError") = some b := by
  unfold kitOne
  rw [if_neg (show ¬ (Value.ref C == Value.type "ValueError") = true from Bool.false_ne_true)]
  show (if kitMeta "ValueError" = true then mroIn K C (.type "ValueError") else none) = some b
  rw [if_pos (by decide +kernel)]
  exact hm
section
variable {X : Cx}
theorem call_isinstE : CallR X (.builtin "isinstance") (fun xs H Q => ∃ (ea C : Addr) (c : V) (cv : Value) (b : Bool), xs = [.ref ea, c] ∧ RelV c cv ∧ (∀ u, RelV c u → u = cv) ∧ H ea = some (ExcOb ea C) ∧ ExcFacts X.K C ∧ kitOne X.K (.ref C) cv = some b ∧ Q (.bl b) H) := by
  intro pins s σ H xs us Q I r h
  obtain ⟨ea, C, c, cv, b, rfl, rc, un, he, F, k, q⟩ := h
  obtain ⟨u, u2, rfl, rx, ry⟩ := vals2 r
  cases rx
  cases un u2 ry
  obtain ⟨⟨o, x1, x2⟩, _⟩ := (show ObjOk X.prog X.w H s.heap ea (ExcOb ea C) from I.hok ea _ he)
  exact kia_one (kitx_exc F) I.kIn ⟨o, x1, x2⟩ k (fun z => nomatch z) fun tk => ⟨.bl b, H, I.tok _, rfl, q⟩
def isTb : Value → Bool
  | .bool b => b
  | _ => false
theorem bools_at {bs : List Bool} {its : List Value} (r : Vals (bs.map V.bl) its) : its = bs.map Value.bool := by
  induction bs generalizing its with
  | nil => cases r; rfl
  | cons b bs ih =>
    rw [List.map_cons] at r
    cases r with
    | cons h t => rw [ih t, List.map_cons, show _ = Value.bool b from h]
theorem eqT {A : Around} {s : Shared} {bs : List Bool} {y : Value} (h : y ∈ bs.map Value.bool) : EqAt A s y (.bool true) (isTb y) := by
  obtain ⟨b, _, rfl⟩ := List.mem_map.mp h
  have := EqAt.bool_bool (A := A) (s := s) b true
  rw [show (b == true) = b by cases b <;> rfl] at this
  exact this
def rCountT : V → List V → Hp → VK → Prop := fun x vs H Q => ∃ (l : Addr) (bs : List Bool), x = .ref l ∧ vs = [.bl true] ∧ H l = some (.lst (bs.map V.bl)) ∧ Q (.int (bs.countP id : Nat)) H
theorem mt_countT : MtM X "list.count" rCountT := by
  intro pins s σ H x vs v us Q I rx rv h
  obtain ⟨l, bs, rfl, rfl, hH, q⟩ := h
  cases rx
  obtain ⟨u, rfl, ru⟩ := rv.one
  cases ru
  obtain ⟨z, its, n, r, hl, e⟩ := I.lstM hH
  have eb := bools_at r
  subst eb
  refine call_meets F.slot_list_count ⟨_, e, rfl⟩ F.entry_list_count (F.args_list_count_2 _ _) (list_countAt l (bs.map Value.bool).toArray n none #[] (.bool true) isTb) ⟨e, fun y hy => eqT (by simpa using hy), ?_⟩
  refine ⟨.int _, H, I.tok _, ⟨_, rfl⟩, ?_⟩
  have : ((bs.map Value.bool).toArray.toList.countP isTb) = bs.countP id := by
    rw [List.toList_toArray, List.countP_map]
    congr 1
  rw [this]
  exact q
def rIndexT : V → List V → Hp → VK → Prop := fun x vs H Q => ∃ (l : Addr) (bs : List Bool) (j : Nat), x = .ref l ∧ vs = [.bl true] ∧ H l = some (.lst (bs.map V.bl)) ∧ bs.length ≤ 1000 ∧ bs[j]? = some true ∧ (∀ i, i < j → bs[i]? = some false) ∧ Q (.int j) H
theorem mt_indexT : MtM X "list.index" rIndexT := by
  intro pins s σ H x vs v us Q I rx rv h
  obtain ⟨l, bs, j, rfl, rfl, hH, hz, hj, hno, q⟩ := h
  cases rx
  obtain ⟨u, rfl, ru⟩ := rv.one
  cases ru
  obtain ⟨z, its, n, r, hl, e⟩ := I.lstM hH
  have eb := bools_at r
  subst eb
  have hjl : j < bs.length := (List.getElem?_eq_some_iff.mp hj).1
  have hat : ∀ m (hm : m < (bs.map Value.bool).toArray.size), isTb (bs.map Value.bool).toArray[m] = (bs[m]?).getD false := fun m hm => by
    have : m < bs.length := by simpa using hm
    rw [List.getElem?_eq_getElem this]
    simp [isTb]
  refine call_meets F.slot_list_index ⟨_, e, rfl⟩ F.entry_list_index (F.args_list_index_2 _ _) (list_indexAt l (bs.map Value.bool).toArray n none #[] (.bool true) isTb j (by simpa using hjl) (by omega) ?_ (fun m hm hlt => ?_)) ⟨e, fun y hy => eqT (by simpa using hy), ?_⟩
  · rw [hat, hj]; rfl
  · rw [hat, hno m hlt]; rfl
  · exact ⟨.int _, H, I.tok _, ⟨_, rfl⟩, q⟩
end
theorem own_of {K : PySem.W.Frag} {h : Heap} {mg : Str → Option Value} {x : Str} {C : Addr} (X : K.In h) (G : h.Ns mainGlobals mg) (e : nsIn K mainGlobals x = some (some (.ref C))) (q : excIn K C bmVE "ValueError.__new__" = true) : OwnE mg h x C := by
  refine ⟨mg_of X G e, ?_⟩
  unfold excIn at q
  split at q
  · rename_i dd cd sl ho
    split at q
    · rename_i C' bm k0 k1 k2 k3 n k5 hm hs
      simp only [Bool.and_eq_true, beq_iff_eq, Bool.not_eq_true'] at q
      obtain ⟨⟨⟨⟨⟨rfl, rfl⟩, hdel⟩, ht⟩, hok⟩, hni⟩ := q
      obtain ⟨nm, bs, mro, ns, qn, hd, sn, sub, ab, col, del⟩ := cd
      dsimp only at hm hdel hok hni; subst hm hdel
      have hsl : sl = #[k0, k1, k2, k3, some (.builtin "ValueError.__new__"), k5] := by
        obtain ⟨l⟩ := sl
        rw [show l = _ from hs]
      subst hsl
      exact ⟨bm, ns, nm, qn, bs, hd, sn, sub, ab, col, dd, k0, k1, k2, k3, k5, _, X _ _ ho, .of_isNs (isNs_of_in X hok), nsMap_none_of_in X hok hni, (tail_of_in X ht)⟩
    · cases q
  · cases q
theorem under_of {K : PySem.W.Frag} {h : Heap} {C D : Addr} (X : K.In h) (q : excIn K C bmVE "ValueError.__new__" = true) (m : mroIn K C (.ref D) = some true) : Under h C D := by
  unfold excIn at q
  split at q
  · rename_i dd cd sl ho
    split at q
    · rename_i C' bm k0 k1 k2 k3 n k5 hm hs
      simp only [Bool.and_eq_true, beq_iff_eq, Bool.not_eq_true'] at q
      obtain ⟨⟨⟨⟨⟨rfl, rfl⟩, hdel⟩, ht⟩, hok⟩, hni⟩ := q
      obtain ⟨nm, bs, mro, ns, qn, hd, sn, sub, ab, col, del⟩ := cd
      dsimp only at hm hdel hok hni; subst hm hdel
      have hsl : sl = #[k0, k1, k2, k3, some (.builtin "ValueError.__new__"), k5] := by
        obtain ⟨l⟩ := sl
        rw [show l = _ from hs]
      subst hsl
      refine ⟨bm, ns, nm, qn, bs, hd, sn, sub, ab, col, dd, k0, k1, k2, k3, k5, _, X _ _ ho, ?_⟩
      unfold mroIn clsIn at m
      rw [ho] at m
      simpa using m
    · cases q
  · cases q
end L2
namespace L2
open PySem PySem.Spec PyProof.Rows
end L2
namespace L2
open PySem PySem.Spec PyProof.Rows
section
variable {κ : Type} [DecidableEq κ]
end
section
variable {P : Program} {w : World} {H : Hp} {h : Heap} {a : Addr}
end
section
variable {X : Cx} {pins : List (Addr × Obj)} {σ : St} {H : Hp} {s : Shared} {a : Addr} {y v : V} {u r : Value} {o : Option V} {A : Around} {E : Value → Shared → Prop}
end
section
variable {X : Cx} {pins : List (Addr × Obj)} {σ : St} {H : Hp} {s : Shared} {a : Addr} {kvs : List (Key × V)} {k : Key} {u : Value} {A : Around} {E : Value → Shared → Prop}
end
section
variable {X : Cx} {o i e value : Expr} {pos pos' tpos : Pos} {td ty tv : TE}
end
section
variable {X : Cx} {pos : Pos}
end
section
variable {X : Cx} {pins : List (Addr × Obj)} {σ : St} {H : Hp} {s : Shared} {a : Addr} {y d : V} {u r : Value} {o : Option V} {A : Around} {E : Value → Shared → Prop}
end
section
variable {X : Cx} {o e f : Expr} {apos cpos : Pos} {td ty tx : TE}
end
section
variable {X : Cx} {pins : List (Addr × Obj)} {σ : St} {H : Hp} {s : Shared} {a : Addr} {kvs : List (Key × V)} {A : Around} {E : Value → Shared → Prop}
end
section
variable {X : Cx} {pins : List (Addr × Obj)} {σ : St} {H : Hp} {s : Shared} {a : Addr} {y : V} {u : Value} {A : Around} {E : Value → Shared → Prop}
end
end L2
namespace L2
open PySem PySem.Spec PyProof.Rows
section
variable {κ : Type} [DecidableEq κ]
end
end L2
namespace L2
open PySem PySem.Spec PyProof.Rows
section
variable {X : Cx} {pins : List (Addr × Obj)} {σ : St} {H : Hp} {s : Shared} {p : Addr}
end
section
variable {X : Cx}
end
end L2
namespace L2
open PySem PySem.Spec PyProof.Rows
end L2
namespace L2
open PySem PySem.Spec PyProof.Rows
theorem len0 {α : Type} {us : List α} (h : us.length = 0) : us = [] := List.length_eq_zero_iff.mp h
theorem lenS {α : Type} {us : List α} {n : Nat} (h : us.length = n + 1) : ∃ a r, us = a :: r ∧ r.length = n := by
  cases us with
  | nil => cases h
  | cons a r => exact ⟨a, r, rfl, Nat.succ.inj h⟩
theorem len1 {α : Type} {us : List α} (h : us.length = 1) : ∃ a, us = [a] := by
  obtain ⟨a, r, rfl, g⟩ := lenS (n := 0) h
  obtain rfl := len0 g
  exact ⟨a, rfl⟩
theorem len2 {α : Type} {us : List α} (h : us.length = 2) : ∃ a b, us = [a, b] := by
  obtain ⟨a, r, rfl, g⟩ := lenS (n := 1) h
  obtain ⟨b, rfl⟩ := len1 g
  exact ⟨a, b, rfl⟩
theorem len3 {α : Type} {us : List α} (h : us.length = 3) : ∃ a b c, us = [a, b, c] := by
  obtain ⟨a, r, rfl, g⟩ := lenS (n := 2) h
  obtain ⟨b, c, rfl⟩ := len2 g
  exact ⟨a, b, c, rfl⟩
theorem len4 {α : Type} {us : List α} (h : us.length = 4) : ∃ a b c d, us = [a, b, c, d] := by
  obtain ⟨a, r, rfl, g⟩ := lenS (n := 3) h
  obtain ⟨b, c, d, rfl⟩ := len3 g
  exact ⟨a, b, c, d, rfl⟩
theorem len5 {α : Type} {us : List α} (h : us.length = 5) : ∃ a b c d e, us = [a, b, c, d, e] := by
  obtain ⟨a, r, rfl, g⟩ := lenS (n := 4) h
  obtain ⟨b, c, d, e, rfl⟩ := len4 g
  exact ⟨a, b, c, d, e, rfl⟩
theorem op_never {X : Cx} {f : Value → Value → Sem Value} : OpR X f (fun _ _ _ _ => False) := fun _ _ _ _ _ _ _ _ _ _ _ _ h => h.elim
def tTryE2 (sp sp' : Sp) (t t' : TA) (tb : TS) (i : Nat) (base : Heap) (Dc : Addr) : TS := fun D σ H => t σ H fun vs H1 => sp vs H1 (fun _ H2 => t' σ H2 fun us H3 => sp' us H3 (fun _ H4 => D.nx σ H4) (CatchE tb D i base Dc σ)) (CatchE tb D i base Dc σ)
section
variable {X : Cx} {k k' : Nat} {x x' : Str} {ps ps' : List Str} {sp sp' : Sp} {p pos p2 p' pos' p2' tp np hp : Pos} {e e' : Expr} {es es' : List Expr} {t t' : TA} {i : Nat} {n c : Str} {Dc : Addr} {b₀ : Stmt} {suite : List Stmt} {tb : TS}
theorem ps_tryE2 (C : HasE X.prog X.w X.K X.mg X.base k x ps sp) (hr : Room k X.A) (hg : Gl X x) (ha : ∀ xe, PA (X.wish xe) (e :: es) t)
    (C' : HasE X.prog X.w X.K X.mg X.base k' x' ps' sp') (hr' : Room k' X.A) (hg' : Gl X x') (ha' : ∀ xe, PA (X.wish xe) (e' :: es') t') (hs : X.stack = X.env :: X.outer) (hf : X.env.frame = some X.env.locals)
    (hN : X.N.Nodup) (hi : X.N[i]? = some n) (hl : X.env.scope.names.lookup n = some .local) (hgc : Gl X c) (OD : OwnE X.mg X.base c Dc) (hb : ∀ u, PSs (X.mark u).nox (b₀ :: suite) tb)
    (hdb : (x == ("__debug__" : Str)) = false := by decide) (hdb' : (x' == ("__debug__" : Str)) = false := by decide) (hdc : (c == ("__debug__" : Str)) = false := by decide)
    (he : starEach (e :: es) X.env = (false, eval e X.env) :: starEach es X.env := by rfl) (hpl : (backTo pos (starEach es X.env)).any (·.1) = false := by rfl)
    (he' : starEach (e' :: es') X.env = (false, eval e' X.env) :: starEach es' X.env := by rfl) (hpl' : (backTo pos' (starEach es' X.env)).any (·.1) = false := by rfl)
    (hsw : swapsWith (.Call (.Name x p) (e :: es) [] pos) none p2.line X.env = pure false := by rfl) (hsw' : swapsWith (.Call (.Name x' p') (e' :: es') [] pos') none p2'.line X.env = pure false := by rfl) :
    PS X (.Try [.Expr (.Call (.Name x p) (e :: es) [] pos) p2, .Expr (.Call (.Name x' p') (e' :: es') [] pos') p2'] [.ExceptHandler (some (.Name c np)) (some n) (b₀ :: suite) hp] [] [] tp) (tTryE2 sp sp' t t' tb i X.base Dc) := by
  intro pins s σ H D I h
  refine wpAny_Try_except (wpAny_execs_cons ?_)
  refine wpAny_Expr_any (thn (call_caught C hr hg ha I h (fun H1 s1 v s' J hx => caught (i := i) J hx hs hf hN hi hl hgc OD hb hdc) hdb he hpl) fun v s1 ⟨y, H1, I1, r1, q1⟩ => ?_) I.quiet hsw
  refine wpAny_execs_cons ?_
  refine wpAny_Expr_any (thn (call_caught C' hr' hg' ha' I1 q1 (fun H1 s1 v s' J hx => caught (i := i) J hx hs hf hN hi hl hgc OD hb hdc) hdb' he' hpl') fun v s2 ⟨y, H2, I2, r2, q2⟩ => ?_) I1.quiet hsw'
  exact wpAny_execs_nil (wpAny_execs_nil ⟨σ, H2, I2, q2⟩)
end
end L2
namespace L2
open PySem PySem.Spec PyProof.Rows
section
variable {X : Cx}
end
section
variable {X : Cx} {K : PySem.W.Frag}
end
end L2
namespace L2
open PySem PySem.Spec PyProof.Rows PySem.W
section
variable {X : Cx} {pins : List (Addr × Obj)} {σ : St} {H : Hp} {s : Shared} {scope : Scope} {N' : List Str} {caps : List (Option Nat)} {p : Str} {qual : Str} {f : Addr} {cd : Value} {A : Around}
end
end L2
namespace L2
open PySem PySem.Spec PyProof.Rows PySem.W
section
variable {prog : Program} {w : World} {A : Around} {E : Value → Shared → Prop} {s : Shared} {la ks : Addr} {xs : List Value} {kz : List Int} {kar : Array Value} {ek el : Nat} {P : PySem.Fin → Shared → Prop}
end
section
variable {X : Cx} {pins : List (Addr × Obj)} {σ : St} {H : Hp} {s : Shared} {A : Around} {E : Value → Shared → Prop} {la f : Addr} {xs : List Value} {ns : List Int} {n0 : Nat} {P : PySem.Fin → Shared → Prop}
end
end L2
namespace L2
open PySem PySem.Spec PyProof.Rows PySem.W
section
variable {prog : Program} {w : World} {A : Around} {E : Value → Shared → Prop} {s : Shared}
end
section
variable {X : Cx} {pins : List (Addr × Obj)} {σ : St} {H : Hp} {s : Shared} {A : Around} {E : Value → Shared → Prop} {f r : Addr} {n : Nat} {Q : Value → Shared → Prop}
end
end L2
namespace L2
open PySem PySem.Spec PyProof.Rows PySem.W
section
variable {X : Cx} {pins : List (Addr × Obj)} {σ : St} {H : Hp} {s : Shared} {P : Addr} {ps : Array Value} {qual : Str}
end
end L2
namespace L2
open PySem PySem.Spec PyProof.Rows PySem.W
section
variable {X : Cx} {arg body : Expr} {ta tb : TE} {caps : List (Option Nat)} {P : Addr} {params : Arguments} {scope : Scope} {lpos kpos np pos : Pos} {N' : List Str} {p : Str}
end
end L2
namespace L2
open PySem PySem.Spec PyProof.Rows PySem.W
end L2
namespace KH
end KH
namespace KH
end KH
namespace KH
end KH
namespace KH
end KH
namespace KH
end KH
namespace KH
open PySem L2
end KH
namespace KH
open PySem L2
end KH
namespace KH
end KH
namespace KH
end KH
namespace KH
open PySem L2
end KH
namespace KH
open PySem L2
def top (i : Nat) : Stmt := PySem.Challenge.pw_kinghall_k02_no_hall.main.body.getD i (.Pass ⟨0, 0, 0, 0⟩)
abbrev s_is_hall : Stmt := top 10
abbrev s_is_beaten_list : Stmt := top 11
abbrev s_one_of_each_two_won : Stmt := top 12
abbrev s_need_hall : Stmt := top 13
abbrev s_wins_of : Stmt := top 16
abbrev s_line_of : Stmt := top 18
abbrev s_lines_many : Stmt := top 20
abbrev s_groups_of : Stmt := top 23
abbrev s_by_falling_wins : Stmt := top 24
abbrev s_ring_at : Stmt := top 28
abbrev s_kings_of : Stmt := top 33
abbrev s_way_of : Stmt := top 36
abbrev s_turned : Stmt := top 39
abbrev s_turnings : Stmt := top 41
abbrev s_shown : Stmt := top 46
abbrev s_law_cell : Stmt := top 51
abbrev s_law_next : Stmt := top 52
abbrev s_law_order : Stmt := top 53
abbrev s_law_first_wins : Stmt := top 54
abbrev s_law_hall : Stmt := top 55
abbrev s_law_copy : Stmt := top 56
abbrev s_law_good : Stmt := top 57
abbrev s_law_spoilt : Stmt := top 58
abbrev s_law_which : Stmt := top 59
abbrev s_law_first : Stmt := top 60
abbrev s_law_second : Stmt := top 61
abbrev s_law_met : Stmt := top 62
abbrev s_law : Stmt := top 63
def cell (ns : List Int) (k : Int) : Int := if k < ns.length then ns.getD k.toNat 0 else (ns.getD 0 0 % 65521 * 48271 + k * 30103) % 65521
def spCell (K : PySem.W.Frag) : Sp := fun vs H Q _ => ∃ (a : Addr) (ns : List Int) (k : Int), vs = [.ref a, .int k] ∧ SqL K H a (ns.map V.int) ∧ 0 ≤ k ∧ k ≤ 1000 ∧ Q (.int (cell ns k)) H
section
variable {P : Program} {w : World} {K : PySem.W.Frag} {mg : Str → Option Value} {base : Heap} {f : Addr} {fd : FuncData}
theorem sc_cell : FnScope ["script", "k", "base"] ["script", "k"] (defScope s_law_cell) := ⟨rfl, rfl, rfl, by decide +kernel, rfl, by decide +kernel, by decide +kernel⟩
theorem ok_cell (F : Fun K "_law_cell" "_law_cell" s_law_cell f fd) (z : Blt mg) : FnOk P w K mg base CX0 1 f fd ["script", "k"] (spCell K) := by
  refine F.ok sc_cell (fun vs H Q E h => ?_) (fun cdv A outer s H vs Q E hr h => ?_)
  · obtain ⟨a, ns, k, rfl, _⟩ := h
    rfl
  obtain ⟨a, ns, k, rfl, hS, h0, h1, q⟩ := h
  have nd := sc_cell.nd
  have hl : (ns.map V.int).length = ns.length := List.length_map _
  refine ⟨_, (pss_cons (ps_if (pt_cmpR op_lt (pv 1) (pe_callB call_len_seq rfl z.len (by decide +kernel) (pa_cons (pv 0) pa_nil)) (nomark _)) (pss_one (ps_ret (pe_ix ix_list (pv 0) (pv 1) (fun _ _ => rfl)))) pss_nil)
  (pss_cons (ps_set (i := 2) nd rfl (by first | exact Or.inl rfl | exact Or.inr rfl) pe_int)
  (pss_cons (ps_if (pt_cmpR op_gt (pe_callB call_len_seq rfl z.len (by decide +kernel) (pa_cons (pv 0) pa_nil)) pe_int (nomark _)) (pss_one (ps_set (i := 2) nd rfl (by first | exact Or.inl rfl | exact Or.inr rfl) (pe_ix ix_list (pv 0) pe_int (fun _ _ => rfl)))) pss_nil)
  (pss_one (ps_ret (pe_op op_mod (pe_op op_add (pe_op op_mul (pe_op op_mod (pv 2) pe_int) pe_int) (pe_op op_mul (pv 1) pe_int)) pe_int)))))), ?_⟩
  refine ⟨_, rfl, _, rfl, a, _, rfl, .inl hS, _, _, rfl, rfl, _, rfl, ?_⟩
  refine ite2 (fun c => ?_) (fun c => ?_)
  · have c' := of_decide_eq_true c
    rw [hl] at c'
    refine ⟨_, rfl, _, rfl, a, _, _, _, rfl, rfl, hS, at_int h0 c', ?_⟩
    show Q (.int (ns.getD k.toNat 0)) H
    unfold cell at q
    rw [if_pos c'] at q
    exact q
  · have c' : ¬ k < (ns.length : Int) := by
      have c' := of_decide_eq_false (Bool.eq_false_iff.mpr c)
      rw [hl] at c'
      exact c'
    unfold cell at q
    rw [if_neg c'] at q
    refine ⟨_, rfl, a, _, rfl, .inl hS, _, _, rfl, rfl, _, rfl, ?_⟩
    refine ite2 (fun d => ?_) (fun d => ?_)
    · have d' := of_decide_eq_true d
      rw [hl] at d'
      refine ⟨_, rfl, a, _, _, _, rfl, rfl, hS, at_int (Int.le_refl 0) d', ?_⟩
      refine ⟨_, rfl, _, _, rfl, rfl, (by show (0 : Int) < _; decide), _, _, rfl, rfl, .inr ⟨by decide, by decide⟩, _, rfl, _, _, rfl, rfl, .inr ⟨by decide, by decide⟩, _, _, rfl, rfl, _, _, rfl, rfl, (by show (0 : Int) < _; decide), ?_⟩
      exact q
    · have d' := of_decide_eq_false (Bool.eq_false_iff.mpr d)
      rw [hl] at d'
      have hn : ns = [] := by
        cases ns with
        | nil => rfl
        | cons x r => simp only [List.length_cons] at d'; omega
      subst hn
      refine ⟨_, rfl, _, _, rfl, rfl, (by show (0 : Int) < _; decide), _, _, rfl, rfl, .inr ⟨by decide, by decide⟩, _, rfl, _, _, rfl, rfl, .inr ⟨by decide, by decide⟩, _, _, rfl, rfl, _, _, rfl, rfl, (by show (0 : Int) < _; decide), ?_⟩
      exact q
end
end KH
namespace KH
open PySem L2
def nextI (s : Int) : Int := (s * 48271 + 11) % 2147483647
def spNext : Sp := fun vs H Q _ => ∃ s : Int, vs = [.int s] ∧ Q (.int (nextI s)) H
def spOrder (K : PySem.W.Frag) : Sp := fun vs H Q _ => ∃ (a : Addr) (ns : List Int) (k m : Int), vs = [.ref a, .int k, .int m] ∧ SqL K H a (ns.map V.int) ∧ 0 ≤ k ∧ k ≤ 1000 ∧ 0 ≤ m ∧ m ≤ 100 ∧
  ∀ (r : Addr) (H' : Hp) (ord : List Int), H r = none → Same H H' → H' r = some (.lst (ord.map V.int)) → ord.Perm (nums m.toNat) → Q (.ref r) H'
def spFirst : Sp := fun vs H Q _ => ∃ (w o t m s : Int), vs = [.int w, .int o, .int t, .int m, .int s] ∧ 0 < m ∧ ∀ b : Bool, Q (.bl b) H
section
variable {P : Program} {w : World} {K : PySem.W.Frag} {mg : Str → Option Value} {base : Heap} {f : Addr} {fd : FuncData}
theorem sc_next : FnScope ["step"] ["step"] (defScope s_law_next) := ⟨rfl, rfl, rfl, by decide +kernel, rfl, by decide +kernel, by decide +kernel⟩
theorem ok_next (F : Fun K "_law_next" "_law_next" s_law_next f fd) : FnOk P w K mg base CX0 1 f fd ["step"] spNext := by
  refine F.ok sc_next (fun vs H Q E h => ?_) (fun cdv A outer s H vs Q E hr h => ?_)
  · obtain ⟨s, rfl, _⟩ := h
    rfl
  obtain ⟨s, rfl, q⟩ := h
  refine ⟨_, (pss_one (ps_ret (pe_op op_mod (pe_op op_add (pe_op op_mul (pv 0) pe_int) pe_int) pe_int))), ?_⟩
  refine ⟨_, rfl, _, _, rfl, rfl, .inr ⟨by decide, by decide⟩, _, _, rfl, rfl, _, _, rfl, rfl, (by show (0 : Int) < _; decide), ?_⟩
  exact q
theorem sc_order : FnScope ["script", "k", "many", "step", "order", "player"] ["script", "k", "many"] (defScope s_law_order) := ⟨rfl, rfl, rfl, by decide +kernel, rfl, by decide +kernel, by decide +kernel⟩
theorem ok_order (F : Fun K "_law_order" "_law_order" s_law_order f fd) (z : Blt mg) (C_law_cell : Has P w K mg base 1 "_law_cell" ["script", "k"] (spCell K)) (C_law_next : Has P w K mg base 1 "_law_next" ["step"] spNext) :
    FnOk P w K mg base CX0 2 f fd ["script", "k", "many"] (spOrder K) := by
  refine F.ok sc_order (fun vs H Q E h => ?_) (fun cdv A outer s H vs Q E hr h => ?_)
  · obtain ⟨a, ns, k, m, rfl, _⟩ := h
    rfl
  obtain ⟨a, ns, k, m, rfl, hS, h0, h1, m0, m1, q⟩ := h
  have nd := sc_order.nd
  refine ⟨_, (pss_cons (ps_set (i := 3) nd rfl (by first | exact Or.inl rfl | exact Or.inr rfl) (pe_callH C_law_next (hr.mono (by decide)) rfl (pa_cons (pe_op op_add (pe_op op_mod (pe_op op_mul (pe_callH C_law_cell (hr.mono (by decide)) rfl (pa_cons (pv 0) (pa_cons (pv 1) pa_nil))) pe_int) pe_int) pe_int) pa_nil)))
  (pss_cons (ps_set (i := 4) nd rfl (by first | exact Or.inl rfl | exact Or.inr rfl) (pe_lst pa_nil))
  (pss_cons (ps_for PassesOwn.never rfl (pi_range1 rfl z.range (pa_cons (pv 2) pa_nil)) (pg_name (i := 5) nd rfl (by first | exact Or.inl rfl | exact Or.inr rfl)) (pss_cons (ps_set (i := 3) nd rfl (by first | exact Or.inl rfl | exact Or.inr rfl) (pe_callH C_law_next (hr.mono (by decide)) rfl (pa_cons (pv 3) pa_nil)))
  (pss_one (ps_expr (pe_bm PySem.F.plainAttrs_list PySem.F.slot_list_insert PySem.F.type_list_insert mt_insert (pv 4) (pa_cons (pe_op op_mod (pe_op op_fdiv (pv 3) pe_int) (pe_op op_add (pv 5) pe_int)) (pa_cons (pv 5) pa_nil)))))))
  (pss_one (ps_ret (pv 4)))))), ?_⟩
  refine ⟨_, rfl, _, rfl, a, ns, k, rfl, hS, h0, h1, ?_⟩
  refine ⟨_, _, rfl, rfl, .inr ⟨by decide, by decide⟩, _, _, rfl, rfl, (by show (0 : Int) < _; decide), _, _, rfl, rfl, _, rfl, ?_⟩
  refine ⟨(by decide), fun L hL => ?_⟩
  refine ⟨_, rfl, _, rfl, by omega, by omega, ?_⟩
  refine for_range (lo := 0) (n := m.toNat) (fun i σ H2 => ∃ (st : Int) (v : Option V) (ord : List Int), σ = [some (.ref a), some (.int k), some (.int m), some (.int st), some (.ref L), v] ∧ Same H H2 ∧ H2 L = some (.lst (ord.map V.int)) ∧ ord.Perm (nums i))
    ⟨_, none, [], rfl, same_new hL _, upd_same, by simp [nums]⟩ ?_ ?_
  · rintro i σ H2 hi ⟨st, v, ord, rfl, s2, hL2, hp⟩
    have hlen : ord.length = i := hp.length_eq.trans (nums_length i)
    refine ⟨_, rfl, _, rfl, ?_⟩
    have pos : (0 : Int) < 0 + (i : Int) + 1 := by omega
    have mlt := Int.emod_lt_of_pos (nextI st / 64) pos
    have mge := Int.emod_nonneg (nextI st / 64) (Int.ne_of_gt pos)
    refine ⟨_, rfl, .inl ⟨rfl, _, SqL.of hL2⟩, _, rfl, _, _, rfl, rfl, ⟨by decide, by decide⟩, _, rfl, _, _, rfl, rfl, _, _, rfl, rfl, pos, _, rfl, _, _, _, _, rfl, rfl, hL2, mge, ?_, ?_, ?_⟩
    · rw [List.length_map]; omega
    · rw [List.length_map]; exact smallL (by omega)
    · refine ⟨_, _, ord.take (nextI st / 64 % (0 + (i : Int) + 1)).toNat ++ (0 + (i : Int)) :: ord.drop (nextI st / 64 % (0 + (i : Int) + 1)).toNat, rfl, fun b o e => ?_, ?_, ?_⟩
      · rw [upd_ne (fun z => by rw [z, hL] at e; cases e)]; exact s2 b o e
      · rw [upd_same]; simp [List.map_take, List.map_drop]
      · have pp := perm_insert (x := 0 + (i : Int)) hp (nextI st / 64 % (0 + (i : Int) + 1)).toNat
        rw [nums_succ]
        rw [show nums i ++ [(i : Int)] = nums i ++ [0 + (i : Int)] by rw [Int.zero_add]]
        exact pp
  · rintro σ H2 ⟨st, v, ord, rfl, s2, hL2, hp⟩
    refine ⟨_, rfl, ?_⟩
    exact q L H2 ord hL s2 hL2 hp
end
end KH
namespace KH
open PySem L2
def spHall (K : PySem.W.Frag) : Sp := fun vs H Q _ => ∃ (a : Addr) (ns : List Int) (k m : Int), vs = [.ref a, .int k, .int m] ∧ SqL K H a (ns.map V.int) ∧ 0 ≤ k ∧ k ≤ 500 ∧ 1 ≤ m ∧ m ≤ 12 ∧
  ∀ (p : Addr) (as : List Addr) (rows : List (List Int)) (H' : Hp), NewHall H H' p as rows → IsHall rows → rows.length = m.toNat → Q (.ref p) H'
section
variable {P : Program} {w : World} {K : PySem.W.Frag} {mg : Str → Option Value} {base : Heap} {f : Addr} {fd : FuncData}
theorem sc_first : FnScope ["way", "one", "other", "many", "step", "far"] ["way", "one", "other", "many", "step"] (defScope s_law_first_wins) := ⟨rfl, rfl, rfl, by decide +kernel, rfl, by decide +kernel, by decide +kernel⟩
theorem ok_first (F : Fun K "_law_first_wins" "_law_first_wins" s_law_first_wins f fd) : FnOk P w K mg base CX0 1 f fd ["way", "one", "other", "many", "step"] spFirst := by
  refine F.ok sc_first (fun vs H Q E h => ?_) (fun cdv A outer s H vs Q E hr h => ?_)
  · obtain ⟨_, _, _, _, _, rfl, _⟩ := h
    rfl
  obtain ⟨way, one, other, m, st, rfl, hm, q⟩ := h
  have nd := sc_first.nd
  refine ⟨_, (pss_cons (ps_if (pt_cmpR op_eq (pv 0) pe_int (nomark _)) (pss_one (ps_ret (pe_cmpR op_eq (pe_cmpR op_lt (pv 1) (pv 2) (nomark _)) (pe_cmpR op_gt (pe_op op_mod (pe_op op_fdiv (pv 4) pe_int) pe_int) pe_int (nomark _)) (nomark _)))) pss_nil)
  (pss_cons (ps_if (pt_cmpR op_eq (pv 0) pe_int (nomark _)) (pss_cons (ps_set (i := 5) nd rfl (by first | exact Or.inl rfl | exact Or.inr rfl) (pe_op op_mod (pe_op op_sub (pv 2) (pv 1)) (pv 3)))
  (pss_one (ps_ret (pe_or (pe_cmpR op_lt (pe_op op_mul pe_int (pv 5)) (pv 3) (nomark _)) (pe_one (pe_and (pe_cmpR op_eq (pe_op op_mul pe_int (pv 5)) (pv 3) (nomark _)) (pe_one (pe_cmpR op_lt (pv 1) (pv 2) (nomark _))))))))) pss_nil)
  (pss_one (ps_ret (pe_cmpR op_eq (pe_op op_mod (pe_op op_fdiv (pv 4) pe_int) pe_int) pe_int (nomark _)))))), ?_⟩
  refine ⟨_, rfl, rfl, _, rfl, ?_⟩
  refine ite2 (fun _ => ?_) (fun _ => ?_)
  · exact ⟨_, rfl, _, rfl, _, _, rfl, rfl, _, rfl, _, _, rfl, rfl, ⟨by decide, by decide⟩, _, _, rfl, rfl, (by show (0 : Int) < _; decide), _, _, rfl, rfl, rfl, q _⟩
  refine ⟨_, rfl, rfl, _, rfl, ?_⟩
  refine ite2 (fun _ => ?_) (fun _ => ?_)
  · refine ⟨_, rfl, _, rfl, _, _, rfl, rfl, _, rfl, _, _, rfl, rfl, hm, ?_⟩
    refine ⟨_, rfl, _, _, rfl, rfl, .inl ⟨by decide, by decide⟩, _, rfl, _, _, rfl, rfl, _, rfl, ite2 (fun _ => q _) (fun _ => ?_)⟩
    exact ⟨_, rfl, _, _, rfl, rfl, .inl ⟨by decide, by decide⟩, _, rfl, rfl, _, rfl, ite2 (fun _ => ⟨_, rfl, _, rfl, _, _, rfl, rfl, q _⟩) (fun _ => q _)⟩
  · exact ⟨_, rfl, _, _, rfl, rfl, ⟨by decide, by decide⟩, _, _, rfl, rfl, (by show (0 : Int) < _; decide), rfl, q _⟩
theorem sc_hall : FnScope ["script", "k", "many", "way", "step", "order", "hall", "one", "other"] ["script", "k", "many"] (defScope s_law_hall) := ⟨rfl, rfl, rfl, by decide +kernel, rfl, by decide +kernel, by decide +kernel⟩
theorem ok_hall (F : Fun K "_law_hall" "_law_hall" s_law_hall f fd) (z : Blt mg) (C_law_cell : Has P w K mg base 1 "_law_cell" ["script", "k"] (spCell K)) (C_law_next : Has P w K mg base 1 "_law_next" ["step"] spNext)
    (C_law_order : Has P w K mg base 2 "_law_order" ["script", "k", "many"] (spOrder K)) (C_law_first_wins : Has P w K mg base 1 "_law_first_wins" ["way", "one", "other", "many", "step"] spFirst) :
    FnOk P w K mg base CX0 3 f fd ["script", "k", "many"] (spHall K) := by
  refine F.ok sc_hall (fun vs H Q E h => ?_) (fun cdv A outer s H vs Q E hr h => ?_)
  · obtain ⟨a, ns, k, m, rfl, _⟩ := h
    rfl
  obtain ⟨a, ns, k, m, rfl, hS, h0, h1, m1, m12, q⟩ := h
  have nd := sc_hall.nd
  refine ⟨_, (pss_cons (ps_set (i := 3) nd rfl (by first | exact Or.inl rfl | exact Or.inr rfl) (pe_op op_mod (pe_callH C_law_cell (hr.mono (by decide)) rfl (pa_cons (pv 0) (pa_cons (pv 1) pa_nil))) pe_int))
  (pss_cons (ps_set (i := 4) nd rfl (by first | exact Or.inl rfl | exact Or.inr rfl) (pe_callH C_law_next (hr.mono (by decide)) rfl (pa_cons (pe_op op_add (pe_op op_mod (pe_op op_mul (pe_callH C_law_cell (hr.mono (by decide)) rfl (pa_cons (pv 0) (pa_cons (pe_op op_add (pv 1) pe_int) pa_nil))) pe_int) pe_int) pe_int) pa_nil)))
  (pss_cons (ps_set (i := 5) nd rfl (by first | exact Or.inl rfl | exact Or.inr rfl) (pe_callH C_law_order (hr.mono (by decide)) rfl (pa_cons (pv 0) (pa_cons (pe_op op_add (pv 1) pe_int) (pa_cons (pv 2) pa_nil)))))
  (pss_cons (ps_setLC (i := 6) nd rfl (by first | exact Or.inl rfl | exact Or.inr rfl) rfl (cscope (N' := ["player"]) (caps := [none])) (pi_range1 rfl z.range (pa_cons (pv 2) pa_nil)) (fun s H fp => ⟨(pg_name (i := 0) (show (["player"] : List Str).Nodup by decide +kernel) rfl (by first | exact Or.inl rfl | exact Or.inr rfl)), pif_nil, (pe_lst pa_nil)⟩))
  (pss_cons (ps_for PassesOwn.never rfl (pi_range1 rfl z.range (pa_cons (pv 2) pa_nil)) (pg_name (i := 7) nd rfl (by first | exact Or.inl rfl | exact Or.inr rfl)) (pss_one (ps_for PassesOwn.never rfl (pi_range2 rfl z.range (pa_cons (pe_op op_add (pv 7) pe_int) (pa_cons (pv 2) pa_nil))) (pg_name (i := 8) nd rfl (by first | exact Or.inl rfl | exact Or.inr rfl)) (pss_cons (ps_set (i := 4) nd rfl (by first | exact Or.inl rfl | exact Or.inr rfl) (pe_callH C_law_next (hr.mono (by decide)) rfl (pa_cons (pv 4) pa_nil)))
  (pss_one (ps_if (pt_val (pe_callH C_law_first_wins (hr.mono (by decide)) rfl (pa_cons (pv 3) (pa_cons (pv 7) (pa_cons (pv 8) (pa_cons (pv 2) (pa_cons (pv 4) pa_nil))))))) (pss_one (ps_expr (pe_bm PySem.F.plainAttrs_list PySem.F.slot_list_append PySem.F.type_list_append mt_append (pe_ix ix_list (pv 6) (pe_ix ix_list (pv 5) (pv 7) (fun _ _ => rfl)) (fun _ _ => rfl)) (pa_cons (pe_ix ix_list (pv 5) (pv 8) (fun _ _ => rfl)) pa_nil)))) (pss_one (ps_expr (pe_bm PySem.F.plainAttrs_list PySem.F.slot_list_append PySem.F.type_list_append mt_append (pe_ix ix_list (pv 6) (pe_ix ix_list (pv 5) (pv 8) (fun _ _ => rfl)) (fun _ _ => rfl)) (pa_cons (pe_ix ix_list (pv 5) (pv 7) (fun _ _ => rfl)) pa_nil))))))))))
  (pss_one (ps_ret (pe_lc rfl (cscope (N' := ["row"]) (caps := [none])) (pi_list (pv 6)) (fun s H fp => ⟨(pg_name (i := 0) (show (["row"] : List Str).Nodup by decide +kernel) rfl (by first | exact Or.inl rfl | exact Or.inr rfl)), pif_nil, (pe_callB (call_sortedK (K := K) rfl) rfl z.sorted (by decide +kernel) (pa_cons (pv 0) pa_nil))⟩))))))))), ?_⟩
  -- way, step, order
  refine ⟨_, rfl, _, rfl, a, ns, k, rfl, hS, h0, by omega, _, _, rfl, rfl, (by show (0 : Int) < _; decide), ?_⟩
  refine ⟨_, rfl, _, rfl, _, _, rfl, rfl, a, ns, _, rfl, hS, by omega, by omega, _, _, rfl, rfl, .inr ⟨by decide, by decide⟩, _, _, rfl, rfl, (by show (0 : Int) < _; decide), _, _, rfl, rfl, _, rfl, ?_⟩
  refine ⟨_, rfl, _, rfl, _, _, rfl, rfl, _, rfl, a, ns, _, _, rfl, hS, by omega, by omega, by omega, by omega, fun r H1 ord hr1 s1 hr2 hp => ?_⟩
  have hn : ((m.toNat : Nat) : Int) = m := by omega
  have O := ord_of_perm hp
  -- hall = [[] for player in range(many)]
  refine ⟨_, rfl, _, rfl, by omega, by omega, ?_⟩
  refine lc_range (lo := 0) (n := m.toNat) (fun D i acc H2 => ∃ as, acc = as.map V.ref ∧ i ≤ m.toNat ∧ NewHall H1 H2 D as (List.replicate i [])) (fun D hD => ⟨[], rfl, Nat.zero_le _, NewHall.start hD⟩) ?_ ?_
  · rintro D i acc H2 hi ⟨as, rfl, _, N⟩
    have hl := N.at_.len
    rw [List.length_replicate] at hl
    refine ⟨CapKeep.set rfl, tt_intro ⟨(by decide), fun b hb => ⟨?_, ?_, ?_⟩⟩⟩
    · rw [upd_ne (ne_of_none N.at_.top hb)]; exact N.at_.top
    · rw [List.length_map]; exact smallL (by omega)
    · refine ⟨as ++ [b], by simp, hi, ?_⟩
      rw [List.replicate_succ']
      exact N.snoc' (r := []) (same_new hb _) upd_same hb
  rintro D acc H2 ⟨as, rfl, _, N⟩
  -- the wins
  refine ⟨_, rfl, _, rfl, by omega, by omega, ?_⟩
  refine for_range (lo := 0) (n := m.toNat) (fun i σ H3 => ∃ (st : Int) (wy : Int) (v1 v2 : Option V) (rows : List (List Int)), σ = [some (.ref a), some (.int k), some (.int m), some (.int wy), some (.int st), some (.ref r), some (.ref D), v1, v2] ∧ NewHall H1 H3 D as rows ∧ Drawn m.toNat ord rows i 0)
    ⟨_, _, none, none, _, rfl, N, drawn_start O⟩ ?_ ?_
  · rintro i σ H3 hi ⟨st, wy, v1, v2, rows, rfl, N3, D3⟩
    refine ⟨_, rfl, _, _, rfl, rfl, _, rfl, _, _, rfl, ⟨by omega, by omega, by omega, by omega⟩, ?_⟩
    refine for_range (lo := 0 + (i : Int) + 1) (n := (m - (0 + (i : Int) + 1)).toNat) (fun j σ H4 => ∃ (st : Int) (v2 : Option V) (rows : List (List Int)), σ = [some (.ref a), some (.int k), some (.int m), some (.int wy), some (.int st), some (.ref r), some (.ref D), some (.int (0 + (i : Int))), v2] ∧ NewHall H1 H4 D as rows ∧ Drawn m.toNat ord rows i (i + 1 + j))
      ⟨_, _, _, rfl, N3, D3.skip⟩ ?_ ?_
    · rintro j σ H4 hj ⟨st, v2, rows, rfl, N4, D4⟩
      have hjn : i + 1 + j < m.toNat := by omega
      refine ⟨_, rfl, _, rfl, ?_⟩
      refine ⟨_, rfl, _, rfl, _, rfl, _, rfl, _, rfl, _, _, _, _, _, rfl, by omega, fun b => ⟨_, rfl, ?_⟩⟩
      have hord : SqL K H4 r (ord.map V.int) := SqL.of (N4.same _ _ hr2)
      have ei : (0 + (i : Int)).toNat = i := by omega
      have ej : (0 + (i : Int) + 1 + (j : Int)).toNat = i + 1 + j := by omega
      have a1 : atI (ord.map V.int) (0 + (i : Int)) = some (.int (ord.getD i 0)) := by
        have := at_int (ns := ord) (k := 0 + (i : Int)) (by omega) (by rw [O.len]; omega)
        rw [ei] at this; exact this
      have a2 : atI (ord.map V.int) (0 + (i : Int) + 1 + (j : Int)) = some (.int (ord.getD (i + 1 + j) 0)) := by
        have := at_int (ns := ord) (k := 0 + (i : Int) + 1 + (j : Int)) (by omega) (by rw [O.len]; omega)
        rw [ej] at this; exact this
      have step : ∀ (u v : Int), ((u = ord.getD i 0 ∧ v = ord.getD (i + 1 + j) 0) ∨ (u = ord.getD (i + 1 + j) 0 ∧ v = ord.getD i 0)) →
          ∃ au, atI (as.map V.ref) u = some (.ref au) ∧ H4 au = some (.lst ((R rows u).map V.int)) ∧ (R rows u).length ≤ 12 ∧
            ∃ (st : Int) (v2 : Option V) (rows' : List (List Int)), NewHall H1 (upd H4 au (.lst ((R rows u).map V.int ++ [.int v]))) D as rows' ∧ Drawn m.toNat ord rows' i (i + 1 + (j + 1)) := fun u v huv => by
        have hu : 0 ≤ u ∧ u < (m.toNat : Int) := by
          rcases huv with ⟨e, _⟩ | ⟨e, _⟩ <;> rw [e]
          · exact O.rng i (by omega)
          · exact O.rng (i + 1 + j) hjn
        have hur : u.toNat < rows.length := by rw [D4.len]; omega
        obtain ⟨au, e1, e2⟩ := paired_get N4.at_.row (i := u.toNat) (b := R rows u) (by rw [List.getElem?_eq_getElem hur]; unfold R; rw [getD_of_lt hur])
        refine ⟨au, at_ref hu.1 e1, e2, ?_, st, v2, push rows u v, ?_, ?_⟩
        · have := D4.few u.toNat (by omega)
          unfold rowAt at this
          unfold R
          omega
        · have q := N4.put (r' := R rows u ++ [v]) e1
          rw [List.map_append] at q
          exact q
        · exact D4.win O (by omega) hjn huv
      refine ite2 (fun _ => ?_) (fun _ => ?_)
      · obtain ⟨au, e1, e2, e3, st', v2', rows', N5, D5⟩ := step _ _ (.inl ⟨rfl, rfl⟩)
        refine ⟨_, rfl, _, rfl, _, rfl, _, _, _, _, rfl, rfl, hord, a1, _, _, _, _, rfl, rfl, N4.at_.sq, e1, .inl ⟨rfl, _, SqL.of e2⟩, _, rfl, _, rfl, _, _, _, _, rfl, rfl, hord, a2, _, _, _, rfl, rfl, e2, ?_, ?_⟩
        · rw [List.length_map]; exact smallL (by omega)
        · exact ⟨_, _, rows', rfl, N5, D5⟩
      · obtain ⟨au, e1, e2, e3, st', v2', rows', N5, D5⟩ := step _ _ (.inr ⟨rfl, rfl⟩)
        refine ⟨_, rfl, _, rfl, _, rfl, _, _, _, _, rfl, rfl, hord, a2, _, _, _, _, rfl, rfl, N4.at_.sq, e1, .inl ⟨rfl, _, SqL.of e2⟩, _, rfl, _, rfl, _, _, _, _, rfl, rfl, hord, a1, _, _, _, rfl, rfl, e2, ?_, ?_⟩
        · rw [List.length_map]; exact smallL (by omega)
        · exact ⟨_, _, rows', rfl, N5, D5⟩
    · rintro σ H4 ⟨st, v2, rows, rfl, N4, D4⟩
      refine ⟨_, _, _, _, _, rfl, N4, ?_⟩
      have e : i + 1 + (m - (0 + (i : Int) + 1)).toNat = m.toNat := by omega
      rw [e] at D4
      exact D4.next
  rintro σ H3 ⟨st, wy, v1, v2, rows, rfl, N3, D3⟩
  have hlen : as.length = m.toNat := N3.at_.len.trans D3.len
  -- return [sorted(row) for row in hall]
  refine ⟨_, rfl, _, rfl, ⟨_, N3.at_.sq⟩, ?_⟩
  refine lc_list (K := K) (a := D) (xs := as.map V.ref) (fun E i acc H4 => ∃ (bs : List Addr) (rows' : List (List Int)), acc = bs.map V.ref ∧ NewHall H3 H4 E bs rows' ∧ rows'.length = i ∧ i ≤ m.toNat ∧
      ∀ j, j < i → (rowAt rows' j).Perm (rowAt rows j) ∧ (rowAt rows' j).Pairwise (· ≤ ·)) (fun E hE => ⟨[], [], rfl, NewHall.start hE, rfl, Nat.zero_le _, fun j hj => by omega⟩)
    (fun E i acc H4 _ ⟨_, _, _, N4, _⟩ => N4.same.seq N3.at_.sq) ?_ ?_
  · rintro E i x acc H4 hx ⟨bs, rows', rfl, N4, l4, hi4, s4⟩
    rw [List.getElem?_map] at hx
    cases ha : as[i]? with
    | none => rw [ha] at hx; cases hx
    | some au =>
      rw [ha] at hx
      have ex : x = .ref au := (Option.some.inj hx).symm
      subst ex
      have hi : i < as.length := (List.getElem?_eq_some_iff.mp ha).1
      obtain ⟨row, er, sr⟩ := paired_getA N3.at_.row ha
      have erow : rowAt rows i = row := by unfold rowAt; rw [List.getD_eq_getElem?_getD, er]; rfl
      have few := D3.few i (by omega)
      rw [erow] at few
      have hb4 := N4.at_.len
      refine ⟨CapKeep.set rfl, tt_intro ⟨_, rfl, au, row, rfl, N4.same.seq (SqL.of sr), by omega, fun L ns' hL hp' hs' => ⟨?_, ?_, ?_⟩⟩⟩
      · rw [upd_ne (ne_of_none N4.at_.top hL)]; exact N4.at_.top
      · rw [List.length_map]; exact smallL (by omega)
      · refine ⟨bs ++ [L], rows' ++ [ns'], by simp, N4.snoc' (same_new hL _) upd_same hL, by simp [l4], by omega, fun j hj => ?_⟩
        by_cases hji : j < i
        · have e : rowAt (rows' ++ [ns']) j = rowAt rows' j := by
            unfold rowAt
            rw [List.getD_eq_getElem?_getD, List.getElem?_append_left (by omega), ← List.getD_eq_getElem?_getD]
          rw [e]
          exact s4 j hji
        · have ej : j = i := by omega
          subst ej
          have e : rowAt (rows' ++ [ns']) j = ns' := by
            unfold rowAt
            rw [List.getD_eq_getElem?_getD, List.getElem?_append_right (by omega), l4]
            simp
          rw [e, erow]
          exact ⟨hp', hs'⟩
  · rintro E acc H4 ⟨bs, rows', rfl, N4, l4, hi4, s4⟩
    rw [List.length_map, hlen] at l4 s4
    exact q E bs rows' H4 (N4.base (s1.trans N3.same)) (D3.hall O (by omega) (by omega) l4 s4) l4
end
end KH
namespace KH
open PySem L2
def spBeaten (K : PySem.W.Frag) : Sp := fun vs H Q _ => ∃ (a : Addr) (row : List Int) (p m : Int), vs = [.ref a, .int p, .int m] ∧ SqL K H a (row.map V.int) ∧ Q (.bl (dec (BeatenOk row p m))) H
def RdHall (K : PySem.W.Frag) (H : Hp) (p : Addr) (rows : List (List Int)) : Prop := ∃ as : List Addr, SqL K H p (as.map V.ref) ∧ RowsAt K H as rows
theorem RdHall.same {K : PySem.W.Frag} {H H' : Hp} {p : Addr} {rows : List (List Int)} (h : RdHall K H p rows) (s : Same H H') : RdHall K H' p rows := by
  obtain ⟨as, a, b⟩ := h
  exact ⟨as, s.seq a, rows_same b s⟩
theorem HallAt.rd {K : PySem.W.Frag} {H : Hp} {p : Addr} {as : List Addr} {rows : List (List Int)} (h : HallAt H p as rows) : RdHall K H p rows := ⟨as, h.sq, h.rows⟩
def spOneEach (K : PySem.W.Frag) : Sp := fun vs H Q _ => ∃ (p : Addr) (rows : List (List Int)), vs = [.ref p] ∧ RdHall K H p rows ∧ rows.length ≤ 1000 ∧ Q (.bl (dec (OneEach rows))) H
def spIsHall (K : PySem.W.Frag) : Sp := fun vs H Q _ => ∃ (p : Addr) (rows : List (List Int)), vs = [.ref p] ∧ RdHall K H p rows ∧ rows.length ≤ 1000 ∧ ∀ H', Same H H' → Q (.bl (dec (IsHall rows))) H'
def spCopy (K : PySem.W.Frag) : Sp := fun vs H Q _ => ∃ (p : Addr) (rows : List (List Int)), vs = [.ref p] ∧ RdHall K H p rows ∧ rows.length ≤ 500 ∧
  ∀ (p' : Addr) (as' : List Addr) (H' : Hp), NewHall H H' p' as' rows → Q (.ref p') H'
theorem getElem_rowAt {rows : List (List Int)} {i : Nat} {r : List Int} (h : rows[i]? = some r) : rowAt rows i = r := by
  unfold rowAt; rw [List.getD_eq_getElem?_getD, h]; rfl
theorem map_ref_get {as : List Addr} {i : Nat} {x : V} (h : (as.map V.ref)[i]? = some x) : ∃ a, x = .ref a ∧ as[i]? = some a := by
  rw [List.getElem?_map] at h
  cases e : as[i]? with
  | none => rw [e] at h; cases h
  | some a => rw [e] at h; exact ⟨a, (Option.some.inj h).symm, rfl⟩
theorem map_int_get {ns : List Int} {i : Nat} {x : V} (h : (ns.map V.int)[i]? = some x) : ∃ a, x = .int a ∧ ns[i]? = some a := by
  rw [List.getElem?_map] at h
  cases e : ns[i]? with
  | none => rw [e] at h; cases h
  | some a => rw [e] at h; exact ⟨a, (Option.some.inj h).symm, rfl⟩
section
variable {P : Program} {w : World} {K : PySem.W.Frag} {mg : Str → Option Value} {base : Heap} {f : Addr} {fd : FuncData}
theorem copy_comp {H : Hp} {p : Addr} {as : List Addr} {rows : List (List Int)} {σ0 : St} {Q : VK} (hS : SqL K H p (as.map V.ref)) (hR : RowsAt K H as rows) (hz : rows.length ≤ 500) (h0 : σ0[0]? = some none)
    (q : ∀ (p' : Addr) (as' : List Addr) (H' : Hp), NewHall H H' p' as' rows → Q (.ref p') H') :
    LCw σ0 (gName 0) tTrue (tCB (fun xs H Q => ∃ p ys, xs = [.ref p] ∧ (SqL K H p ys ∨ SqT K H p ys) ∧ ∀ l, H l = none → Q (.ref l) (upd H l (.lst ys))) (tCons (tVar 0) tNil)) Q (Itl K p) H := by
  have hlen := hR.length
  refine lc_list (K := K) (a := p) (xs := as.map V.ref) (fun E i acc H4 => ∃ bs : List Addr, acc = bs.map V.ref ∧ NewHall H H4 E bs (rows.take i)) (fun E hE => ⟨[], rfl, NewHall.start hE⟩)
    (fun E i acc H4 _ ⟨_, _, N4⟩ => N4.same.seq hS) ?_ ?_
  · rintro E i x acc H4 hx ⟨bs, rfl, N4⟩
    obtain ⟨a, rfl, ha⟩ := map_ref_get hx
    obtain ⟨row, er, sr⟩ := RowsAt.getA hR ha
    have hi : i < rows.length := (List.getElem?_eq_some_iff.mp er).1
    have hb4 := N4.at_.len
    rw [List.length_take] at hb4
    have g0 : (σ0.set 0 (some (V.ref a)))[0]? = some (some (.ref a)) := List.getElem?_set_self (List.getElem?_eq_some_iff.mp h0).1
    refine ⟨CapKeep.set h0, tt_intro ⟨_, g0, a, _, rfl, .inl (N4.same.seq sr), fun L hL => ⟨?_, ?_, ?_⟩⟩⟩
    · rw [upd_ne (ne_of_none N4.at_.top hL)]; exact N4.at_.top
    · rw [List.length_map]; exact smallL (by omega)
    · refine ⟨bs ++ [L], by simp, ?_⟩
      rw [take_snoc er]
      exact N4.snoc' (same_new hL _) upd_same hL
  · rintro E acc H4 ⟨bs, rfl, N4⟩
    rw [List.length_map, hlen, List.take_length] at N4
    exact q E bs H4 N4
end
end KH
namespace KH
open PySem L2
section
variable {P : Program} {w : World} {K : PySem.W.Frag} {mg : Str → Option Value} {base : Heap} {f : Addr} {fd : FuncData}
theorem sc_beaten : FnScope ["beaten", "player", "many", "before", "other"] ["beaten", "player", "many"] (defScope s_is_beaten_list) := ⟨rfl, rfl, rfl, by decide +kernel, rfl, by decide +kernel, by decide +kernel⟩
theorem ok_beaten (F : Fun K "is_beaten_list" "is_beaten_list" s_is_beaten_list f fd) : FnOk P w K mg base CX0 1 f fd ["beaten", "player", "many"] (spBeaten K) := by
  refine F.ok sc_beaten (fun vs H Q E h => ?_) (fun cdv A outer s H vs Q E hr h => ?_)
  · obtain ⟨a, row, p, m, rfl, _⟩ := h
    rfl
  obtain ⟨a, row, p, m, rfl, hS, q⟩ := h
  have nd := sc_beaten.nd
  refine ⟨_, (pss_cons (ps_set (i := 3) nd rfl (by first | exact Or.inl rfl | exact Or.inr rfl) (pe_un un_neg pe_int))
  (pss_cons (ps_for PassesOwn.never rfl (pi_list (pv 0)) (pg_name (i := 4) nd rfl (by first | exact Or.inl rfl | exact Or.inr rfl)) (pss_cons (ps_if (PW.pt (pw_or (pt_cmpR op_le (pv 4) (pv 3) (nomark _)) (pw_or (pt_cmpR op_ge (pv 4) (pv 2) (nomark _)) (pw_or1 (pt_cmpR op_eq (pv 4) (pv 1) (nomark _)))))) (pss_one (ps_ret pe_bl)) pss_nil)
  (pss_one (ps_set (i := 3) nd rfl (by first | exact Or.inl rfl | exact Or.inr rfl) (pv 4)))))
  (pss_one (ps_ret pe_bl)))), ?_⟩
  refine ⟨_, rfl, ?_⟩
  refine ⟨_, rfl, _, rfl, ⟨_, hS⟩, ?_⟩
  refine for_list (K := K) (a := a) (xs := row.map V.int) (fun i σ H2 => ∃ v : Option V, H = H2 ∧ σ = [some (.ref a), some (.int p), some (.int m), some (.int (lastD (row.take i))), v] ∧ BeatenOk (row.take i) p m)
    ⟨none, rfl, rfl, beaten_nil p m⟩ (fun i σ H2 _ ⟨_, e, _⟩ => by rw [← e]; exact hS) ?_ ?_
  · rintro i x σ H2 hx ⟨v, rfl, rfl, B⟩
    obtain ⟨y, rfl, hy⟩ := map_int_get hx
    have no : ¬ (lastD (row.take i) < y ∧ y < m ∧ y ≠ p) → Q (.bl false) H := fun hno => by
      have : ¬ BeatenOk row p m := fun hB => hno (by
        have := beaten_take hB (i + 1)
        rw [take_snoc hy] at this
        exact (beaten_snoc.mp this).2)
      rw [dec_false this] at q
      exact q
    refine ⟨_, rfl, _, rfl, _, _, rfl, rfl, _, rfl, ?_⟩
    refine ite2 (fun c => iteT (no fun z => ?_)) (fun c => ?_)
    · have := of_decide_eq_true c; omega
    refine ⟨_, rfl, _, rfl, _, _, rfl, rfl, _, rfl, ?_⟩
    refine ite2 (fun c => iteT (no fun z => ?_)) (fun d => ?_)
    · have := of_decide_eq_true c; omega
    refine ⟨_, rfl, _, rfl, rfl, _, rfl, ?_⟩
    refine ite2 (fun c => no fun z => ?_) (fun e => ?_)
    · have := of_decide_eq_true c
      injection this with this
      exact z.2.2 this
    refine ⟨_, rfl, ?_⟩
    have c' := of_decide_eq_false (Bool.eq_false_iff.mpr c)
    have d' := of_decide_eq_false (Bool.eq_false_iff.mpr d)
    have e' := of_decide_eq_false (Bool.eq_false_iff.mpr e)
    refine ⟨some (.int y), rfl, ?_, ?_⟩
    · rw [take_snoc hy, lastD_snoc]; rfl
    · rw [take_snoc hy]
      exact beaten_snoc.mpr ⟨B, by omega, by omega, fun z => e' (by rw [z])⟩
  · rintro σ H2 ⟨v, rfl, rfl, B⟩
    rw [List.length_map, List.take_length] at B
    rw [dec_true B] at q
    exact q
theorem sc_oneeach : FnScope ["hall", "player", "other"] ["hall"] (defScope s_one_of_each_two_won) := ⟨rfl, rfl, rfl, by decide +kernel, rfl, by decide +kernel, by decide +kernel⟩
theorem ok_oneeach (F : Fun K "one_of_each_two_won" "one_of_each_two_won" s_one_of_each_two_won f fd) (z : Blt mg) : FnOk P w K mg base CX0 1 f fd ["hall"] (spOneEach K) := by
  refine F.ok sc_oneeach (fun vs H Q E h => ?_) (fun cdv A outer s H vs Q E hr h => ?_)
  · obtain ⟨p, rows, rfl, _⟩ := h
    rfl
  obtain ⟨p, rows, rfl, ⟨as, hS, hR⟩, hz, q⟩ := h
  have nd := sc_oneeach.nd
  have hl : (as.map V.ref).length = rows.length := by rw [List.length_map]; exact hR.length
  refine ⟨_, (pss_cons (ps_for PassesOwn.never rfl (pi_range1 rfl z.range (pa_cons (pe_callB call_len_seq rfl z.len (by decide +kernel) (pa_cons (pv 0) pa_nil)) pa_nil)) (pg_name (i := 1) nd rfl (by first | exact Or.inl rfl | exact Or.inr rfl)) (pss_one (ps_for PassesOwn.never rfl (pi_range1 rfl z.range (pa_cons (pv 1) pa_nil)) (pg_name (i := 2) nd rfl (by first | exact Or.inl rfl | exact Or.inr rfl)) (pss_one (ps_if (pt_cmpR op_eq (pe_cmpR op_in_seq (pv 2) (pe_ix ix_list (pv 0) (pv 1) (fun _ _ => rfl)) (by with_unfolding_all rfl)) (pe_cmpR op_in_seq (pv 1) (pe_ix ix_list (pv 0) (pv 2) (fun _ _ => rfl)) (by with_unfolding_all rfl)) (nomark _)) (pss_one (ps_ret pe_bl)) pss_nil)))))
  (pss_one (ps_ret pe_bl))), ?_⟩
  refine ⟨_, rfl, _, _, rfl, .inl hS, _, rfl, by omega, by omega, ?_⟩
  have hn : (((as.map V.ref).length : Nat) : Int).toNat = rows.length := by omega
  rw [hn]
  refine for_range (lo := 0) (n := rows.length) (fun i σ H2 => ∃ v1 v2 : Option V, H = H2 ∧ σ = [some (.ref p), v1, v2] ∧ ∀ i' j' : Nat, j' < i' → i' < i → (((j' : Int) ∈ rowAt rows i') ↔ ¬ ((i' : Int) ∈ rowAt rows j')))
    ⟨none, none, rfl, rfl, fun i' j' _ h => by omega⟩ ?_ ?_
  · rintro i σ H2 hi ⟨v1, v2, rfl, rfl, D⟩
    refine ⟨_, rfl, _, rfl, by omega, by omega, ?_⟩
    have hn : (0 + (i : Int)).toNat = i := by omega
    rw [hn]
    refine for_range (lo := 0) (n := i) (fun j σ H2 => ∃ v2 : Option V, H = H2 ∧ σ = [some (.ref p), some (.int (0 + (i : Int))), v2] ∧ ∀ j' : Nat, j' < j → (((j' : Int) ∈ rowAt rows i) ↔ ¬ ((i : Int) ∈ rowAt rows j')))
      ⟨_, rfl, rfl, fun j' h => by omega⟩ ?_ ?_
    · rintro j σ H2 hj ⟨v2, rfl, rfl, Dj⟩
      obtain ⟨a1, e1, _, s1⟩ := rows_at hR (k := 0 + (i : Int)) (by omega) (by omega)
      obtain ⟨a2, e2, _, s2⟩ := rows_at hR (k := 0 + (j : Int)) (by omega) (by omega)
      rw [show (0 + (i : Int)).toNat = i by omega] at s1
      rw [show (0 + (j : Int)).toNat = j by omega] at s2
      refine ⟨_, rfl, _, rfl, _, rfl, _, _, _, _, rfl, rfl, hS, e1, _, _, rfl, .inl s1, rfl, flat_ints _, _, rfl, _, rfl, _, rfl, _, _, _, _, rfl, rfl, hS, e2, _, _, rfl, .inl s2, rfl, flat_ints _, rfl, _, rfl, ?_⟩
      have key : (V.bl (if false = true then !inV (.int (0 + (j : Int))) ((rowAt rows i).map V.int) else inV (.int (0 + (j : Int))) ((rowAt rows i).map V.int)) = V.bl (if false = true then !inV (.int (0 + (i : Int))) ((rowAt rows j).map V.int) else inV (.int (0 + (i : Int))) ((rowAt rows j).map V.int))) ↔
          ¬ (((j : Int) ∈ rowAt rows i) ↔ ¬ ((i : Int) ∈ rowAt rows j)) := by
        simp only [Bool.false_eq_true, if_false, V.bl.injEq, inV_int, Int.zero_add, decide_eq_decide]
        by_cases h1 : (j : Int) ∈ rowAt rows i <;> by_cases h2 : (i : Int) ∈ rowAt rows j <;> simp [h1, h2]
      refine ite2 (fun c => ?_) (fun c => ?_)
      · have c' := key.mp (of_decide_eq_true c)
        have : ¬ OneEach rows := fun h => c' (h i j hj hi)
        rw [dec_false this] at q
        exact q
      · have c' := of_decide_eq_false (Bool.eq_false_iff.mpr c)
        have c2 : ((j : Int) ∈ rowAt rows i) ↔ ¬ ((i : Int) ∈ rowAt rows j) := Classical.byContradiction fun h => c' (key.mpr h)
        refine ⟨_, rfl, rfl, fun j' hj' => ?_⟩
        by_cases h : j' < j
        · exact Dj j' h
        · have : j' = j := by omega
          subst this; exact c2
    · rintro σ H2 ⟨v2, rfl, rfl, Dj⟩
      refine ⟨_, _, rfl, rfl, fun i' j' h1 h2 => ?_⟩
      by_cases h : i' < i
      · exact D i' j' h1 h
      · have : i' = i := by omega
        subst this; exact Dj j' h1
  · rintro σ H2 ⟨v1, v2, rfl, rfl, D⟩
    have : OneEach rows := fun i j h1 h2 => D i j h1 h2
    rw [dec_true this] at q
    exact q
theorem sc_ishall : FnScope ["hall", "many", "player", "beaten"] ["hall"] (defScope s_is_hall) := ⟨rfl, rfl, rfl, by decide +kernel, rfl, by decide +kernel, by decide +kernel⟩
theorem ok_ishall {tk : Tok} (F : Fun K "is_hall" "is_hall" s_is_hall f fd) (z : Blt mg) (g_MOST_PLAYERS : mg "MOST_PLAYERS" = some (.int 12 tk)) (C_is_beaten_list : Has P w K mg base 1 "is_beaten_list" ["beaten", "player", "many"] (spBeaten K))
    (C_one_of_each_two_won : Has P w K mg base 1 "one_of_each_two_won" ["hall"] (spOneEach K)) : FnOk P w K mg base CX0 2 f fd ["hall"] (spIsHall K) := by
  refine F.ok sc_ishall (fun vs H Q E h => ?_) (fun cdv A outer s H vs Q E hr h => ?_)
  · obtain ⟨p, rows, rfl, _⟩ := h
    rfl
  obtain ⟨p, rows, rfl, RH, hz, q⟩ := h
  obtain ⟨as, hS, hR⟩ := id RH
  have nd := sc_ishall.nd
  have hl : (as.map V.ref).length = rows.length := by rw [List.length_map]; exact hR.length
  refine ⟨_, (pss_cons (ps_set (i := 1) nd rfl (by first | exact Or.inl rfl | exact Or.inr rfl) (pe_callB call_len_seq rfl z.len (by decide +kernel) (pa_cons (pv 0) pa_nil)))
  (pss_cons (ps_if (PW.pt (pw_or (pt_cmpR op_lt (pv 1) pe_int (nomark _)) (pw_or1 (pt_cmpR op_gt (pv 1) (pe_glob (v := .int 12) rfl g_MOST_PLAYERS ⟨_, rfl⟩) (nomark _))))) (pss_one (ps_ret pe_bl)) pss_nil)
  (pss_cons (ps_for PassesOwn.never rfl (pi_enum rfl z.enumerate (pa_cons (pv 0) pa_nil)) (pg_tup rfl (pgs_cons (pg_name (i := 2) nd rfl (by first | exact Or.inl rfl | exact Or.inr rfl)) (pgs_cons (pg_name (i := 3) nd rfl (by first | exact Or.inl rfl | exact Or.inr rfl)) pgs_nil))) (pss_one (ps_if (pt_not (pt_val (pe_callH C_is_beaten_list (hr.mono (by decide)) rfl (pa_cons (pv 3) (pa_cons (pv 2) (pa_cons (pv 1) pa_nil)))))) (pss_one (ps_ret pe_bl)) pss_nil)))
  (pss_one (ps_ret (pe_callH C_one_of_each_two_won (hr.mono (by decide)) rfl (pa_cons (pv 0) pa_nil))))))), ?_⟩
  refine ⟨_, rfl, _, _, rfl, .inl hS, ?_⟩
  rw [hl]
  refine ⟨_, rfl, _, _, rfl, rfl, _, rfl, ?_⟩
  have nohall : ∀ H', Same H H' → ¬ IsHall rows → Q (.bl false) H' := fun H' s h => by
    have := q H' s
    rw [dec_false h] at this
    exact this
  refine ite2 (fun c => iteT (nohall H (Same.refl H) fun h => ?_)) (fun c => ?_)
  · have := of_decide_eq_true c; have := h.lo; omega
  refine ⟨_, rfl, _, _, rfl, rfl, _, rfl, ?_⟩
  refine ite2 (fun d => nohall H (Same.refl H) fun h => ?_) (fun d => ?_)
  · have := of_decide_eq_true d; have := h.hi; omega
  have c' := of_decide_eq_false (Bool.eq_false_iff.mpr c)
  have d' := of_decide_eq_false (Bool.eq_false_iff.mpr d)
  refine ⟨_, rfl, _, rfl, ⟨_, hS⟩, ?_⟩
  refine for_enum (K := K) (a := p) (xs := as.map V.ref) (fun i σ H2 => ∃ v1 v2 : Option V, σ = [some (.ref p), some (.int rows.length), v1, v2] ∧ Same H H2 ∧ ∀ j, j < i → BeatenOk (rowAt rows j) j rows.length)
    ⟨none, none, rfl, Same.refl H, fun j hj => by omega⟩ (fun i σ H2 _ ⟨_, _, _, s2, _⟩ => s2.seq hS) ?_ ?_
  · rintro i x t σ H2 hx ⟨v1, v2, rfl, s2, B⟩ ht
    obtain ⟨a, rfl, ha⟩ := map_ref_get hx
    obtain ⟨row, er, sr⟩ := RowsAt.getA hR ha
    have erow := getElem_rowAt er
    have hi : i < rows.length := (List.getElem?_eq_some_iff.mp er).1
    have s3 : Same H (upd H2 t (.tup [.int i, .ref a])) := s2.trans (same_new ht _)
    refine ⟨t, _, rfl, SqT.of upd_same, rfl, _, _, rfl, _, _, rfl, rfl, ?_⟩
    refine ⟨_, rfl, _, rfl, _, rfl, a, row, _, _, rfl, s3.seq sr, _, rfl, ?_⟩
    by_cases hb : BeatenOk row i rows.length
    · rw [dec_true hb]
      refine iteF ⟨_, _, rfl, s3, fun j hj => ?_⟩
      by_cases h : j < i
      · exact B j h
      · have : j = i := by omega
        subst this; rw [erow]; exact hb
    · rw [dec_false hb]
      refine iteT (nohall _ s3 fun h => hb ?_)
      have := h.beat i hi
      rw [erow] at this
      exact this
  · rintro σ H2 ⟨v1, v2, rfl, s2, B⟩
    rw [hl] at B
    refine ⟨_, rfl, p, rows, rfl, RH.same s2, hz, ?_⟩
    have := q H2 s2
    have e : dec (IsHall rows) = dec (OneEach rows) := dec_iff ⟨fun h => h.one, fun h => ⟨by omega, by omega, B, h⟩⟩
    rw [e] at this
    exact this
end
end KH
namespace KH
open PySem L2
theorem map_refG {as : List Addr} {i : Nat} {x : V} (h : (as.map V.ref)[i]? = some x) : ∃ a, x = .ref a ∧ as[i]? = some a := by
  rw [List.getElem?_map] at h
  cases e : as[i]? with
  | none => rw [e] at h; cases h
  | some a => rw [e] at h; exact ⟨a, (Option.some.inj h).symm, rfl⟩
def winsOf (rows : List (List Int)) : List Int := rows.map fun r => (r.length : Int)
section
variable {P : Program} {w : World} {K : PySem.W.Frag} {mg : Str → Option Value} {base : Heap} {f : Addr} {fd : FuncData}
theorem len_comp {H : Hp} {p : Addr} {as : List Addr} {rows : List (List Int)} {σ0 : St} {Q : VK} (hS : SqL K H p (as.map V.ref)) (hR : RowsAt K H as rows) (hz : rows.length ≤ 500) (h0 : σ0[0]? = some none)
    (q : ∀ (l : Addr) (H' : Hp), H l = none → Same H H' → H' l = some (.lst ((winsOf rows).map V.int)) → Q (.ref l) H') :
    LCw σ0 (gName 0) tTrue (tCB (fun xs H Q => ∃ p ys, xs = [.ref p] ∧ (SqL K H p ys ∨ SqT K H p ys) ∧ Q (.int ys.length) H) (tCons (tVar 0) tNil)) Q (Itl K p) H := by
  have hlen := hR.length
  refine lc_list (K := K) (a := p) (xs := as.map V.ref) (fun E i acc H4 => acc = (winsOf (rows.take i)).map V.int ∧ H E = none ∧ Same H H4 ∧ H4 E = some (.lst acc)) (fun E hE => ⟨rfl, hE, same_new hE _, upd_same⟩)
    (fun E i acc H4 _ ⟨_, _, s4, _⟩ => s4.seq hS) ?_ ?_
  · rintro E i x acc H4 hx ⟨rfl, hE, s4, h4⟩
    obtain ⟨a, rfl, ha⟩ := map_refG hx
    obtain ⟨row, er, sr⟩ := RowsAt.getA hR ha
    have hi : i < rows.length := (List.getElem?_eq_some_iff.mp er).1
    have g0 : (σ0.set 0 (some (V.ref a)))[0]? = some (some (.ref a)) := List.getElem?_set_self (List.getElem?_eq_some_iff.mp h0).1
    refine ⟨CapKeep.set h0, tt_intro ⟨_, g0, a, _, rfl, .inl (s4.seq sr), h4, ?_, ?_⟩⟩
    · rw [List.length_map]; unfold winsOf; rw [List.length_map, List.length_take]; exact smallL (by omega)
    · refine ⟨?_, hE, fun b o e => ?_, upd_same⟩
      · rw [take_snoc er]
        unfold winsOf
        simp
      · rw [upd_ne (fun z => by rw [z, hE] at e; cases e)]; exact s4 b o e
  · rintro E acc H4 ⟨rfl, hE, s4, h4⟩
    rw [List.length_map, hlen, List.take_length] at h4
    exact q E H4 hE s4 h4
end
end KH
namespace KH
open PySem L2
def spNeedE (K : PySem.W.Frag) (CN : Addr) : Sp := fun vs H Q E => ∃ (p : Addr) (rows : List (List Int)), vs = [.ref p] ∧ RdHall K H p rows ∧ rows.length ≤ 500 ∧ (IsHall rows → ∀ H', Same H H' → Q .non H') ∧ (¬ IsHall rows → ∀ H', Same H H' → E (.ref CN) none H')
def spWinsE (K : PySem.W.Frag) (CN : Addr) : Sp := fun vs H Q E => ∃ (p : Addr) (rows : List (List Int)), vs = [.ref p] ∧ RdHall K H p rows ∧ rows.length ≤ 500 ∧
  (IsHall rows → ∀ (l : Addr) (H' : Hp), H l = none → Same H H' → H' l = some (.lst ((winsOf rows).map V.int)) → Q (.ref l) H') ∧ (¬ IsHall rows → ∀ H', Same H H' → E (.ref CN) none H')
def spRef (K : PySem.W.Frag) (CN : Addr) (k : Nat) : Sp := fun vs H Q E => ∃ (p : Addr) (rows : List (List Int)) (us : List V), vs = .ref p :: us ∧ us.length = k ∧ RdHall K H p rows ∧ rows.length ≤ 500 ∧ ¬ IsHall rows ∧ ∀ H', Same H H' → E (.ref CN) none H'
def spRefT (K : PySem.W.Frag) (CN : Addr) : Sp := fun vs H Q E => ∃ (p o : Addr) (rows orows : List (List Int)), vs = [.ref p, .ref o] ∧ RdHall K H p rows ∧ rows.length ≤ 500 ∧ RdHall K H o orows ∧ orows.length ≤ 500 ∧ ¬ (IsHall rows ∧ IsHall orows) ∧ ∀ H', Same H H' → E (.ref CN) none H'
section
variable {P : Program} {w : World} {K : PySem.W.Frag} {mg : Str → Option Value} {base : Heap} {f : Addr} {fd : FuncData} {CN CU : Addr}
theorem sc_needE : FnScope ["hall"] ["hall"] (defScope s_need_hall) := ⟨rfl, rfl, rfl, by decide +kernel, rfl, by decide +kernel, by decide +kernel⟩
theorem ok_needE (F : Fun K "need_hall" "need_hall" s_need_hall f fd) (O_NoHall : OwnE mg base "NoHall" CN) (C_is_hall : Has P w K mg base 2 "is_hall" ["hall"] (spIsHall K)) : FnOk P w K mg base (CXE P w) 3 f fd ["hall"] (spNeedE K CN) := by
  refine F.okE sc_needE (fun vs H Q E h => ?_) (fun cdv A outer s H vs Q E hr h => ?_)
  · obtain ⟨p, rows, rfl, _⟩ := h
    rfl
  obtain ⟨p, rows, rfl, RH, hz, q, e⟩ := h
  refine ⟨_, (pss_one (ps_if (pt_not (pt_val (pe_callH C_is_hall (hr.mono (by decide)) rfl (pa_cons (pv 0) pa_nil)))) (pss_one (ps_raise O_NoHall rfl (pa_cons pe_str pa_nil))) pss_nil)), ?_⟩
  refine ⟨_, rfl, p, rows, rfl, RH, by omega, fun H1 s1 => ⟨_, rfl, ?_⟩⟩
  by_cases IH : IsHall rows
  · rw [dec_true IH]
    exact iteF (q IH H1 s1)
  · rw [dec_false IH]
    exact iteT ⟨by decide, e IH H1 s1⟩
theorem sc_winsE : FnScope ["hall"] ["hall"] (defScope s_wins_of) := ⟨rfl, rfl, rfl, by decide +kernel, rfl, by decide +kernel, by decide +kernel⟩
theorem ok_winsE (F : Fun K "wins_of" "wins_of" s_wins_of f fd) (z : Blt mg) (C_need_hall : HasE P w K mg base 3 "need_hall" ["hall"] (spNeedE K CN)) : FnOk P w K mg base (CXE P w) 4 f fd ["hall"] (spWinsE K CN) := by
  refine F.okE sc_winsE (fun vs H Q E h => ?_) (fun cdv A outer s H vs Q E hr h => ?_)
  · obtain ⟨p, rows, rfl, _⟩ := h
    rfl
  obtain ⟨p, rows, rfl, RH, hz, q, e⟩ := h
  refine ⟨_, (pss_cons (ps_expr (pe_callE C_need_hall (hr.mono (by decide)) passE rfl (pa_cons (pv 0) pa_nil)))
  (pss_one (ps_ret (pe_lc rfl (cscope (N' := ["beaten"]) (caps := [none])) (pi_list (pv 0)) (fun s H fp => ⟨(pg_name (i := 0) (show (["beaten"] : List Str).Nodup by decide +kernel) rfl (by first | exact Or.inl rfl | exact Or.inr rfl)), pif_nil, (pe_callB (call_len_seqK (K := K) rfl) rfl z.len (by decide +kernel) (pa_cons (pv 0) pa_nil))⟩))))), ?_⟩
  refine ⟨_, rfl, p, rows, rfl, RH, hz, fun IH H1 s1 => ?_, fun no H1 s1 => e no H1 s1⟩
  have h12 := IH.hi
  obtain ⟨as, hS, hR⟩ := RH.same s1
  refine ⟨_, rfl, _, rfl, ⟨_, hS⟩, ?_⟩
  exact len_comp hS hR (by omega) rfl fun l H2 hl s2 h2 => q IH l H2 (s1.free hl) (s1.trans s2) h2
theorem sc_lineof : FnScope ["hall", "line", "player"] ["hall"] (defScope s_line_of) := ⟨rfl, rfl, rfl, by decide +kernel, rfl, by decide +kernel, by decide +kernel⟩
theorem ok_lineof (F : Fun K "line_of" "line_of" s_line_of f fd) (C_need_hall : HasE P w K mg base 3 "need_hall" ["hall"] (spNeedE K CN)) : FnOk P w K mg base (CXE P w) 4 f fd ["hall"] (spRef K CN 0) := by
  refine F.okE sc_lineof (fun vs H Q E h => ?_) (fun cdv A outer s H vs Q E hr h => ?_)
  · obtain ⟨p, rows, us, rfl, hk, _⟩ := h
    rw [List.length_cons, hk]; rfl
  obtain ⟨p, rows, us, rfl, hk, RH, hz, no, e⟩ := h
  obtain rfl : us = [] := List.length_eq_zero_iff.mp hk
  refine ⟨_, (pss_cons (ps_expr (pe_callE C_need_hall (hr.mono (by decide)) passE rfl (pa_cons (pv 0) pa_nil))) pss_never), ?_⟩
  exact ⟨_, rfl, p, rows, rfl, RH, hz, fun IH => absurd IH no, fun _ H1 s1 => e H1 s1⟩
theorem sc_linesmany : FnScope ["hall", "begun", "player", "step"] ["hall"] (defScope s_lines_many) := ⟨rfl, rfl, rfl, by decide +kernel, rfl, by decide +kernel, by decide +kernel⟩
theorem ok_linesmany (F : Fun K "lines_many" "lines_many" s_lines_many f fd) (C_need_hall : HasE P w K mg base 3 "need_hall" ["hall"] (spNeedE K CN)) : FnOk P w K mg base (CXE P w) 4 f fd ["hall"] (spRef K CN 0) := by
  refine F.okE sc_linesmany (fun vs H Q E h => ?_) (fun cdv A outer s H vs Q E hr h => ?_)
  · obtain ⟨p, rows, us, rfl, hk, _⟩ := h
    rw [List.length_cons, hk]; rfl
  obtain ⟨p, rows, us, rfl, hk, RH, hz, no, e⟩ := h
  obtain rfl : us = [] := List.length_eq_zero_iff.mp hk
  refine ⟨_, (pss_cons (ps_expr (pe_callE C_need_hall (hr.mono (by decide)) passE rfl (pa_cons (pv 0) pa_nil))) pss_never), ?_⟩
  exact ⟨_, rfl, p, rows, rfl, RH, hz, fun IH => absurd IH no, fun _ H1 s1 => e H1 s1⟩
theorem sc_groupsof : FnScope ["hall", "groups", "group", "against", "place", "player"] ["hall"] (defScope s_groups_of) := ⟨rfl, rfl, rfl, by decide +kernel, rfl, by decide +kernel, by decide +kernel⟩
theorem ok_groupsof (F : Fun K "groups_of" "groups_of" s_groups_of f fd) (C_need_hall : HasE P w K mg base 3 "need_hall" ["hall"] (spNeedE K CN)) : FnOk P w K mg base (CXE P w) 4 f fd ["hall"] (spRef K CN 0) := by
  refine F.okE sc_groupsof (fun vs H Q E h => ?_) (fun cdv A outer s H vs Q E hr h => ?_)
  · obtain ⟨p, rows, us, rfl, hk, _⟩ := h
    rw [List.length_cons, hk]; rfl
  obtain ⟨p, rows, us, rfl, hk, RH, hz, no, e⟩ := h
  obtain rfl : us = [] := List.length_eq_zero_iff.mp hk
  refine ⟨_, (pss_cons (ps_expr (pe_callE C_need_hall (hr.mono (by decide)) passE rfl (pa_cons (pv 0) pa_nil))) pss_never), ?_⟩
  exact ⟨_, rfl, p, rows, rfl, RH, hz, fun IH => absurd IH no, fun _ H1 s1 => e H1 s1⟩
theorem sc_kingsof : FnScope ["hall"] ["hall"] (defScope s_kings_of) := ⟨rfl, rfl, rfl, by decide +kernel, rfl, by decide +kernel, by decide +kernel⟩
theorem ok_kingsof (F : Fun K "kings_of" "kings_of" s_kings_of f fd) (C_need_hall : HasE P w K mg base 3 "need_hall" ["hall"] (spNeedE K CN)) : FnOk P w K mg base (CXE P w) 4 f fd ["hall"] (spRef K CN 0) := by
  refine F.okE sc_kingsof (fun vs H Q E h => ?_) (fun cdv A outer s H vs Q E hr h => ?_)
  · obtain ⟨p, rows, us, rfl, hk, _⟩ := h
    rw [List.length_cons, hk]; rfl
  obtain ⟨p, rows, us, rfl, hk, RH, hz, no, e⟩ := h
  obtain rfl : us = [] := List.length_eq_zero_iff.mp hk
  refine ⟨_, (pss_cons (ps_expr (pe_callE C_need_hall (hr.mono (by decide)) passE rfl (pa_cons (pv 0) pa_nil))) pss_never), ?_⟩
  exact ⟨_, rfl, p, rows, rfl, RH, hz, fun IH => absurd IH no, fun _ H1 s1 => e H1 s1⟩
theorem sc_shownr : FnScope ["hall", "signs"] ["hall"] (defScope s_shown) := ⟨rfl, rfl, rfl, by decide +kernel, rfl, by decide +kernel, by decide +kernel⟩
theorem ok_shownr (F : Fun K "shown" "shown" s_shown f fd) (C_need_hall : HasE P w K mg base 3 "need_hall" ["hall"] (spNeedE K CN)) : FnOk P w K mg base (CXE P w) 4 f fd ["hall"] (spRef K CN 0) := by
  refine F.okE sc_shownr (fun vs H Q E h => ?_) (fun cdv A outer s H vs Q E hr h => ?_)
  · obtain ⟨p, rows, us, rfl, hk, _⟩ := h
    rw [List.length_cons, hk]; rfl
  obtain ⟨p, rows, us, rfl, hk, RH, hz, no, e⟩ := h
  obtain rfl : us = [] := List.length_eq_zero_iff.mp hk
  refine ⟨_, (pss_cons (ps_expr (pe_callE C_need_hall (hr.mono (by decide)) passE rfl (pa_cons (pv 0) pa_nil))) pss_never), ?_⟩
  exact ⟨_, rfl, p, rows, rfl, RH, hz, fun IH => absurd IH no, fun _ H1 s1 => e H1 s1⟩
theorem sc_ringat : FnScope ["hall", "player", "many", "group", "ring"] ["hall", "player", "many"] (defScope s_ring_at) := ⟨rfl, rfl, rfl, by decide +kernel, rfl, by decide +kernel, by decide +kernel⟩
theorem ok_ringat (F : Fun K "ring_at" "ring_at" s_ring_at f fd) (C_need_hall : HasE P w K mg base 3 "need_hall" ["hall"] (spNeedE K CN)) : FnOk P w K mg base (CXE P w) 4 f fd ["hall", "player", "many"] (spRef K CN 2) := by
  refine F.okE sc_ringat (fun vs H Q E h => ?_) (fun cdv A outer s H vs Q E hr h => ?_)
  · obtain ⟨p, rows, us, rfl, hk, _⟩ := h
    rw [List.length_cons, hk]; rfl
  obtain ⟨p, rows, us, rfl, hk, RH, hz, no, e⟩ := h
  obtain ⟨u0, u1, rfl⟩ := len2 hk
  refine ⟨_, (pss_cons (ps_expr (pe_callE C_need_hall (hr.mono (by decide)) passE rfl (pa_cons (pv 0) pa_nil))) pss_never), ?_⟩
  exact ⟨_, rfl, p, rows, rfl, RH, hz, fun IH => absurd IH no, fun _ H1 s1 => e H1 s1⟩
theorem sc_wayof : FnScope ["hall", "one", "other"] ["hall", "one", "other"] (defScope s_way_of) := ⟨rfl, rfl, rfl, by decide +kernel, rfl, by decide +kernel, by decide +kernel⟩
theorem ok_wayof (F : Fun K "way_of" "way_of" s_way_of f fd) (C_need_hall : HasE P w K mg base 3 "need_hall" ["hall"] (spNeedE K CN)) : FnOk P w K mg base (CXE P w) 4 f fd ["hall", "one", "other"] (spRef K CN 2) := by
  refine F.okE sc_wayof (fun vs H Q E h => ?_) (fun cdv A outer s H vs Q E hr h => ?_)
  · obtain ⟨p, rows, us, rfl, hk, _⟩ := h
    rw [List.length_cons, hk]; rfl
  obtain ⟨p, rows, us, rfl, hk, RH, hz, no, e⟩ := h
  obtain ⟨u0, u1, rfl⟩ := len2 hk
  refine ⟨_, (pss_cons (ps_expr (pe_callE C_need_hall (hr.mono (by decide)) passE rfl (pa_cons (pv 0) pa_nil))) pss_never), ?_⟩
  exact ⟨_, rfl, p, rows, rfl, RH, hz, fun IH => absurd IH no, fun _ H1 s1 => e H1 s1⟩
theorem sc_turnedr : FnScope ["hall", "ring", "other", "place", "loser", "winner"] ["hall", "ring"] (defScope s_turned) := ⟨rfl, rfl, rfl, by decide +kernel, rfl, by decide +kernel, by decide +kernel⟩
theorem ok_turnedr (F : Fun K "turned" "turned" s_turned f fd) (C_need_hall : HasE P w K mg base 3 "need_hall" ["hall"] (spNeedE K CN)) : FnOk P w K mg base (CXE P w) 4 f fd ["hall", "ring"] (spRef K CN 1) := by
  refine F.okE sc_turnedr (fun vs H Q E h => ?_) (fun cdv A outer s H vs Q E hr h => ?_)
  · obtain ⟨p, rows, us, rfl, hk, _⟩ := h
    rw [List.length_cons, hk]; rfl
  obtain ⟨p, rows, us, rfl, hk, RH, hz, no, e⟩ := h
  obtain ⟨u0, rfl⟩ := len1 hk
  refine ⟨_, (pss_cons (ps_expr (pe_callE C_need_hall (hr.mono (by decide)) passE rfl (pa_cons (pv 0) pa_nil))) pss_never), ?_⟩
  exact ⟨_, rfl, p, rows, rfl, RH, hz, fun IH => absurd IH no, fun _ H1 s1 => e H1 s1⟩
theorem sc_turnsr : FnScope ["hall", "other", "told", "now", "threes", "three"] ["hall", "other"] (defScope s_turnings) := ⟨rfl, rfl, rfl, by decide +kernel, rfl, by decide +kernel, by decide +kernel⟩
theorem ok_turnsr (F : Fun K "turnings" "turnings" s_turnings f fd) (O_Unlike : OwnE mg base "Unlike" CU) (C_wins_of : HasE P w K mg base 4 "wins_of" ["hall"] (spWinsE K CN)) : FnOk P w K mg base (CXE P w) 5 f fd ["hall", "other"] (spRefT K CN) := by
  refine F.okE sc_turnsr (fun vs H Q E h => ?_) (fun cdv A outer s H vs Q E hr h => ?_)
  · obtain ⟨p, o, rows, orows, rfl, _⟩ := h
    rfl
  obtain ⟨p, o, rows, orows, rfl, RP, hz, RO, oz, no, e⟩ := h
  refine ⟨_, (pss_cons (ps_if (pt_cmpR op_never (pe_callE C_wins_of (hr.mono (by decide)) passE rfl (pa_cons (pv 0) pa_nil)) (pe_callE C_wins_of (hr.mono (by decide)) passE rfl (pa_cons (pv 1) pa_nil)) (nomark _)) (pss_one (ps_raise O_Unlike rfl (pa_cons pe_str pa_nil))) pss_nil) pss_never), ?_⟩
  exact ⟨_, rfl, p, rows, rfl, RP, hz, fun IH l1 H1 hl1 s1 h1 => ⟨_, rfl, o, orows, rfl, RO.same s1, oz, fun IO => absurd ⟨IH, IO⟩ no, fun _ H2 s2 => e H2 (s1.trans s2)⟩, fun _ H1 s1 => e H1 s1⟩
end
end KH
namespace KH
open PySem L2
structure Which (K : PySem.W.Frag) (D_NoHall D_NoPlayer D_NoRing D_NoRow D_Unlike D_NoNote C : Addr) (bs : List Bool) (i : Nat) : Prop where
  f : ExcFacts K C
  b : ∃ b0 b1 b2 b3 b4 b5, bs = [b0, b1, b2, b3, b4, b5] ∧ PySem.W.kitOne K (.ref C) (.ref D_NoHall) = some b0 ∧ PySem.W.kitOne K (.ref C) (.ref D_NoPlayer) = some b1 ∧ PySem.W.kitOne K (.ref C) (.ref D_NoRing) = some b2 ∧
    PySem.W.kitOne K (.ref C) (.ref D_NoRow) = some b3 ∧ PySem.W.kitOne K (.ref C) (.ref D_Unlike) = some b4 ∧ PySem.W.kitOne K (.ref C) (.ref D_NoNote) = some b5
  v : PySem.W.kitOne K (.ref C) (.type "ValueError") = some true
  c : bs.countP id = 1
  j : bs[i]? = some true
  n : ∀ k, k < i → bs[k]? = some false
def spWhich (K : PySem.W.Frag) (D_NoHall D_NoPlayer D_NoRing D_NoRow D_Unlike D_NoNote : Addr) : Sp := fun vs H Q _ => ∃ (ea C : Addr) (bs : List Bool) (i : Nat), vs = [.ref ea] ∧ H ea = some (ExcOb ea C) ∧ Which K D_NoHall D_NoPlayer D_NoRing D_NoRow D_Unlike D_NoNote C bs i ∧ ∀ H', Same H H' → Q (.int i) H'
section
variable {P : Program} {w : World} {K : PySem.W.Frag} {mg : Str → Option Value} {base : Heap} {f : Addr} {fd : FuncData} {D_NoHall D_NoPlayer D_NoRing D_NoRow D_Unlike D_NoNote : Addr}
theorem sc_which : FnScope ["e", "low", "high", "told"] ["e"] (defScope s_law_which) := ⟨rfl, rfl, rfl, by decide +kernel, rfl, by decide +kernel, by decide +kernel⟩
theorem ok_which (F : Fun K "_law_which" "_law_which" s_law_which f fd) (z : Blt mg) (g_NoHall : mg "NoHall" = some (.ref D_NoHall)) (g_NoPlayer : mg "NoPlayer" = some (.ref D_NoPlayer)) (g_NoRing : mg "NoRing" = some (.ref D_NoRing)) (g_NoRow : mg "NoRow" = some (.ref D_NoRow))
    (g_Unlike : mg "Unlike" = some (.ref D_Unlike)) (g_NoNote : mg "NoNote" = some (.ref D_NoNote)) : FnOkM P w K mg base 1 f fd ["e"] (spWhich K D_NoHall D_NoPlayer D_NoRing D_NoRow D_Unlike D_NoNote) := by
  refine F.okM sc_which (fun vs H Q E h => ?_) (fun cdv A outer s H vs Q E hr h => ?_)
  · obtain ⟨ea, C, bs, i, rfl, _⟩ := h
    rfl
  obtain ⟨ea, C, bs, i, rfl, he, Wh, q⟩ := h
  obtain ⟨WF, ⟨b0, b1, b2, b3, b4, b5, rfl, k0, k1, k2, k3, k4, k5⟩, wv, wc, wj, wn⟩ := Wh
  have nd := sc_which.nd
  refine ⟨_, (pss_cons (ps_set (i := 1) nd rfl (by first | exact Or.inl rfl | exact Or.inr rfl) (pe_lst (pa_cons (pe_callB call_isinstE rfl z.isinstance (by decide +kernel) (pa_cons (pv 0) (pa_cons (pe_glob (v := .ref D_NoHall) rfl g_NoHall rfl) pa_nil))) (pa_cons (pe_callB call_isinstE rfl z.isinstance (by decide +kernel) (pa_cons (pv 0) (pa_cons (pe_glob (v := .ref D_NoPlayer) rfl g_NoPlayer rfl) pa_nil))) (pa_cons (pe_callB call_isinstE rfl z.isinstance (by decide +kernel) (pa_cons (pv 0) (pa_cons (pe_glob (v := .ref D_NoRing) rfl g_NoRing rfl) pa_nil))) pa_nil)))))
  (pss_cons (ps_set (i := 2) nd rfl (by first | exact Or.inl rfl | exact Or.inr rfl) (pe_lst (pa_cons (pe_callB call_isinstE rfl z.isinstance (by decide +kernel) (pa_cons (pv 0) (pa_cons (pe_glob (v := .ref D_NoRow) rfl g_NoRow rfl) pa_nil))) (pa_cons (pe_callB call_isinstE rfl z.isinstance (by decide +kernel) (pa_cons (pv 0) (pa_cons (pe_glob (v := .ref D_Unlike) rfl g_Unlike rfl) pa_nil))) (pa_cons (pe_callB call_isinstE rfl z.isinstance (by decide +kernel) (pa_cons (pv 0) (pa_cons (pe_glob (v := .ref D_NoNote) rfl g_NoNote rfl) pa_nil))) pa_nil)))))
  (pss_cons (ps_set (i := 3) nd rfl (by first | exact Or.inl rfl | exact Or.inr rfl) (pe_op op_cat (pv 1) (pv 2)))
  (pss_cons (ps_if (PW.pt (pw_or (pt_not (pt_val (pe_callB call_isinstE rfl z.isinstance (by decide +kernel) (pa_cons (pv 0) (pa_cons (pe_bltn (v := .ty "ValueError") (u := .type "ValueError") rfl z.ValueError (by decide +kernel) rfl) pa_nil))))) (pw_or1 (pt_cmpR op_ne (pe_bm PySem.F.plainAttrs_list PySem.F.slot_list_count PySem.F.type_list_count mt_countT (pv 3) (pa_cons pe_bl pa_nil)) pe_int (nomark _))))) (pss_one (ps_ret pe_int)) pss_nil)
  (pss_one (ps_ret (pe_bm PySem.F.plainAttrs_list PySem.F.slot_list_index PySem.F.type_list_index mt_indexT (pv 3) (pa_cons pe_bl pa_nil)))))))), ?_⟩
  have un : ∀ D : Addr, ∀ u, RelV (.ref D) u → u = .ref D := fun D u r => r
  refine ⟨_, rfl, _, _, _, _, _, rfl, rfl, un _, he, WF, k0, _, rfl, _, _, _, _, _, rfl, rfl, un _, he, WF, k1, _, rfl, _, _, _, _, _, rfl, rfl, un _, he, WF, k2, small (by simp), fun L1 hL1 => ?_⟩
  have s1 := same_new hL1 (.lst [.bl b0, .bl b1, .bl b2])
  have he1 := s1 _ _ he
  refine ⟨_, rfl, _, _, _, _, _, rfl, rfl, un _, he1, WF, k3, _, rfl, _, _, _, _, _, rfl, rfl, un _, he1, WF, k4, _, rfl, _, _, _, _, _, rfl, rfl, un _, he1, WF, k5, small (by simp), fun L2 hL2 => ?_⟩
  have s2 := same_new hL2 (.lst [.bl b3, .bl b4, .bl b5])
  refine ⟨_, rfl, _, rfl, L1, L2, _, _, rfl, rfl, s2 _ _ upd_same, upd_same, small (by simp), fun L3 hL3 => ?_⟩
  have s3 := same_new hL3 (.lst ([.bl b0, .bl b1, .bl b2] ++ [.bl b3, .bl b4, .bl b5]))
  have s13 := (s1.trans s2).trans s3
  have h3 : (upd (upd (upd H L1 (.lst [.bl b0, .bl b1, .bl b2])) L2 (.lst [.bl b3, .bl b4, .bl b5])) L3 (.lst ([.bl b0, .bl b1, .bl b2] ++ [.bl b3, .bl b4, .bl b5]))) L3 = some (.lst ([b0, b1, b2, b3, b4, b5].map V.bl)) := upd_same
  refine ⟨_, rfl, _, _, _, _, _, rfl, rfl, fun u r => r, s13 _ _ he, WF, wv, _, rfl, iteF ?_⟩
  refine ⟨_, rfl, .inl ⟨rfl, _, SqL.of h3⟩, L3, _, rfl, rfl, h3, rfl, _, rfl, ?_⟩
  rw [wc]
  refine iteNS rfl ?_
  exact ⟨_, rfl, .inl ⟨rfl, _, SqL.of h3⟩, L3, _, i, rfl, rfl, h3, (by simp), wj, wn, q _ s13⟩
end
end KH
namespace KH
open PySem L2
def spFirstL (K : PySem.W.Frag) (CN : Addr) : Sp := fun vs H Q E => ∃ (p : Addr) (rows : List (List Int)) (v : Int), vs = [.ref p, .int v] ∧ RdHall K H p rows ∧ rows.length ≤ 500 ∧ ¬ IsHall rows ∧ 0 ≤ v ∧ v ≤ 10 ∧ (v ≤ 5 → ∀ H', Same H H' → E (.ref CN) none H') ∧ (6 ≤ v → Q .non H)
def spSecondL (K : PySem.W.Frag) (CN : Addr) : Sp := fun vs H Q E => ∃ (p o : Addr) (rows orows : List (List Int)) (v nb : Int), vs = [.ref p, .ref o, .int v, .int nb] ∧ RdHall K H p rows ∧ rows.length ≤ 500 ∧ RdHall K H o orows ∧ orows.length ≤ 500 ∧ ¬ IsHall rows ∧ 6 ≤ v ∧ v ≤ 10 ∧ ∀ H', Same H H' → E (.ref CN) none H'
def spMetL (K : PySem.W.Frag) : Sp := fun vs H Q _ => ∃ (p o : Addr) (rows orows : List (List Int)) (v nb : Int), vs = [.ref p, .ref o, .int v, .int nb] ∧ RdHall K H p rows ∧ rows.length ≤ 500 ∧ RdHall K H o orows ∧ orows.length ≤ 500 ∧ ¬ IsHall rows ∧ 0 ≤ v ∧ v ≤ 10 ∧ ∀ H', Same H H' → Q (.int 0) H'
theorem vint_ne {a b : Int} (h : a ≠ b) : decide (V.int a = V.int b) = false := decide_eq_false fun z => h (by injection z)
theorem vint_eq {a b : Int} (h : a = b) : decide (V.int a = V.int b) = true := decide_eq_true (by rw [h])
section
variable {P : Program} {w : World} {K : PySem.W.Frag} {mg : Str → Option Value} {base : Heap} {f : Addr} {fd : FuncData} {CN CU D_HallError D_NoHall D_NoPlayer D_NoRing D_NoRow D_Unlike D_NoNote : Addr}
theorem sc_firstL : FnScope ["hall", "way"] ["hall", "way"] (defScope s_law_first) := ⟨rfl, rfl, rfl, by decide +kernel, rfl, by decide +kernel, by decide +kernel⟩
set_option maxHeartbeats 0 in
theorem ok_firstL (F : Fun K "_law_first" "_law_first" s_law_first f fd) (C_wins_of : HasE P w K mg base 4 "wins_of" ["hall"] (spWinsE K CN))
    (C_line_of : HasE P w K mg base 4 "line_of" ["hall"] (spRef K CN 0))
    (C_lines_many : HasE P w K mg base 4 "lines_many" ["hall"] (spRef K CN 0))
    (C_groups_of : HasE P w K mg base 4 "groups_of" ["hall"] (spRef K CN 0))
    (C_kings_of : HasE P w K mg base 4 "kings_of" ["hall"] (spRef K CN 0))
    (C_shown : HasE P w K mg base 4 "shown" ["hall"] (spRef K CN 0)) : FnOk P w K mg base (CXE P w) 5 f fd ["hall", "way"] (spFirstL K CN) := by
  refine F.okE sc_firstL (fun vs H Q E h => ?_) (fun cdv A outer s H vs Q E hr h => ?_)
  · obtain ⟨p, rows, v, rfl, _⟩ := h
    rfl
  obtain ⟨p, rows, v, rfl, RH, hz, no, v0, v10, e, q⟩ := h
  refine ⟨_, (pss_cons (ps_if (pt_cmpR op_eq (pv 1) pe_int (nomark _)) (pss_one (ps_expr (pe_callE C_wins_of (hr.mono (by decide)) passE rfl (pa_cons (pv 0) pa_nil)))) pss_nil)
  (pss_cons (ps_if (pt_cmpR op_eq (pv 1) pe_int (nomark _)) (pss_one (ps_expr (pe_callE C_line_of (hr.mono (by decide)) passE rfl (pa_cons (pv 0) pa_nil)))) pss_nil)
  (pss_cons (ps_if (pt_cmpR op_eq (pv 1) pe_int (nomark _)) (pss_one (ps_expr (pe_callE C_lines_many (hr.mono (by decide)) passE rfl (pa_cons (pv 0) pa_nil)))) pss_nil)
  (pss_cons (ps_if (pt_cmpR op_eq (pv 1) pe_int (nomark _)) (pss_one (ps_expr (pe_callE C_groups_of (hr.mono (by decide)) passE rfl (pa_cons (pv 0) pa_nil)))) pss_nil)
  (pss_cons (ps_if (pt_cmpR op_eq (pv 1) pe_int (nomark _)) (pss_one (ps_expr (pe_callE C_kings_of (hr.mono (by decide)) passE rfl (pa_cons (pv 0) pa_nil)))) pss_nil)
  (pss_one (ps_if (pt_cmpR op_eq (pv 1) pe_int (nomark _)) (pss_one (ps_expr (pe_callE C_shown (hr.mono (by decide)) passE rfl (pa_cons (pv 0) pa_nil)))) pss_nil))))))), ?_⟩
  refine ⟨_, rfl, rfl, _, rfl, ?_⟩
  by_cases c0 : v = 0
  · rw [vint_eq c0]
    exact iteT ⟨_, rfl, p, rows, rfl, RH, hz, fun IH => absurd IH no, fun _ H1 s1 => e (by omega) H1 s1⟩
  rw [vint_ne c0]
  refine iteF ?_
  refine ⟨_, rfl, rfl, _, rfl, ?_⟩
  by_cases c1 : v = 1
  · rw [vint_eq c1]
    exact iteT ⟨_, rfl, p, rows, [], rfl, rfl, RH, hz, no, fun H1 s1 => e (by omega) H1 s1⟩
  rw [vint_ne c1]
  refine iteF ?_
  refine ⟨_, rfl, rfl, _, rfl, ?_⟩
  by_cases c2 : v = 2
  · rw [vint_eq c2]
    exact iteT ⟨_, rfl, p, rows, [], rfl, rfl, RH, hz, no, fun H1 s1 => e (by omega) H1 s1⟩
  rw [vint_ne c2]
  refine iteF ?_
  refine ⟨_, rfl, rfl, _, rfl, ?_⟩
  by_cases c3 : v = 3
  · rw [vint_eq c3]
    exact iteT ⟨_, rfl, p, rows, [], rfl, rfl, RH, hz, no, fun H1 s1 => e (by omega) H1 s1⟩
  rw [vint_ne c3]
  refine iteF ?_
  refine ⟨_, rfl, rfl, _, rfl, ?_⟩
  by_cases c4 : v = 4
  · rw [vint_eq c4]
    exact iteT ⟨_, rfl, p, rows, [], rfl, rfl, RH, hz, no, fun H1 s1 => e (by omega) H1 s1⟩
  rw [vint_ne c4]
  refine iteF ?_
  refine ⟨_, rfl, rfl, _, rfl, ?_⟩
  by_cases c5 : v = 5
  · rw [vint_eq c5]
    exact iteT ⟨_, rfl, p, rows, [], rfl, rfl, RH, hz, no, fun H1 s1 => e (by omega) H1 s1⟩
  rw [vint_ne c5]
  refine iteF ?_
  exact q (by omega)
theorem sc_secondL : FnScope ["hall", "other", "way", "number"] ["hall", "other", "way", "number"] (defScope s_law_second) := ⟨rfl, rfl, rfl, by decide +kernel, rfl, by decide +kernel, by decide +kernel⟩
set_option maxHeartbeats 0 in
theorem ok_secondL (F : Fun K "_law_second" "_law_second" s_law_second f fd) (C_ring_at : HasE P w K mg base 4 "ring_at" ["hall", "player", "many"] (spRef K CN 2)) (C_way_of : HasE P w K mg base 4 "way_of" ["hall", "one", "other"] (spRef K CN 2))
    (C_turned : HasE P w K mg base 4 "turned" ["hall", "ring"] (spRef K CN 1)) (C_turnings : HasE P w K mg base 5 "turnings" ["hall", "other"] (spRefT K CN)) : FnOk P w K mg base (CXE P w) 6 f fd ["hall", "other", "way", "number"] (spSecondL K CN) := by
  refine F.okE sc_secondL (fun vs H Q E h => ?_) (fun cdv A outer s H vs Q E hr h => ?_)
  · obtain ⟨p, o, rows, orows, v, nb, rfl, _⟩ := h
    rfl
  obtain ⟨p, o, rows, orows, v, nb, rfl, RH, hz, RO, oz, no, v6, v10, e⟩ := h
  refine ⟨_, (pss_cons (ps_if (pt_cmpR op_eq (pv 2) pe_int (nomark _)) (pss_one (ps_expr (pe_callE C_ring_at (hr.mono (by decide)) passE rfl (pa_cons (pv 0) (pa_cons (pv 3) (pa_cons (pv 3) pa_nil)))))) pss_nil)
  (pss_cons (ps_if (pt_cmpR op_eq (pv 2) pe_int (nomark _)) (pss_one (ps_expr (pe_callE C_way_of (hr.mono (by decide)) passE rfl (pa_cons (pv 0) (pa_cons (pv 3) (pa_cons pe_int pa_nil)))))) pss_nil)
  (pss_cons (ps_if (pt_cmpR op_eq (pv 2) pe_int (nomark _)) (pss_one (ps_expr (pe_callE C_turned (hr.mono (by decide)) passE rfl (pa_cons (pv 0) (pa_cons (pe_tup (pa_cons (pv 3) (pa_cons pe_int (pa_cons pe_int pa_nil)))) pa_nil))))) pss_nil)
  (pss_cons (ps_if (pt_cmpR op_eq (pv 2) pe_int (nomark _)) (pss_one (ps_expr (pe_callE C_turnings (hr.mono (by decide)) passE rfl (pa_cons (pv 0) (pa_cons (pv 1) pa_nil))))) pss_nil)
  (pss_one (ps_if (pt_cmpR op_eq (pv 2) pe_int (nomark _)) (pss_one (ps_expr (pe_callE C_turnings (hr.mono (by decide)) passE rfl (pa_cons (pv 1) (pa_cons (pv 0) pa_nil))))) pss_nil)))))), ?_⟩
  refine ⟨_, rfl, rfl, _, rfl, ?_⟩
  by_cases c6 : v = 6
  · rw [vint_eq c6]
    exact iteT ⟨_, rfl, _, rfl, _, rfl, p, rows, [_, _], rfl, rfl, RH, hz, no, fun H1 s1 => e H1 s1⟩
  rw [vint_ne c6]
  refine iteF ?_
  refine ⟨_, rfl, rfl, _, rfl, ?_⟩
  by_cases c7 : v = 7
  · rw [vint_eq c7]
    exact iteT ⟨_, rfl, _, rfl, p, rows, [_, _], rfl, rfl, RH, hz, no, fun H1 s1 => e H1 s1⟩
  rw [vint_ne c7]
  refine iteF ?_
  refine ⟨_, rfl, rfl, _, rfl, ?_⟩
  by_cases c8 : v = 8
  · rw [vint_eq c8]
    exact iteT ⟨_, rfl, _, rfl, small (by simp), fun t ht => ⟨p, rows, [_], rfl, rfl, RH.same (same_new ht _), hz, no, fun H1 s1 => e H1 ((same_new ht _).trans s1)⟩⟩
  rw [vint_ne c8]
  refine iteF ?_
  refine ⟨_, rfl, rfl, _, rfl, ?_⟩
  by_cases c9 : v = 9
  · rw [vint_eq c9]
    exact iteT ⟨_, rfl, _, rfl, p, o, rows, orows, rfl, RH, hz, RO, oz, fun z => no z.1, fun H1 s1 => e H1 s1⟩
  rw [vint_ne c9]
  refine iteF ?_
  refine ⟨_, rfl, rfl, _, rfl, ?_⟩
  rw [vint_eq (show v = 10 by omega)]
  exact iteT ⟨_, rfl, _, rfl, o, p, orows, rows, rfl, RO, oz, RH, hz, fun z => no z.2, fun H1 s1 => e H1 s1⟩
theorem sc_metL : FnScope ["hall", "other", "way", "number", "which", "e"] ["hall", "other", "way", "number"] (defScope s_law_met) := ⟨rfl, rfl, rfl, by decide +kernel, rfl, by decide +kernel, by decide +kernel⟩
set_option maxHeartbeats 0 in
theorem ok_metL (F : Fun K "_law_met" "_law_met" s_law_met f fd) (z : Blt mg) (O_HallError : OwnE mg base "HallError" D_HallError) (UH : Under base D_NoHall D_HallError) (WH : Which K D_NoHall D_NoPlayer D_NoRing D_NoRow D_Unlike D_NoNote D_NoHall [true, false, false, false, false, false] 0)
    (CE_law_first : HasE P w K mg base 5 "_law_first" ["hall", "way"] (spFirstL K D_NoHall)) (CE_law_second : HasE P w K mg base 6 "_law_second" ["hall", "other", "way", "number"] (spSecondL K D_NoHall)) (C_law_which : HasM P w K mg base 1 "_law_which" ["e"] (spWhich K D_NoHall D_NoPlayer D_NoRing D_NoRow D_Unlike D_NoNote)) :
    FnOk P w K mg base CX0 7 f fd ["hall", "other", "way", "number"] (spMetL K) := by
  refine F.ok sc_metL (fun vs H Q E h => ?_) (fun cdv A outer s H vs Q E hr h => ?_)
  · obtain ⟨p, o, rows, orows, v, nb, rfl, _⟩ := h
    rfl
  obtain ⟨p, o, rows, orows, v, nb, rfl, RH, hz, RO, oz, no, v0, v10, q⟩ := h
  have nd := sc_metL.nd
  refine ⟨_, (pss_cons (ps_set (i := 4) nd rfl (by first | exact Or.inl rfl | exact Or.inr rfl) pe_int)
  (pss_cons (ps_tryE2 (i := 5) CE_law_first (hr.mono (by decide)) rfl (fun _ => (pa_cons (pv 0) (pa_cons (pv 2) pa_nil))) CE_law_second (hr.mono (by decide)) rfl (fun _ => (pa_cons (pv 0) (pa_cons (pv 1) (pa_cons (pv 2) (pa_cons (pv 3) pa_nil))))) rfl rfl nd rfl rfl rfl O_HallError (fun _ => (pss_one (ps_set (i := 4) nd rfl (by first | exact Or.inl rfl | exact Or.inr rfl) (pe_callM C_law_which (RoomM.mark (Room.toM (hr.mono (by decide)))) rfl (pa_cons (pv 5) pa_nil))))))
  (pss_one (ps_ret (pv 4))))), ?_⟩
  have fin : ∀ (H1 : Hp) (ea : Addr), Same H H1 → H1 ea = none → ∀ H6, Same (upd H1 ea (ExcOb ea D_NoHall)) H6 → Q (.int 0) H6 := fun H1 ea s1 hea H6 s6 => q H6 ((s1.trans (same_new hea _)).trans s6)
  refine ⟨_, rfl, _, rfl, p, rows, v, rfl, RH, hz, no, v0, v10, fun _ H1 s1 => ⟨D_NoHall, rfl, UH, fun ea hea => ?_⟩, fun v6 => ?_⟩
  · refine ⟨_, rfl, ea, D_NoHall, _, 0, rfl, upd_same, WH, fun H6 s6 => ?_⟩
    exact ⟨_, rfl, fin H1 ea s1 hea H6 s6⟩
  · refine ⟨_, rfl, _, rfl, _, rfl, _, rfl, p, o, rows, orows, v, nb, rfl, RH, hz, RO, oz, no, v6, v10, fun H1 s1 => ⟨D_NoHall, rfl, UH, fun ea hea => ?_⟩⟩
    refine ⟨_, rfl, ea, D_NoHall, _, 0, rfl, upd_same, WH, fun H6 s6 => ?_⟩
    exact ⟨_, rfl, fin H1 ea s1 hea H6 s6⟩
end
end KH
namespace KH
open PySem L2
def spGood (K : PySem.W.Frag) : Sp := fun vs H Q _ => ∃ (p : Addr) (rows : List (List Int)), vs = [.ref p] ∧ RdHall K H p rows ∧ rows.length ≤ 1000 ∧ (∀ i, (rowAt rows i).length ≤ 1000) ∧ Q (.bl (dec (IsHall rows))) H
section
variable {P : Program} {w : World} {K : PySem.W.Frag} {mg : Str → Option Value} {base : Heap} {f : Addr} {fd : FuncData}
theorem sc_good : FnScope ["hall", "many", "one", "k", "other"] ["hall"] (defScope s_law_good) := ⟨rfl, rfl, rfl, by decide +kernel, rfl, by decide +kernel, by decide +kernel⟩
theorem ok_good (F : Fun K "_law_good" "_law_good" s_law_good f fd) (z : Blt mg) : FnOk P w K mg base CX0 1 f fd ["hall"] (spGood K) := by
  refine F.ok sc_good (fun vs H Q E h => ?_) (fun cdv A outer s H vs Q E hr h => ?_)
  · obtain ⟨p, rows, rfl, _⟩ := h
    rfl
  obtain ⟨p, rows, rfl, ⟨as, hS, hR⟩, hz, hzr, q⟩ := h
  have nd := sc_good.nd
  have hl : (as.map V.ref).length = rows.length := by rw [List.length_map]; exact hR.length
  refine ⟨_, (pss_cons (ps_set (i := 1) nd rfl (by first | exact Or.inl rfl | exact Or.inr rfl) (pe_callB call_len_seq rfl z.len (by decide +kernel) (pa_cons (pv 0) pa_nil)))
  (pss_cons (ps_if (PW.pt (pw_or (pt_cmpR op_lt (pv 1) pe_int (nomark _)) (pw_or1 (pt_cmpR op_gt (pv 1) pe_int (nomark _))))) (pss_one (ps_ret pe_bl)) pss_nil)
  (pss_cons (ps_for PassesOwn.never rfl (pi_range1 rfl z.range (pa_cons (pv 1) pa_nil)) (pg_name (i := 2) nd rfl (by first | exact Or.inl rfl | exact Or.inr rfl)) (pss_one (ps_for PassesOwn.never rfl (pi_range1 rfl z.range (pa_cons (pe_callB call_len_seq rfl z.len (by decide +kernel) (pa_cons (pe_ix ix_list (pv 0) (pv 2) (fun _ _ => rfl)) pa_nil)) pa_nil)) (pg_name (i := 3) nd rfl (by first | exact Or.inl rfl | exact Or.inr rfl)) (pss_cons (ps_if (PW.pt (pw_or (pt_not (pt_chain op_le op_lt pe_int (pe_ix ix_list (pe_ix ix_list (pv 0) (pv 2) (fun _ _ => rfl)) (pv 3) (fun _ _ => rfl)) (pv 1))) (pw_or1 (pt_cmpR op_eq (pe_ix ix_list (pe_ix ix_list (pv 0) (pv 2) (fun _ _ => rfl)) (pv 3) (fun _ _ => rfl)) (pv 2) (nomark _))))) (pss_one (ps_ret pe_bl)) pss_nil)
  (pss_one (ps_if (PW.pt (pw_and (pt_cmpR op_gt (pv 3) pe_int (nomark _)) (pw_and1 (pt_cmpR op_le (pe_ix ix_list (pe_ix ix_list (pv 0) (pv 2) (fun _ _ => rfl)) (pv 3) (fun _ _ => rfl)) (pe_ix ix_list (pe_ix ix_list (pv 0) (pv 2) (fun _ _ => rfl)) (pe_op op_sub (pv 3) pe_int) (fun _ _ => rfl)) (nomark _))))) (pss_one (ps_ret pe_bl)) pss_nil))))))
  (pss_cons (ps_for PassesOwn.never rfl (pi_range1 rfl z.range (pa_cons (pv 1) pa_nil)) (pg_name (i := 2) nd rfl (by first | exact Or.inl rfl | exact Or.inr rfl)) (pss_one (ps_for PassesOwn.never rfl (pi_range1 rfl z.range (pa_cons (pv 2) pa_nil)) (pg_name (i := 4) nd rfl (by first | exact Or.inl rfl | exact Or.inr rfl)) (pss_one (ps_if (pt_cmpR op_ne (pe_op op_add (pe_callTy call_int1 rfl z.int (by decide +kernel) (pa_cons (pe_cmpR op_in_seq (pv 2) (pe_ix ix_list (pv 0) (pv 4) (fun _ _ => rfl)) (by with_unfolding_all rfl)) pa_nil)) (pe_callTy call_int1 rfl z.int (by decide +kernel) (pa_cons (pe_cmpR op_in_seq (pv 4) (pe_ix ix_list (pv 0) (pv 2) (fun _ _ => rfl)) (by with_unfolding_all rfl)) pa_nil))) pe_int (nomark _)) (pss_one (ps_ret pe_bl)) pss_nil)))))
  (pss_one (ps_ret pe_bl)))))), ?_⟩
  refine ⟨_, rfl, _, _, rfl, .inl hS, ?_⟩
  rw [hl]
  have nohall : ¬ IsHall rows → Q (.bl false) H := fun h => by
    rw [dec_false h] at q
    exact q
  refine ⟨_, rfl, _, _, rfl, rfl, _, rfl, ?_⟩
  refine ite2 (fun c => iteT (nohall fun h => ?_)) (fun c => ?_)
  · have := of_decide_eq_true c; have := h.lo; omega
  refine ⟨_, rfl, _, _, rfl, rfl, _, rfl, ?_⟩
  refine ite2 (fun d => nohall fun h => ?_) (fun d => ?_)
  · have := of_decide_eq_true d; have := h.hi; omega
  have c' := of_decide_eq_false (Bool.eq_false_iff.mpr c)
  have d' := of_decide_eq_false (Bool.eq_false_iff.mpr d)
  refine ⟨_, rfl, _, rfl, by omega, by omega, ?_⟩
  have hn : ((rows.length : Nat) : Int).toNat = rows.length := by omega
  rw [hn]
  refine for_range (lo := 0) (n := rows.length) (fun i σ H2 => ∃ v2 v3 v4 : Option V, H = H2 ∧ σ = [some (.ref p), some (.int rows.length), v2, v3, v4] ∧ ∀ j, j < i → BeatenOk (rowAt rows j) j rows.length)
    ⟨none, none, none, rfl, rfl, fun j hj => by omega⟩ ?_ ?_
  · rintro i σ H2 hi ⟨v2, v3, v4, rfl, rfl, B⟩
    obtain ⟨a1, e1, _, s1⟩ := rows_at hR (k := 0 + (i : Int)) (by omega) (by omega)
    rw [show (0 + (i : Int)).toNat = i by omega] at s1
    have hzi := hzr i
    refine ⟨_, rfl, _, rfl, _, _, _, _, rfl, rfl, hS, e1, _, _, rfl, .inl s1, _, rfl, by omega, by rw [List.length_map]; omega, ?_⟩
    have hn : (((List.map V.int (rowAt rows i)).length : Nat) : Int).toNat = (rowAt rows i).length := by rw [List.length_map]; omega
    rw [hn]
    refine for_range (lo := 0) (n := (rowAt rows i).length) (fun k σ H2 => ∃ v3 v4 : Option V, H = H2 ∧ σ = [some (.ref p), some (.int rows.length), some (.int (0 + (i : Int))), v3, v4] ∧ BeatenOk ((rowAt rows i).take k) i rows.length)
      ⟨_, _, rfl, rfl, beaten_nil _ _⟩ ?_ ?_
    · rintro k σ H2 hk ⟨v3, v4, rfl, rfl, Bk⟩
      have hy : (rowAt rows i)[k]? = some ((rowAt rows i).getD k 0) := by rw [getD_of_lt hk]; exact List.getElem?_eq_getElem hk
      have ak : atI ((rowAt rows i).map V.int) (0 + (k : Int)) = some (.int ((rowAt rows i).getD k 0)) := by
        have := at_int (ns := rowAt rows i) (k := 0 + (k : Int)) (by omega) (by omega)
        rw [show (0 + (k : Int)).toNat = k by omega] at this; exact this
      generalize hyy : (rowAt rows i).getD k 0 = y at hy ak
      have no : ¬ (0 ≤ y ∧ lastD ((rowAt rows i).take k) < y ∧ y < rows.length ∧ y ≠ i) → Q (.bl false) H := fun hno => nohall fun h => hno (by
        have hb := h.beat i hi
        have q1 := (hb.2 y (List.mem_of_getElem? hy)).1
        have := beaten_take hb (k + 1)
        rw [take_snoc hy] at this
        exact ⟨q1, (beaten_snoc.mp this).2⟩)
      -- not 0 <= hall[one][k] < many
      refine ⟨_, rfl, _, rfl, _, _, _, _, rfl, rfl, hS, e1, _, rfl, _, _, _, _, rfl, rfl, s1, ak, _, _, rfl, rfl, _, rfl, ?_⟩
      refine ite2 (fun c1 => ?_) (fun c1 => ⟨_, rfl, iteT (iteT (no fun z => ?_))⟩)
      rotate_left
      · have := of_decide_eq_false (Bool.eq_false_iff.mpr c1); omega
      have c1' := of_decide_eq_true c1
      refine ⟨_, rfl, _, _, rfl, rfl, _, rfl, ?_⟩
      refine ite2 (fun c2 => iteT (no fun z => ?_)) (fun c2 => ?_)
      · have c2' : decide (y < (rows.length : Int)) = false := by simpa using c2
        have := of_decide_eq_false c2'; omega
      have c2' : y < (rows.length : Int) := by simpa using c2
      refine ⟨_, rfl, _, rfl, _, _, _, _, rfl, rfl, hS, e1, _, rfl, _, _, _, _, rfl, rfl, s1, ak, _, rfl, rfl, _, rfl, ?_⟩
      refine ite2 (fun c3 => no fun z => ?_) (fun c3 => ?_)
      · have := of_decide_eq_true c3
        injection this with this
        exact z.2.2.2 (by omega)
      have c3' : y ≠ i := fun z => (of_decide_eq_false (Bool.eq_false_iff.mpr c3)) (by rw [z, Int.zero_add])
      -- k > 0 and hall[one][k] <= hall[one][k - 1]
      have bk : lastD ((rowAt rows i).take k) < y → BeatenOk ((rowAt rows i).take (k + 1)) i rows.length := fun hlt => by
        rw [take_snoc hy]
        exact beaten_snoc.mpr ⟨Bk, hlt, c2', c3'⟩
      refine ⟨_, rfl, _, _, rfl, rfl, _, rfl, ?_⟩
      refine ite2 (fun g => ?_) (fun g => iteF ⟨_, _, rfl, rfl, bk ?_⟩)
      · have g' := of_decide_eq_true g
        obtain ⟨k', rfl⟩ : ∃ k', k = k' + 1 := ⟨k - 1, by omega⟩
        have hx : (rowAt rows i)[k']? = some ((rowAt rows i).getD k' 0) := by rw [getD_of_lt (by omega)]; exact List.getElem?_eq_getElem (by omega)
        have ak' : atI ((rowAt rows i).map V.int) (0 + ((k' + 1 : Nat) : Int) - 1) = some (.int ((rowAt rows i).getD k' 0)) := by
          have := at_int (ns := rowAt rows i) (k := 0 + ((k' + 1 : Nat) : Int) - 1) (by omega) (by omega)
          rw [show (0 + ((k' + 1 : Nat) : Int) - 1).toNat = k' by omega] at this; exact this
        have hlast : lastD ((rowAt rows i).take (k' + 1)) = (rowAt rows i).getD k' 0 := by rw [take_snoc hx, lastD_snoc]
        refine ⟨_, rfl, _, rfl, _, _, _, _, rfl, rfl, hS, e1, _, rfl, _, _, _, _, rfl, rfl, s1, ak, _, rfl, _, rfl, _, _, _, _, rfl, rfl, hS, e1, _, rfl, _, _, rfl, rfl, _, _, _, _, rfl, rfl, s1, ak', _, _, rfl, rfl, _, rfl, ?_⟩
        refine ite2 (fun g2 => no fun z => ?_) (fun g2 => ⟨_, _, rfl, rfl, bk ?_⟩)
        · have := of_decide_eq_true g2
          rw [hlast] at z; omega
        · have := of_decide_eq_false (Bool.eq_false_iff.mpr g2)
          rw [hlast]; omega
      · have g' := of_decide_eq_false (Bool.eq_false_iff.mpr g)
        have : k = 0 := by omega
        subst this
        show (-1 : Int) < y
        omega
    · rintro σ H2 ⟨v3, v4, rfl, rfl, Bk⟩
      rw [List.take_length] at Bk
      refine ⟨_, _, _, rfl, rfl, fun j hj => ?_⟩
      by_cases h : j < i
      · exact B j h
      · have : j = i := by omega
        subst this; exact Bk
  rintro σ H2 ⟨v2, v3, v4, rfl, rfl, B⟩
  refine ⟨_, rfl, _, rfl, by omega, by omega, ?_⟩
  rw [hn]
  refine for_range (lo := 0) (n := rows.length) (fun i σ H2 => ∃ v2 v3 v4 : Option V, H = H2 ∧ σ = [some (.ref p), some (.int rows.length), v2, v3, v4] ∧ ∀ i' j' : Nat, j' < i' → i' < i → (((j' : Int) ∈ rowAt rows i') ↔ ¬ ((i' : Int) ∈ rowAt rows j')))
    ⟨_, _, _, rfl, rfl, fun i' j' _ h => by omega⟩ ?_ ?_
  · rintro i σ H2 hi ⟨v2, v3, v4, rfl, rfl, D⟩
    refine ⟨_, rfl, _, rfl, by omega, by omega, ?_⟩
    have hn : (0 + (i : Int)).toNat = i := by omega
    rw [hn]
    refine for_range (lo := 0) (n := i) (fun j σ H2 => ∃ v4 : Option V, H = H2 ∧ σ = [some (.ref p), some (.int rows.length), some (.int (0 + (i : Int))), v3, v4] ∧ ∀ j' : Nat, j' < j → (((j' : Int) ∈ rowAt rows i) ↔ ¬ ((i : Int) ∈ rowAt rows j')))
      ⟨_, rfl, rfl, fun j' h => by omega⟩ ?_ ?_
    · rintro j σ H2 hj ⟨v4, rfl, rfl, Dj⟩
      obtain ⟨a1, e1, _, s1⟩ := rows_at hR (k := 0 + (i : Int)) (by omega) (by omega)
      obtain ⟨a2, e2, _, s2⟩ := rows_at hR (k := 0 + (j : Int)) (by omega) (by omega)
      rw [show (0 + (i : Int)).toNat = i by omega] at s1
      rw [show (0 + (j : Int)).toNat = j by omega] at s2
      refine ⟨_, rfl, _, rfl, _, rfl, _, _, _, _, rfl, rfl, hS, e2, _, _, rfl, .inl s2, rfl, flat_ints _, .inr ⟨_, rfl, ?_⟩⟩
      refine ⟨_, rfl, _, rfl, _, rfl, _, _, _, _, rfl, rfl, hS, e1, _, _, rfl, .inl s1, rfl, flat_ints _, .inr ⟨_, rfl, ?_⟩⟩
      refine ⟨_, _, rfl, rfl, rfl, _, rfl, ?_⟩
      simp only [Bool.false_eq_true, if_false, inV_int, Int.zero_add]
      by_cases h1 : (j : Int) ∈ rowAt rows i <;> by_cases h2 : (i : Int) ∈ rowAt rows j
      all_goals simp only [h1, h2, decide_true, decide_false, if_true, Bool.false_eq_true, if_false]
      · refine iteT (nohall fun h => ?_)
        exact (h.one i j hj hi).mp h1 h2
      · refine iteF ⟨_, rfl, rfl, fun j' hj' => ?_⟩
        by_cases h : j' < j
        · exact Dj j' h
        · have : j' = j := by omega
          subst this; simp [h1, h2]
      · refine iteF ⟨_, rfl, rfl, fun j' hj' => ?_⟩
        by_cases h : j' < j
        · exact Dj j' h
        · have : j' = j := by omega
          subst this; simp [h1, h2]
      · refine iteT (nohall fun h => ?_)
        exact h1 ((h.one i j hj hi).mpr h2)
    · rintro σ H2 ⟨v4, rfl, rfl, Dj⟩
      refine ⟨_, _, _, rfl, rfl, fun i' j' h1 h2 => ?_⟩
      by_cases h : i' < i
      · exact D i' j' h1 h
      · have : i' = i := by omega
        subst this; exact Dj j' h1
  · rintro σ H2 ⟨v2, v3, v4, rfl, rfl, D⟩
    have : IsHall rows := ⟨by omega, by omega, B, fun i j h1 h2 => D i j h1 h2⟩
    rw [dec_true this] at q
    exact q
end
end KH
namespace KH
open PySem L2
def spSpoilt (K : PySem.W.Frag) : Sp := fun vs H Q _ => ∃ (p : Addr) (rows : List (List Int)) (way cl nb : Int), vs = [.ref p, .int way, .int cl, .int nb] ∧ RdHall K H p rows ∧ 1 ≤ rows.length ∧ rows.length ≤ 12 ∧ Lens 12 rows ∧
  ∀ (p' : Addr) (as' : List Addr) (rows' : List (List Int)) (H' : Hp), NewHall H H' p' as' rows' → rows'.length ≤ 13 → Lens 20 rows' → Q (.ref p') H'
theorem seq_nat {n : Nat} {i : Int} (h0 : 0 ≤ i) (h : i < n) : seqIndex? i n = some i.toNat := by
  have e : ixN n i = some i.toNat := by unfold ixN; rw [if_pos h0, if_pos h]
  exact (ixN_seq e).1
theorem map_eraseI (ns : List Int) (k : Nat) : (ns.map V.int).eraseIdx k = (ns.eraseIdx k).map V.int := by
  induction ns generalizing k with
  | nil => rfl
  | cons x r ih => cases k with
    | zero => rfl
    | succ k => show V.int x :: (r.map V.int).eraseIdx k = V.int x :: (r.eraseIdx k).map V.int; rw [ih]
theorem map_eraseR (ns : List Addr) (k : Nat) : (ns.map V.ref).eraseIdx k = (ns.eraseIdx k).map V.ref := by
  induction ns generalizing k with
  | nil => rfl
  | cons x r ih => cases k with
    | zero => rfl
    | succ k => show V.ref x :: (r.map V.ref).eraseIdx k = V.ref x :: (r.eraseIdx k).map V.ref; rw [ih]
theorem map_insI (ns : List Int) (k : Nat) (x : Int) : (ns.map V.int).take k ++ V.int x :: (ns.map V.int).drop k = (ns.take k ++ x :: ns.drop k).map V.int := by simp [List.map_take, List.map_drop]
theorem map_insR (ns : List Addr) (k : Nat) (x : Addr) : (ns.map V.ref).take k ++ V.ref x :: (ns.map V.ref).drop k = (ns.take k ++ x :: ns.drop k).map V.ref := by simp [List.map_take, List.map_drop]
theorem len_ins {α : Type} (l : List α) (k : Nat) (x : α) : (l.take k ++ x :: l.drop k).length = l.length + 1 := by simp; omega
section
variable {P : Program} {w : World} {K : PySem.W.Frag} {mg : Str → Option Value} {base : Heap} {f : Addr} {fd : FuncData}
abbrev sg (p : Addr) (way cl nb : Int) (F : Addr) (n : Nat) (ar : Addr) : St := [some (.ref p), some (.int way), some (.int cl), some (.int nb), some (.ref F), some (.int n), some (.int (cl % (n : Int))), some (.ref ar)]
def MidS (H : Hp) (F : Addr) (as : List Addr) (n : Nat) (σ0 : St) (c : Nat) : St → Hp → Prop := fun σ' H' => ∃ rows', σ' = σ0 ∧ NewHall H H' F as rows' ∧ rows'.length = n ∧ Lens (12 + c) rows'
def MidT (H : Hp) (F : Addr) (n : Nat) (σ0 : St) (c lo : Nat) : St → Hp → Prop := fun σ' H' => ∃ as' rows', σ' = σ0 ∧ NewHall H H' F as' rows' ∧ lo ≤ rows'.length ∧ rows'.length ≤ n ∧ Lens c rows'
theorem empty_comp {H : Hp} {m : Nat} {σ0 : St} {Q : VK} (hm : m ≤ 100) (h0 : σ0[0]? = some none)
    (q : ∀ (p : Addr) (as : List Addr) (H' : Hp), NewHall H H' p as (List.replicate m []) → Q (.ref p) H') : LCw σ0 (gName 0) tTrue (tLst tNil) Q (Itr 0 m) H := by
  refine lc_range (lo := 0) (n := m) (fun D i acc H2 => ∃ as, acc = as.map V.ref ∧ i ≤ m ∧ NewHall H H2 D as (List.replicate i [])) (fun D hD => ⟨[], rfl, Nat.zero_le _, NewHall.start hD⟩) ?_ ?_
  · rintro D i acc H2 hi ⟨as, rfl, _, N⟩
    have hl := N.at_.len
    rw [List.length_replicate] at hl
    refine ⟨CapKeep.set h0, tt_intro ⟨(by decide), fun b hb => ⟨?_, ?_, ?_⟩⟩⟩
    · rw [upd_ne (ne_of_none N.at_.top hb)]; exact N.at_.top
    · rw [List.length_map]; exact smallL (by omega)
    · refine ⟨as ++ [b], by simp, hi, ?_⟩
      rw [List.replicate_succ']
      exact N.snoc' (r := []) (same_new hb _) upd_same hb
  · rintro D acc H2 ⟨as, rfl, _, N⟩
    exact q D as H2 N
theorem sc_spoilt : FnScope ["hall", "way", "cell", "number", "found", "many", "at", "row"] ["hall", "way", "cell", "number"] (defScope s_law_spoilt) := ⟨rfl, rfl, rfl, by decide +kernel, rfl, by decide +kernel, by decide +kernel⟩
theorem ok_spoilt (F : Fun K "_law_spoilt" "_law_spoilt" s_law_spoilt f fd) (z : Blt mg) : FnOk P w K mg base CX0 1 f fd ["hall", "way", "cell", "number"] (spSpoilt K) := by
  refine F.ok sc_spoilt (fun vs H Q E h => ?_) (fun cdv A outer s H vs Q E hr h => ?_)
  · obtain ⟨p, rows, way, cl, nb, rfl, _⟩ := h
    rfl
  obtain ⟨p, rows, way, cl, nb, rfl, ⟨as0, hS, hR⟩, hn1, hn12, hL, q⟩ := h
  have nd := sc_spoilt.nd
  have hl : (as0.map V.ref).length = rows.length := by rw [List.length_map]; exact hR.length
  refine ⟨_, (pss_cons (ps_setLC (i := 4) nd rfl (by first | exact Or.inl rfl | exact Or.inr rfl) rfl (cscope (N' := ["row"]) (caps := [none])) (pi_list (pv 0)) (fun s H fp => ⟨(pg_name (i := 0) (show (["row"] : List Str).Nodup by decide +kernel) rfl (by first | exact Or.inl rfl | exact Or.inr rfl)), pif_nil, (pe_callTy (call_list_ofK (K := K) rfl) rfl z.list (by decide +kernel) (pa_cons (pv 0) pa_nil))⟩))
  (pss_cons (ps_set (i := 5) nd rfl (by first | exact Or.inl rfl | exact Or.inr rfl) (pe_callB call_len_seq rfl z.len (by decide +kernel) (pa_cons (pv 0) pa_nil)))
  (pss_cons (ps_set (i := 6) nd rfl (by first | exact Or.inl rfl | exact Or.inr rfl) (pe_op op_mod (pv 2) (pv 5)))
  (pss_cons (ps_set (i := 7) nd rfl (by first | exact Or.inl rfl | exact Or.inr rfl) (pe_ix ix_list (pv 4) (pv 6) (fun _ _ => rfl)))
  (pss_cons (ps_join (ps_if (PW.pt (pw_and (pt_cmpR op_eq (pv 1) pe_int (nomark _)) (pw_and1 (pt_cmpR op_gt (pe_callB call_len_seq rfl z.len (by decide +kernel) (pa_cons (pv 7) pa_nil)) pe_int (nomark _))))) (pss_one (ps_expr (pe_bm PySem.F.plainAttrs_list PySem.F.slot_list_pop PySem.F.type_list_pop mt_popAt (pv 7) (pa_cons (pe_op op_mod (pv 3) (pe_callB call_len_seq rfl z.len (by decide +kernel) (pa_cons (pv 7) pa_nil))) pa_nil)))) pss_nil))
  (pss_cons (ps_join (ps_if (pt_cmpR op_eq (pv 1) pe_int (nomark _)) (pss_one (ps_expr (pe_bm PySem.F.plainAttrs_list PySem.F.slot_list_insert PySem.F.type_list_insert mt_insert (pv 7) (pa_cons (pe_op op_mod (pv 3) (pe_op op_add (pe_callB call_len_seq rfl z.len (by decide +kernel) (pa_cons (pv 7) pa_nil)) pe_int)) (pa_cons (pe_op op_mod (pe_op op_fdiv (pv 2) pe_int) (pv 5)) pa_nil))))) pss_nil))
  (pss_cons (ps_join (ps_if (PW.pt (pw_and (pt_cmpR op_eq (pv 1) pe_int (nomark _)) (pw_and1 (pt_cmpR op_gt (pe_callB call_len_seq rfl z.len (by decide +kernel) (pa_cons (pv 7) pa_nil)) pe_int (nomark _))))) (pss_one (ps_expr (pe_bm PySem.F.plainAttrs_list PySem.F.slot_list_insert PySem.F.type_list_insert mt_insert (pv 7) (pa_cons (pe_op op_mod (pv 3) (pe_callB call_len_seq rfl z.len (by decide +kernel) (pa_cons (pv 7) pa_nil))) (pa_cons (pe_ix ix_list (pv 7) (pe_op op_mod (pv 3) (pe_callB call_len_seq rfl z.len (by decide +kernel) (pa_cons (pv 7) pa_nil))) (fun _ _ => rfl)) pa_nil))))) pss_nil))
  (pss_cons (ps_join (ps_if (pt_cmpR op_eq (pv 1) pe_int (nomark _)) (pss_one (ps_expr (pe_bm0 PySem.F.plainAttrs_list PySem.F.slot_list_reverse PySem.F.type_list_reverse mt_reverse (pv 7)))) pss_nil))
  (pss_cons (ps_join (ps_if (pt_cmpR op_eq (pv 1) pe_int (nomark _)) (pss_one (ps_expr (pe_bm PySem.F.plainAttrs_list PySem.F.slot_list_insert PySem.F.type_list_insert mt_insert (pv 7) (pa_cons (pe_op op_mod (pv 3) (pe_op op_add (pe_callB call_len_seq rfl z.len (by decide +kernel) (pa_cons (pv 7) pa_nil)) pe_int)) (pa_cons (pe_ix ix_list (pe_lst (pa_cons (pe_un un_neg pe_int) (pa_cons (pv 5) (pa_cons (pv 6) (pa_cons (pe_op op_add (pv 5) pe_int) pa_nil))))) (pe_op op_mod (pe_op op_fdiv (pv 2) pe_int) pe_int) (fun _ _ => rfl)) pa_nil))))) pss_nil))
  (pss_cons (ps_join (ps_if (pt_cmpR op_eq (pv 1) pe_int (nomark _)) (pss_one (ps_expr (pe_bm PySem.F.plainAttrs_list PySem.F.slot_list_pop PySem.F.type_list_pop mt_popAt (pv 4) (pa_cons (pv 6) pa_nil)))) pss_nil))
  (pss_cons (ps_join (ps_if (pt_cmpR op_eq (pv 1) pe_int (nomark _)) (pss_one (ps_expr (pe_bm PySem.F.plainAttrs_list PySem.F.slot_list_insert PySem.F.type_list_insert mt_insert (pv 4) (pa_cons (pv 6) (pa_cons (pe_lst pa_nil) pa_nil))))) pss_nil))
  (pss_cons (ps_if (pt_cmpR op_eq (pv 1) pe_int (nomark _)) (pss_one (ps_ret (pe_lc rfl (cscope (N' := ["player"]) (caps := [none])) (pi_range1 rfl z.range (pa_cons (pe_op op_mul pe_int (pe_op op_mod (pe_op op_fdiv (pv 2) pe_int) pe_int)) pa_nil)) (fun s H fp => ⟨(pg_name (i := 0) (show (["player"] : List Str).Nodup by decide +kernel) rfl (by first | exact Or.inl rfl | exact Or.inr rfl)), pif_nil, (pe_lst pa_nil)⟩)))) pss_nil)
  (pss_cons (ps_if (pt_cmpR op_eq (pv 1) pe_int (nomark _)) (pss_one (ps_ret (pe_lc rfl (cscope (N' := ["one"]) (caps := [none])) (pi_range1 rfl z.range (pa_cons pe_int pa_nil)) (fun s H fp => ⟨(pg_name (i := 0) (show (["one"] : List Str).Nodup by decide +kernel) rfl (by first | exact Or.inl rfl | exact Or.inr rfl)), pif_nil, (pe_lc rfl (cscope (N' := ["other", "one"]) (caps := [none, some 0])) (pi_range1 rfl z.range (pa_cons pe_int pa_nil)) (fun s H fp => ⟨(pg_name (i := 0) (show (["other", "one"] : List Str).Nodup by decide +kernel) rfl (by first | exact Or.inl rfl | exact Or.inr rfl)), (pif_one (pt_cmpR op_gt (pv 0) (pv 1) (nomark _))), (pv 0)⟩))⟩)))) pss_nil)
  (pss_one (ps_ret (pv 4)))))))))))))))), ?_⟩
  refine ⟨_, rfl, _, rfl, ⟨_, hS⟩, copy_comp hS hR (by omega) rfl (fun F as H1 N1 => ?_)⟩
  refine ⟨_, rfl, _, _, rfl, .inl (N1.same.seq hS), ?_⟩
  rw [hl]
  have npos : (0 : Int) < (rows.length : Int) := by omega
  have at1 := Int.emod_lt_of_pos cl npos
  have at0 := Int.emod_nonneg cl (Int.ne_of_gt npos)
  have al := N1.at_.len
  obtain ⟨ar, har⟩ : ∃ ar, as[(cl % (rows.length : Int)).toNat]? = some ar := ⟨_, List.getElem?_eq_getElem (by omega)⟩
  refine ⟨_, rfl, _, rfl, _, _, rfl, rfl, npos, ?_⟩
  refine ⟨_, rfl, _, rfl, _, _, _, _, rfl, rfl, N1.at_.sq, at_ref at0 har, ?_⟩
  -- the state between the ifs
  have rowOf : ∀ {H' : Hp} {rows' : List (List Int)}, NewHall H H' F as rows' → H' ar = some (.lst ((rowAt rows' (cl % (rows.length : Int)).toNat).map V.int)) := fun {H' rows'} N => by
    obtain ⟨r, e1, e2⟩ := paired_getA N.at_.row har
    rw [getElem_rowAt e1]; exact e2
  have put : ∀ {H' : Hp} {rows' : List (List Int)} {c : Nat} {r : List Int}, NewHall H H' F as rows' → rows'.length = rows.length → Lens (12 + c) rows' → r.length ≤ 12 + (c + 1) → MidS H F as rows.length (sg p way cl nb F rows.length ar) (c + 1) (sg p way cl nb F rows.length ar) (upd H' ar (.lst (r.map V.int))) := fun {H' rows' c r} N hlen hLc hr =>
    ⟨_, rfl, N.put har, by rw [List.length_set]; exact hlen, (hLc.mono (by omega)).set hr _⟩
  have stay : ∀ {H' : Hp} {rows' : List (List Int)} {c : Nat}, NewHall H H' F as rows' → rows'.length = rows.length → Lens (12 + c) rows' → MidS H F as rows.length (sg p way cl nb F rows.length ar) (c + 1) (sg p way cl nb F rows.length ar) H' := fun {H' rows' c} N hlen hLc => ⟨_, rfl, N, hlen, hLc.mono (by omega)⟩
  -- way 1: pop
  refine ⟨MidS H F as rows.length (sg p way cl nb F rows.length ar) 1, ?_, ?_⟩
  · have hrow := rowOf N1
    have hrl := hL.at_ (cl % (rows.length : Int)).toNat
    refine ⟨_, rfl, rfl, _, rfl, ite2 (fun _ => ?_) (fun _ => iteF (stay (c := 0) N1 rfl hL))⟩
    refine ⟨_, rfl, _, _, rfl, .inl (SqL.of hrow), _, _, rfl, rfl, _, rfl, ite2 (fun c => ?_) (fun _ => stay (c := 0) N1 rfl hL)⟩
    have c' := of_decide_eq_true c
    have mlt := Int.emod_lt_of_pos nb c'
    have mge := Int.emod_nonneg nb (Int.ne_of_gt c')
    have hml := List.length_map (f := V.int) (as := rowAt rows (cl % (rows.length : Int)).toNat)
    refine ⟨_, rfl, .inl ⟨rfl, _, SqL.of hrow⟩, _, rfl, _, rfl, _, _, rfl, .inl (SqL.of hrow), _, _, rfl, rfl, c', _, _, _, _, _, rfl, rfl, hrow, by omega, by omega, seq_nat mge mlt, List.getElem?_eq_getElem (by omega), ?_⟩
    rw [map_eraseI]
    exact put (c := 0) N1 rfl hL (Nat.le_trans (len_erase _ _) (by omega))
  rintro σ' H2 ⟨rows2, rfl, N2, l2, L2⟩
  -- way 2: insert
  refine ⟨MidS H F as rows.length (sg p way cl nb F rows.length ar) 2, ?_, ?_⟩
  · have hrow := rowOf N2
    have hrl := L2.at_ (cl % (rows.length : Int)).toNat
    refine ⟨_, rfl, rfl, _, rfl, ite2 (fun _ => ?_) (fun _ => stay (c := 1) N2 l2 L2)⟩
    have pos : (0 : Int) < (((rowAt rows2 (cl % (rows.length : Int)).toNat).map V.int).length : Int) + 1 := by omega
    have mlt := Int.emod_lt_of_pos nb pos
    have mge := Int.emod_nonneg nb (Int.ne_of_gt pos)
    refine ⟨_, rfl, .inl ⟨rfl, _, SqL.of hrow⟩, _, rfl, _, rfl, _, _, rfl, .inl (SqL.of hrow), _, _, rfl, rfl, _, _, rfl, rfl, pos, _, rfl, _, _, rfl, rfl, ⟨by decide, by decide⟩, _, rfl, _, _, rfl, rfl, npos, _, _, _, _, rfl, rfl, hrow, mge, by omega, by rw [List.length_map]; exact smallL (by omega), ?_⟩
    rw [map_insI]
    exact put (c := 1) N2 l2 L2 (by rw [len_ins]; omega)
  rintro σ' H3 ⟨rows3, rfl, N3, l3, L3⟩
  -- way 3: insert once more
  refine ⟨MidS H F as rows.length (sg p way cl nb F rows.length ar) 3, ?_, ?_⟩
  · have hrow := rowOf N3
    have hrl := L3.at_ (cl % (rows.length : Int)).toNat
    refine ⟨_, rfl, rfl, _, rfl, ite2 (fun _ => ?_) (fun _ => iteF (stay (c := 2) N3 l3 L3))⟩
    refine ⟨_, rfl, _, _, rfl, .inl (SqL.of hrow), _, _, rfl, rfl, _, rfl, ite2 (fun c => ?_) (fun _ => stay (c := 2) N3 l3 L3)⟩
    have c' := of_decide_eq_true c
    have mlt := Int.emod_lt_of_pos nb c'
    have mge := Int.emod_nonneg nb (Int.ne_of_gt c')
    have hat := at_int (ns := rowAt rows3 (cl % (rows.length : Int)).toNat) (k := nb % (((rowAt rows3 (cl % (rows.length : Int)).toNat).map V.int).length : Int)) mge (by rw [List.length_map] at mlt ⊢; exact mlt)
    refine ⟨_, rfl, .inl ⟨rfl, _, SqL.of hrow⟩, _, rfl, _, rfl, _, _, rfl, .inl (SqL.of hrow), _, _, rfl, rfl, c', _, rfl, _, rfl, _, rfl, _, _, rfl, .inl (SqL.of hrow), _, _, rfl, rfl, c', _, _, _, _, rfl, rfl, SqL.of hrow, hat, _, _, _, _, rfl, rfl, hrow, mge, by omega, by rw [List.length_map]; exact smallL (by omega), ?_⟩
    rw [map_insI]
    exact put (c := 2) N3 l3 L3 (by rw [len_ins]; omega)
  rintro σ' H4 ⟨rows4, rfl, N4, l4, L4⟩
  -- way 4: reverse
  refine ⟨MidS H F as rows.length (sg p way cl nb F rows.length ar) 4, ?_, ?_⟩
  · have hrow := rowOf N4
    have hrl := L4.at_ (cl % (rows.length : Int)).toNat
    refine ⟨_, rfl, rfl, _, rfl, ite2 (fun _ => ?_) (fun _ => stay (c := 3) N4 l4 L4)⟩
    refine ⟨_, rfl, .inl ⟨rfl, _, SqL.of hrow⟩, _, _, rfl, rfl, hrow, ?_⟩
    rw [← List.map_reverse]
    exact put (c := 3) N4 l4 L4 (by rw [List.length_reverse]; omega)
  rintro σ' H5 ⟨rows5, rfl, N5, l5, L5⟩
  -- way 5: a number that is none
  refine ⟨MidS H F as rows.length (sg p way cl nb F rows.length ar) 5, ?_, ?_⟩
  · have hrow := rowOf N5
    have hrl := L5.at_ (cl % (rows.length : Int)).toNat
    refine ⟨_, rfl, rfl, _, rfl, ite2 (fun _ => ?_) (fun _ => stay (c := 4) N5 l5 L5)⟩
    have pos : (0 : Int) < (((rowAt rows5 (cl % (rows.length : Int)).toNat).map V.int).length : Int) + 1 := by omega
    have mlt := Int.emod_lt_of_pos nb pos
    have mge := Int.emod_nonneg nb (Int.ne_of_gt pos)
    refine ⟨_, rfl, .inl ⟨rfl, _, SqL.of hrow⟩, _, rfl, _, rfl, _, _, rfl, .inl (SqL.of hrow), _, _, rfl, rfl, _, _, rfl, rfl, pos, _, rfl, _, rfl, _, rfl, _, rfl, _, _, rfl, rfl, (by show 4 ≤ sizeLine; decide), fun L hL' => ?_⟩
    have s6 := same_new hL' (.lst [.int (-1), .int (rows.length : Int), .int (cl % (rows.length : Int)), .int ((rows.length : Int) + 5)])
    have N6 := N5.grow s6
    have hrow6 := rowOf N6
    have k0 := Int.emod_nonneg (cl / 16) (show (4 : Int) ≠ 0 by decide)
    have k1 := Int.emod_lt_of_pos (cl / 16) (show (0 : Int) < 4 by decide)
    have hat := at_int (ns := [-1, (rows.length : Int), cl % (rows.length : Int), (rows.length : Int) + 5]) (k := cl / 16 % 4) k0 (by show _ < (4 : Int); exact k1)
    refine ⟨_, rfl, _, _, rfl, rfl, ⟨by decide, by decide⟩, _, _, rfl, rfl, (by show (0 : Int) < _; decide), _, _, _, _, rfl, rfl, SqL.of upd_same, hat, _, _, _, _, rfl, rfl, hrow6, mge, by omega, by rw [List.length_map]; exact smallL (by omega), ?_⟩
    rw [map_insI]
    exact put (c := 4) N6 l5 L5 (by rw [len_ins]; omega)
  rintro σ' H6 ⟨rows6, rfl, N6, l6, L6⟩
  -- way 6: a player less
  refine ⟨MidT H F rows.length (sg p way cl nb F rows.length ar) 17 (rows.length - 1), ?_, ?_⟩
  · refine ⟨_, rfl, rfl, _, rfl, ite2 (fun _ => ?_) (fun _ => ⟨_, _, rfl, N6, by omega, by omega, L6⟩)⟩
    have al6 := N6.at_.len
    refine ⟨_, rfl, .inl ⟨rfl, _, N6.at_.sq⟩, _, rfl, _, _, _, _, _, rfl, rfl, N6.at_.top, by omega, by omega, seq_nat at0 (by rw [List.length_map]; omega), List.getElem?_eq_getElem (by rw [List.length_map]; omega), ?_⟩
    rw [map_eraseR]
    have := List.length_eraseIdx_of_lt (l := rows6) (i := (cl % (rows.length : Int)).toNat) (by omega)
    exact ⟨_, _, rfl, N6.erase _, by omega, by omega, L6.erase _⟩
  rintro σ' H7 ⟨as7, rows7, rfl, N7, lo7, hi7, L7⟩
  -- way 7: a player more
  refine ⟨MidT H F (rows.length + 1) (sg p way cl nb F rows.length ar) 17 0, ?_, ?_⟩
  · refine ⟨_, rfl, rfl, _, rfl, ite2 (fun _ => ?_) (fun _ => ⟨_, _, rfl, N7, by omega, by omega, L7⟩)⟩
    have al7 := N7.at_.len
    refine ⟨_, rfl, .inl ⟨rfl, _, N7.at_.sq⟩, _, rfl, (by decide), fun L hL' => ?_⟩
    have s8 := same_new hL' (.lst [])
    refine ⟨_, _, _, _, rfl, rfl, s8 _ _ N7.at_.top, at0, by rw [List.length_map]; omega, by rw [List.length_map]; exact smallL (by omega), ?_⟩
    rw [map_insR]
    exact ⟨_, _, rfl, N7.insert (r := []) s8 upd_same hL' _, by omega, by rw [len_ins]; omega, L7.insert (Nat.zero_le _) _⟩
  rintro σ' H8 ⟨as8, rows8, rfl, N8, lo8, hi8, L8⟩
  -- way 8: no players, or thirteen
  refine ⟨_, rfl, rfl, _, rfl, ite2 (fun _ => ?_) (fun _ => ?_)⟩
  · have k0 := Int.emod_nonneg (cl / 16) (show (2 : Int) ≠ 0 by decide)
    have k1 := Int.emod_lt_of_pos (cl / 16) (show (0 : Int) < 2 by decide)
    refine ⟨_, rfl, _, _, rfl, rfl, ⟨by decide, by decide⟩, _, _, rfl, rfl, (by show (0 : Int) < _; decide), _, _, rfl, rfl, .inl ⟨by decide, by decide⟩, _, rfl, by omega, by omega, ?_⟩
    refine empty_comp (by omega) rfl fun p' as' H' N' => ?_
    exact q p' as' _ H' (N'.base N8.same) (by rw [List.length_replicate]; omega) fun r hr => by rw [(List.mem_replicate.mp hr).2]; exact Nat.zero_le _
  -- way 9: thirteen who won in their order
  refine ⟨_, rfl, rfl, _, rfl, ite2 (fun _ => ?_) (fun _ => ?_)⟩
  · refine ⟨_, rfl, by decide, by decide, ?_⟩
    refine lc_range (lo := 0) (n := 13) (fun D i acc H9 => ∃ bs rows', acc = bs.map V.ref ∧ rows'.length = i ∧ i ≤ 13 ∧ Lens 13 rows' ∧ NewHall H8 H9 D bs rows') (fun D hD => ⟨[], [], rfl, rfl, Nat.zero_le _, (fun _ h => by cases h), NewHall.start hD⟩) ?_ ?_
    · rintro D i acc H9 hi ⟨bs, rows', rfl, l9, _, L9, N9⟩
      refine ⟨CapKeep.set rfl, tt_intro ⟨_, rfl, by decide, by decide, ?_⟩⟩
      refine lc_range (lo := 0) (n := 13) (fun E j acc H10 => ∃ ns : List Int, acc = ns.map V.int ∧ ns.length ≤ j ∧ H9 E = none ∧ Same H9 H10 ∧ H10 E = some (.lst (ns.map V.int))) (fun E hE => ⟨[], rfl, Nat.le_refl _, hE, same_new hE _, upd_same⟩) ?_ ?_
      · rintro E j acc H10 hj ⟨ns, rfl, hlen, hE, s10, h10⟩
        refine ⟨CapKeep.set rfl, _, rfl, _, rfl, _, _, rfl, rfl, _, rfl, ite2 (fun _ => ⟨_, rfl, h10, ?_, ?_⟩) (fun _ => ⟨ns, rfl, by omega, hE, s10, h10⟩)⟩
        · rw [List.length_map]; exact smallL (by omega)
        · refine ⟨ns ++ [0 + (j : Int)], by simp, by rw [List.length_append, List.length_singleton]; omega, hE, fun b o e => ?_, by rw [upd_same]; simp⟩
          rw [upd_ne (fun z => by rw [z, hE] at e; cases e)]; exact s10 b o e
      · rintro E acc H10 ⟨ns, rfl, hlen, hE, s10, h10⟩
        refine ⟨s10 _ _ N9.at_.top, ?_, ?_⟩
        · have := N9.at_.len
          rw [List.length_map]; exact smallL (by omega)
        · exact ⟨bs ++ [E], rows' ++ [ns], by simp, by rw [List.length_append, List.length_singleton]; omega, hi, L9.snoc (by omega), N9.snoc' s10 h10 hE⟩
    · rintro D acc H9 ⟨bs, rows', rfl, l9, _, L9, N9⟩
      exact q D bs rows' H9 (N9.base N8.same) (by omega) (L9.mono (by omega))
  exact ⟨_, rfl, q F as8 rows8 H8 N8 (by omega) (L8.mono (by omega))⟩
end
end KH
namespace KH
open PySem L2
section
variable {P : Program} {w : World} {K : PySem.W.Frag} {mg : Str → Option Value} {base : Heap} {f : Addr} {fd : FuncData}
theorem sc_copy : FnScope ["hall"] ["hall"] (defScope s_law_copy) := ⟨rfl, rfl, rfl, by decide +kernel, rfl, by decide +kernel, by decide +kernel⟩
theorem ok_copy (F : Fun K "_law_copy" "_law_copy" s_law_copy f fd) (z : Blt mg) : FnOk P w K mg base CX0 1 f fd ["hall"] (spCopy K) := by
  refine F.ok sc_copy (fun vs H Q E h => ?_) (fun cdv A outer s H vs Q E hr h => ?_)
  · obtain ⟨p, rows, rfl, _⟩ := h
    rfl
  obtain ⟨p, rows, rfl, ⟨as, hS, hR⟩, hz, q⟩ := h
  refine ⟨_, (pss_one (ps_ret (pe_lc rfl (cscope (N' := ["row"]) (caps := [none])) (pi_list (pv 0)) (fun s H fp => ⟨(pg_name (i := 0) (show (["row"] : List Str).Nodup by decide +kernel) rfl (by first | exact Or.inl rfl | exact Or.inr rfl)), pif_nil, (pe_callTy (call_list_ofK (K := K) rfl) rfl z.list (by decide +kernel) (pa_cons (pv 0) pa_nil))⟩)))), ?_⟩
  exact ⟨_, rfl, _, rfl, ⟨_, hS⟩, copy_comp hS hR hz rfl q⟩
end
end KH
namespace KH
open PySem L2
def spLaw (K : PySem.W.Frag) : Sp := fun vs H Q _ => ∃ (a : Addr) (ns : List Int), vs = [.ref a] ∧ SqL K H a (ns.map V.int) ∧ ns.length ≤ 63 ∧ ∀ H', Q (.bl true) H'
section
variable {P : Program} {w : World} {K : PySem.W.Frag} {mg : Str → Option Value} {base : Heap} {f : Addr} {fd : FuncData}
theorem sc_law : FnScope ["script", "other", "hall", "number", "way"] ["script"] (defScope s_law) := ⟨rfl, rfl, rfl, by decide +kernel, rfl, by decide +kernel, by decide +kernel⟩
set_option maxHeartbeats 0 in
theorem ok_law (F : Fun K "law" "law" s_law f fd) (z : Blt mg) (C_law_cell : Has P w K mg base 1 "_law_cell" ["script", "k"] (spCell K)) (C_law_hall : Has P w K mg base 3 "_law_hall" ["script", "k", "many"] (spHall K)) (C_law_copy : Has P w K mg base 1 "_law_copy" ["hall"] (spCopy K))
    (C_law_good : Has P w K mg base 1 "_law_good" ["hall"] (spGood K)) (C_law_spoilt : Has P w K mg base 1 "_law_spoilt" ["hall", "way", "cell", "number"] (spSpoilt K)) (C_law_met : Has P w K mg base 7 "_law_met" ["hall", "other", "way", "number"] (spMetL K)) : FnOk P w K mg base CX0 8 f fd ["script"] (spLaw K) := by
  refine F.ok sc_law (fun vs H Q E h => ?_) (fun cdv A outer s H vs Q E hr h => ?_)
  · obtain ⟨a, ns, rfl, _⟩ := h
    rfl
  obtain ⟨a, ns, rfl, hS, h63, q⟩ := h
  have nd := sc_law.nd
  refine ⟨_, (pss_cons (ps_set (i := 1) nd rfl (by first | exact Or.inl rfl | exact Or.inr rfl) (pe_callH C_law_hall (hr.mono (by decide)) rfl (pa_cons (pv 0) (pa_cons pe_int (pa_cons (pe_op op_add pe_int (pe_op op_mod (pe_callH C_law_cell (hr.mono (by decide)) rfl (pa_cons (pv 0) (pa_cons pe_int pa_nil))) pe_int)) pa_nil)))))
  (pss_cons (ps_set (i := 2) nd rfl (by first | exact Or.inl rfl | exact Or.inr rfl) (pe_callH C_law_spoilt (hr.mono (by decide)) rfl (pa_cons (pv 1) (pa_cons (pe_op op_add pe_int (pe_op op_mod (pe_callH C_law_cell (hr.mono (by decide)) rfl (pa_cons (pv 0) (pa_cons pe_int pa_nil))) pe_int)) (pa_cons (pe_callH C_law_cell (hr.mono (by decide)) rfl (pa_cons (pv 0) (pa_cons pe_int pa_nil))) (pa_cons (pe_callH C_law_cell (hr.mono (by decide)) rfl (pa_cons (pv 0) (pa_cons pe_int pa_nil))) pa_nil))))))
  (pss_cons (ps_join (ps_if (pt_val (pe_callH C_law_good (hr.mono (by decide)) rfl (pa_cons (pv 2) pa_nil))) (pss_one (ps_set (i := 2) nd rfl (by first | exact Or.inl rfl | exact Or.inr rfl) (pe_lst pa_nil))) pss_nil))
  (pss_cons (ps_set (i := 3) nd rfl (by first | exact Or.inl rfl | exact Or.inr rfl) (pe_ix ix_list (pe_lst (pa_cons (pe_un un_neg pe_int) (pa_cons pe_int (pa_cons pe_int pa_nil)))) (pe_op op_mod (pe_callH C_law_cell (hr.mono (by decide)) rfl (pa_cons (pv 0) (pa_cons pe_int pa_nil))) pe_int) (fun _ _ => rfl)))
  (pss_cons (ps_for PassesOwn.never rfl (pi_range1 rfl z.range (pa_cons pe_int pa_nil)) (pg_name (i := 4) nd rfl (by first | exact Or.inl rfl | exact Or.inr rfl)) (pss_one (ps_if (pt_cmpR op_ne (pe_callH C_law_met (hr.mono (by decide)) rfl (pa_cons (pe_callH C_law_copy (hr.mono (by decide)) rfl (pa_cons (pv 2) pa_nil)) (pa_cons (pe_callH C_law_copy (hr.mono (by decide)) rfl (pa_cons (pv 1) pa_nil)) (pa_cons (pv 4) (pa_cons (pv 3) pa_nil))))) pe_int (nomark _)) (pss_one (ps_ret pe_bl)) pss_nil)))
  (pss_one (ps_ret pe_bl))))))), ?_⟩
  have c1 := Int.emod_lt_of_pos (cell ns 0) (show (0 : Int) < 12 by decide)
  have c0 := Int.emod_nonneg (cell ns 0) (show (12 : Int) ≠ 0 by decide)
  refine ⟨_, rfl, _, rfl, a, ns, _, rfl, hS, by decide, by decide, _, _, rfl, rfl, (by show (0 : Int) < _; decide), _, _, rfl, rfl, a, ns, _, _, rfl, hS, by decide, by decide, by omega, by omega, fun o os orows H1 N1 IO hlen => ?_⟩
  have hS1 := N1.same.seq hS
  have h12 := IO.hi
  -- a list that is none
  refine ⟨_, rfl, _, rfl, a, ns, _, rfl, hS1, by decide, by decide, _, _, rfl, rfl, (by show (0 : Int) < _; decide), _, _, rfl, rfl, _, rfl, a, ns, _, rfl, hS1, by decide, by decide, _, rfl, a, ns, _, rfl, hS1, by decide, by decide, o, orows, _, _, _, rfl, N1.at_.rd, IO.lo, h12, IO.lens, fun p as rows H2 N2 lz ll => ?_⟩
  have O2 := N1.at_.same N2.same
  have S2 := N1.same.trans N2.same
  refine ⟨fun σ' H' => ∃ (p' : Addr) (rows' : List (List Int)), σ' = [some (.ref a), some (.ref o), some (.ref p'), none, none] ∧ Same H2 H' ∧ RdHall K H' p' rows' ∧ rows'.length ≤ 13 ∧ ¬ IsHall rows', ?_, ?_⟩
  · refine ⟨_, rfl, p, rows, rfl, N2.at_.rd, by omega, fun i => by have := ll.at_ i; omega, _, rfl, ?_⟩
    by_cases IH : IsHall rows
    · rw [dec_true IH]
      refine iteT ⟨(by decide), fun L hL => ⟨L, [], rfl, same_new hL _, ⟨[], SqL.of upd_same, .nil⟩, by decide, fun z => by have := z.lo; simp at this⟩⟩
    · rw [dec_false IH]
      exact iteF ⟨p, rows, rfl, Same.refl _, N2.at_.rd, lz, IH⟩
  rintro σ' H3 ⟨p', rows', rfl, s3, R3, z3, no⟩
  have O3 := O2.same s3
  -- number
  refine ⟨_, rfl, small (by simp), fun L hL => ?_⟩
  have s4 := same_new hL (.lst [.int (-1), .int 0, .int 99])
  have i0 := Int.emod_nonneg (cell ns 7) (show (3 : Int) ≠ 0 by decide)
  have i1 := Int.emod_lt_of_pos (cell ns 7) (show (0 : Int) < 3 by decide)
  have pick : ∀ k : Int, 0 ≤ k → k < 3 → ∃ nb : Int, atI [V.int (-1), V.int 0, V.int 99] k = some (.int nb) := fun k k0 k1 => by
    have : k = 0 ∨ k = 1 ∨ k = 2 := by omega
    rcases this with rfl | rfl | rfl
    · exact ⟨-1, rfl⟩
    · exact ⟨0, rfl⟩
    · exact ⟨99, rfl⟩
  obtain ⟨nb, an⟩ := pick _ i0 i1
  refine ⟨_, rfl, a, ns, _, rfl, ((S2.trans s3).trans s4).seq hS, by decide, by decide, _, _, rfl, rfl, (by show (0 : Int) < _; decide), _, _, _, _, rfl, rfl, SqL.of upd_same, an, ?_⟩
  have R4 := R3.same s4
  have O4 := O3.same s4
  generalize upd H3 L (.lst [.int (-1), .int 0, .int 99]) = H4 at R4 O4
  -- way by way
  refine ⟨_, rfl, by decide, by decide, ?_⟩
  refine for_range (lo := 0) (n := 11) (fun i σ H5 => ∃ v4 : Option V, σ = [some (.ref a), some (.ref o), some (.ref p'), some (.int nb), v4] ∧ Same H4 H5) ⟨none, rfl, Same.refl _⟩ ?_ ?_
  · rintro i σ H5 hi ⟨v4, rfl, s5⟩
    rw [Int.zero_add]
    refine ⟨_, rfl, p', rows', rfl, R4.same s5, by omega, fun p6 as6 H6 N6 => ?_⟩
    refine ⟨_, rfl, o, orows, rfl, ((O4.same s5).same N6.same).rd, by omega, fun o7 bs7 H7 N7 => ?_⟩
    refine ⟨_, rfl, _, rfl, p6, o7, rows', orows, _, _, rfl, (N6.at_.same N7.same).rd, by omega, N7.at_.rd, by omega, no, by omega, by omega, fun H8 s8 => ⟨rfl, _, rfl, iteNS rfl ?_⟩⟩
    exact ⟨_, rfl, ((s5.trans N6.same).trans N7.same).trans s8⟩
  · rintro σ H5 ⟨v4, rfl, s5⟩
    exact q _
end
theorem all_mk {l : PySem.W.OpenLaw} {w : World} {K : PySem.W.Frag} {h : Heap} {mg : Str → Option Value} {fa f1 f2 f3 f4 f5 f6 f7 f8 f9 f10 f11 f12 f13 f14 f15 f16 f17 f18 f19 f20 f21 f22 f23 f24 f25 f26 f27 f28 : Addr} (X : K.In h) (G : h.Ns mainGlobals mg) (hfa : mg "law" = some (.ref fa))
    {od1 an1 od2 an2 od3 an3 od4 an4 od5 an5 od6 an6 od7 an7 od8 an8 od9 an9 od10 an10 od11 an11 od12 an12 od13 an13 od14 an14 od15 an15 od16 an16 od17 an17 od18 an18 od19 an19 od20 an20 od21 an21 od22 an22 od23 an23 od24 an24 od25 an25 od26 an26 od27 an27 od28 an28 : Option Addr} {sl1 sl2 sl3 sl4 sl5 sl6 sl7 sl8 sl9 sl10 sl11 sl12 sl13 sl14 sl15 sl16 sl17 sl18 sl19 sl20 sl21 sl22 sl23 sl24 sl25 sl26 sl27 sl28 : Array (Option Value)} {oc1 kV1 dc1 pm1 cd1 ct1 oc2 kV2 dc2 pm2 cd2 ct2 oc3 kV3 dc3 pm3 cd3 ct3 oc4 kV4 dc4 pm4 cd4 ct4 oc5 kV5 dc5 pm5 cd5 ct5 oc6 kV6 dc6 pm6 cd6 ct6 oc7 kV7 dc7 pm7 cd7 ct7 oc8 kV8 dc8 pm8 cd8 ct8 oc9 kV9 dc9 pm9 cd9 ct9 oc10 kV10 dc10 pm10 cd10 ct10 oc11 kV11 dc11 pm11 cd11 ct11 oc12 kV12 dc12 pm12 cd12 ct12 oc13 kV13 dc13 pm13 cd13 ct13 oc14 kV14 dc14 pm14 cd14 ct14 oc15 kV15 dc15 pm15 cd15 ct15 oc16 kV16 dc16 pm16 cd16 ct16 oc17 kV17 dc17 pm17 cd17 ct17 oc18 kV18 dc18 pm18 cd18 ct18 oc19 kV19 dc19 pm19 cd19 ct19 oc20 kV20 dc20 pm20 cd20 ct20 oc21 kV21 dc21 pm21 cd21 ct21 oc22 kV22 dc22 pm22 cd22 ct22 oc23 kV23 dc23 pm23 cd23 ct23 oc24 kV24 dc24 pm24 cd24 ct24 oc25 kV25 dc25 pm25 cd25 ct25 oc26 kV26 dc26 pm26 cd26 ct26 oc27 kV27 dc27 pm27 cd27 ct27 oc28 kV28 dc28 pm28 cd28 ct28 : Value}
    {tk_MOST_PLAYERS : Tok} (g_MOST_PLAYERS : PySem.W.nsIn K mainGlobals "MOST_PLAYERS" = some (some (.int 12 tk_MOST_PLAYERS)))
    (a1 : PySem.W.nsIn K mainGlobals "is_hall" = some (some (.ref f1))) (l1 : K.lookup f1 = some ⟨oc1, od1, .func (PySem.W.fnOf "is_hall" "is_hall" (defArgs s_is_hall) (defBody s_is_hall) (defScope s_is_hall) .none kV1 dc1 pm1 an1 cd1 ct1), sl1⟩) (c1 : PySem.W.codeIn K cd1 "is_hall" = true) (k1 : PySem.W.keepIn K (.ref f1) = true)
    (a2 : PySem.W.nsIn K mainGlobals "is_beaten_list" = some (some (.ref f2))) (l2 : K.lookup f2 = some ⟨oc2, od2, .func (PySem.W.fnOf "is_beaten_list" "is_beaten_list" (defArgs s_is_beaten_list) (defBody s_is_beaten_list) (defScope s_is_beaten_list) .none kV2 dc2 pm2 an2 cd2 ct2), sl2⟩) (c2 : PySem.W.codeIn K cd2 "is_beaten_list" = true) (k2 : PySem.W.keepIn K (.ref f2) = true)
    (a3 : PySem.W.nsIn K mainGlobals "one_of_each_two_won" = some (some (.ref f3))) (l3 : K.lookup f3 = some ⟨oc3, od3, .func (PySem.W.fnOf "one_of_each_two_won" "one_of_each_two_won" (defArgs s_one_of_each_two_won) (defBody s_one_of_each_two_won) (defScope s_one_of_each_two_won) .none kV3 dc3 pm3 an3 cd3 ct3), sl3⟩) (c3 : PySem.W.codeIn K cd3 "one_of_each_two_won" = true) (k3 : PySem.W.keepIn K (.ref f3) = true)
    (a4 : PySem.W.nsIn K mainGlobals "need_hall" = some (some (.ref f4))) (l4 : K.lookup f4 = some ⟨oc4, od4, .func (PySem.W.fnOf "need_hall" "need_hall" (defArgs s_need_hall) (defBody s_need_hall) (defScope s_need_hall) .none kV4 dc4 pm4 an4 cd4 ct4), sl4⟩) (c4 : PySem.W.codeIn K cd4 "need_hall" = true) (k4 : PySem.W.keepIn K (.ref f4) = true)
    (a5 : PySem.W.nsIn K mainGlobals "wins_of" = some (some (.ref f5))) (l5 : K.lookup f5 = some ⟨oc5, od5, .func (PySem.W.fnOf "wins_of" "wins_of" (defArgs s_wins_of) (defBody s_wins_of) (defScope s_wins_of) .none kV5 dc5 pm5 an5 cd5 ct5), sl5⟩) (c5 : PySem.W.codeIn K cd5 "wins_of" = true) (k5 : PySem.W.keepIn K (.ref f5) = true)
    (a6 : PySem.W.nsIn K mainGlobals "line_of" = some (some (.ref f6))) (l6 : K.lookup f6 = some ⟨oc6, od6, .func (PySem.W.fnOf "line_of" "line_of" (defArgs s_line_of) (defBody s_line_of) (defScope s_line_of) .none kV6 dc6 pm6 an6 cd6 ct6), sl6⟩) (c6 : PySem.W.codeIn K cd6 "line_of" = true) (k6 : PySem.W.keepIn K (.ref f6) = true)
    (a7 : PySem.W.nsIn K mainGlobals "lines_many" = some (some (.ref f7))) (l7 : K.lookup f7 = some ⟨oc7, od7, .func (PySem.W.fnOf "lines_many" "lines_many" (defArgs s_lines_many) (defBody s_lines_many) (defScope s_lines_many) .none kV7 dc7 pm7 an7 cd7 ct7), sl7⟩) (c7 : PySem.W.codeIn K cd7 "lines_many" = true) (k7 : PySem.W.keepIn K (.ref f7) = true)
    (a8 : PySem.W.nsIn K mainGlobals "groups_of" = some (some (.ref f8))) (l8 : K.lookup f8 = some ⟨oc8, od8, .func (PySem.W.fnOf "groups_of" "groups_of" (defArgs s_groups_of) (defBody s_groups_of) (defScope s_groups_of) .none kV8 dc8 pm8 an8 cd8 ct8), sl8⟩) (c8 : PySem.W.codeIn K cd8 "groups_of" = true) (k8 : PySem.W.keepIn K (.ref f8) = true)
    (a9 : PySem.W.nsIn K mainGlobals "by_falling_wins" = some (some (.ref f9))) (l9 : K.lookup f9 = some ⟨oc9, od9, .func (PySem.W.fnOf "by_falling_wins" "by_falling_wins" (defArgs s_by_falling_wins) (defBody s_by_falling_wins) (defScope s_by_falling_wins) .none kV9 dc9 pm9 an9 cd9 ct9), sl9⟩) (c9 : PySem.W.codeIn K cd9 "by_falling_wins" = true) (k9 : PySem.W.keepIn K (.ref f9) = true)
    (a10 : PySem.W.nsIn K mainGlobals "ring_at" = some (some (.ref f10))) (l10 : K.lookup f10 = some ⟨oc10, od10, .func (PySem.W.fnOf "ring_at" "ring_at" (defArgs s_ring_at) (defBody s_ring_at) (defScope s_ring_at) .none kV10 dc10 pm10 an10 cd10 ct10), sl10⟩) (c10 : PySem.W.codeIn K cd10 "ring_at" = true) (k10 : PySem.W.keepIn K (.ref f10) = true)
    (a11 : PySem.W.nsIn K mainGlobals "kings_of" = some (some (.ref f11))) (l11 : K.lookup f11 = some ⟨oc11, od11, .func (PySem.W.fnOf "kings_of" "kings_of" (defArgs s_kings_of) (defBody s_kings_of) (defScope s_kings_of) .none kV11 dc11 pm11 an11 cd11 ct11), sl11⟩) (c11 : PySem.W.codeIn K cd11 "kings_of" = true) (k11 : PySem.W.keepIn K (.ref f11) = true)
    (a12 : PySem.W.nsIn K mainGlobals "way_of" = some (some (.ref f12))) (l12 : K.lookup f12 = some ⟨oc12, od12, .func (PySem.W.fnOf "way_of" "way_of" (defArgs s_way_of) (defBody s_way_of) (defScope s_way_of) .none kV12 dc12 pm12 an12 cd12 ct12), sl12⟩) (c12 : PySem.W.codeIn K cd12 "way_of" = true) (k12 : PySem.W.keepIn K (.ref f12) = true)
    (a13 : PySem.W.nsIn K mainGlobals "turned" = some (some (.ref f13))) (l13 : K.lookup f13 = some ⟨oc13, od13, .func (PySem.W.fnOf "turned" "turned" (defArgs s_turned) (defBody s_turned) (defScope s_turned) .none kV13 dc13 pm13 an13 cd13 ct13), sl13⟩) (c13 : PySem.W.codeIn K cd13 "turned" = true) (k13 : PySem.W.keepIn K (.ref f13) = true)
    (a14 : PySem.W.nsIn K mainGlobals "turnings" = some (some (.ref f14))) (l14 : K.lookup f14 = some ⟨oc14, od14, .func (PySem.W.fnOf "turnings" "turnings" (defArgs s_turnings) (defBody s_turnings) (defScope s_turnings) .none kV14 dc14 pm14 an14 cd14 ct14), sl14⟩) (c14 : PySem.W.codeIn K cd14 "turnings" = true) (k14 : PySem.W.keepIn K (.ref f14) = true)
    (a15 : PySem.W.nsIn K mainGlobals "shown" = some (some (.ref f15))) (l15 : K.lookup f15 = some ⟨oc15, od15, .func (PySem.W.fnOf "shown" "shown" (defArgs s_shown) (defBody s_shown) (defScope s_shown) .none kV15 dc15 pm15 an15 cd15 ct15), sl15⟩) (c15 : PySem.W.codeIn K cd15 "shown" = true) (k15 : PySem.W.keepIn K (.ref f15) = true)
    (a16 : PySem.W.nsIn K mainGlobals "_law_cell" = some (some (.ref f16))) (l16 : K.lookup f16 = some ⟨oc16, od16, .func (PySem.W.fnOf "_law_cell" "_law_cell" (defArgs s_law_cell) (defBody s_law_cell) (defScope s_law_cell) .none kV16 dc16 pm16 an16 cd16 ct16), sl16⟩) (c16 : PySem.W.codeIn K cd16 "_law_cell" = true) (k16 : PySem.W.keepIn K (.ref f16) = true)
    (a17 : PySem.W.nsIn K mainGlobals "_law_next" = some (some (.ref f17))) (l17 : K.lookup f17 = some ⟨oc17, od17, .func (PySem.W.fnOf "_law_next" "_law_next" (defArgs s_law_next) (defBody s_law_next) (defScope s_law_next) .none kV17 dc17 pm17 an17 cd17 ct17), sl17⟩) (c17 : PySem.W.codeIn K cd17 "_law_next" = true) (k17 : PySem.W.keepIn K (.ref f17) = true)
    (a18 : PySem.W.nsIn K mainGlobals "_law_order" = some (some (.ref f18))) (l18 : K.lookup f18 = some ⟨oc18, od18, .func (PySem.W.fnOf "_law_order" "_law_order" (defArgs s_law_order) (defBody s_law_order) (defScope s_law_order) .none kV18 dc18 pm18 an18 cd18 ct18), sl18⟩) (c18 : PySem.W.codeIn K cd18 "_law_order" = true) (k18 : PySem.W.keepIn K (.ref f18) = true)
    (a19 : PySem.W.nsIn K mainGlobals "_law_first_wins" = some (some (.ref f19))) (l19 : K.lookup f19 = some ⟨oc19, od19, .func (PySem.W.fnOf "_law_first_wins" "_law_first_wins" (defArgs s_law_first_wins) (defBody s_law_first_wins) (defScope s_law_first_wins) .none kV19 dc19 pm19 an19 cd19 ct19), sl19⟩) (c19 : PySem.W.codeIn K cd19 "_law_first_wins" = true) (k19 : PySem.W.keepIn K (.ref f19) = true)
    (a20 : PySem.W.nsIn K mainGlobals "_law_hall" = some (some (.ref f20))) (l20 : K.lookup f20 = some ⟨oc20, od20, .func (PySem.W.fnOf "_law_hall" "_law_hall" (defArgs s_law_hall) (defBody s_law_hall) (defScope s_law_hall) .none kV20 dc20 pm20 an20 cd20 ct20), sl20⟩) (c20 : PySem.W.codeIn K cd20 "_law_hall" = true) (k20 : PySem.W.keepIn K (.ref f20) = true)
    (a21 : PySem.W.nsIn K mainGlobals "_law_copy" = some (some (.ref f21))) (l21 : K.lookup f21 = some ⟨oc21, od21, .func (PySem.W.fnOf "_law_copy" "_law_copy" (defArgs s_law_copy) (defBody s_law_copy) (defScope s_law_copy) .none kV21 dc21 pm21 an21 cd21 ct21), sl21⟩) (c21 : PySem.W.codeIn K cd21 "_law_copy" = true) (k21 : PySem.W.keepIn K (.ref f21) = true)
    (a22 : PySem.W.nsIn K mainGlobals "_law_good" = some (some (.ref f22))) (l22 : K.lookup f22 = some ⟨oc22, od22, .func (PySem.W.fnOf "_law_good" "_law_good" (defArgs s_law_good) (defBody s_law_good) (defScope s_law_good) .none kV22 dc22 pm22 an22 cd22 ct22), sl22⟩) (c22 : PySem.W.codeIn K cd22 "_law_good" = true) (k22 : PySem.W.keepIn K (.ref f22) = true)
    (a23 : PySem.W.nsIn K mainGlobals "_law_spoilt" = some (some (.ref f23))) (l23 : K.lookup f23 = some ⟨oc23, od23, .func (PySem.W.fnOf "_law_spoilt" "_law_spoilt" (defArgs s_law_spoilt) (defBody s_law_spoilt) (defScope s_law_spoilt) .none kV23 dc23 pm23 an23 cd23 ct23), sl23⟩) (c23 : PySem.W.codeIn K cd23 "_law_spoilt" = true) (k23 : PySem.W.keepIn K (.ref f23) = true)
    (a24 : PySem.W.nsIn K mainGlobals "_law_which" = some (some (.ref f24))) (l24 : K.lookup f24 = some ⟨oc24, od24, .func (PySem.W.fnOf "_law_which" "_law_which" (defArgs s_law_which) (defBody s_law_which) (defScope s_law_which) .none kV24 dc24 pm24 an24 cd24 ct24), sl24⟩) (c24 : PySem.W.codeIn K cd24 "_law_which" = true) (k24 : PySem.W.keepIn K (.ref f24) = true)
    (a25 : PySem.W.nsIn K mainGlobals "_law_first" = some (some (.ref f25))) (l25 : K.lookup f25 = some ⟨oc25, od25, .func (PySem.W.fnOf "_law_first" "_law_first" (defArgs s_law_first) (defBody s_law_first) (defScope s_law_first) .none kV25 dc25 pm25 an25 cd25 ct25), sl25⟩) (c25 : PySem.W.codeIn K cd25 "_law_first" = true) (k25 : PySem.W.keepIn K (.ref f25) = true)
    (a26 : PySem.W.nsIn K mainGlobals "_law_second" = some (some (.ref f26))) (l26 : K.lookup f26 = some ⟨oc26, od26, .func (PySem.W.fnOf "_law_second" "_law_second" (defArgs s_law_second) (defBody s_law_second) (defScope s_law_second) .none kV26 dc26 pm26 an26 cd26 ct26), sl26⟩) (c26 : PySem.W.codeIn K cd26 "_law_second" = true) (k26 : PySem.W.keepIn K (.ref f26) = true)
    (a27 : PySem.W.nsIn K mainGlobals "_law_met" = some (some (.ref f27))) (l27 : K.lookup f27 = some ⟨oc27, od27, .func (PySem.W.fnOf "_law_met" "_law_met" (defArgs s_law_met) (defBody s_law_met) (defScope s_law_met) .none kV27 dc27 pm27 an27 cd27 ct27), sl27⟩) (c27 : PySem.W.codeIn K cd27 "_law_met" = true) (k27 : PySem.W.keepIn K (.ref f27) = true)
    (a28 : PySem.W.nsIn K mainGlobals "law" = some (some (.ref f28))) (l28 : K.lookup f28 = some ⟨oc28, od28, .func (PySem.W.fnOf "law" "law" (defArgs s_law) (defBody s_law) (defScope s_law) .none kV28 dc28 pm28 an28 cd28 ct28), sl28⟩) (c28 : PySem.W.codeIn K cd28 "law" = true) (k28 : PySem.W.keepIn K (.ref f28) = true)
    {D_HallError D_NoHall D_NoPlayer D_NoRing D_NoRow D_Unlike D_NoNote : Addr} {cd_HallError cd_NoHall cd_NoPlayer cd_NoRing cd_NoRow cd_Unlike cd_NoNote : ClassData}
    (n_HallError : PySem.W.nsIn K mainGlobals "HallError" = some (some (.ref D_HallError)))
    (cl_HallError : PySem.W.clsIn K D_HallError = some cd_HallError)
    (ty_HallError : PySem.W.typeIn K (.ref D_HallError) = some (.type "type"))
    (ex_HallError : PySem.W.excIn K D_HallError bmVE "ValueError.__new__" = true)
    (n_NoHall : PySem.W.nsIn K mainGlobals "NoHall" = some (some (.ref D_NoHall)))
    (cl_NoHall : PySem.W.clsIn K D_NoHall = some cd_NoHall)
    (ty_NoHall : PySem.W.typeIn K (.ref D_NoHall) = some (.type "type"))
    (ex_NoHall : PySem.W.excIn K D_NoHall bmVE "ValueError.__new__" = true)
    (n_NoPlayer : PySem.W.nsIn K mainGlobals "NoPlayer" = some (some (.ref D_NoPlayer)))
    (cl_NoPlayer : PySem.W.clsIn K D_NoPlayer = some cd_NoPlayer)
    (ty_NoPlayer : PySem.W.typeIn K (.ref D_NoPlayer) = some (.type "type"))
    (n_NoRing : PySem.W.nsIn K mainGlobals "NoRing" = some (some (.ref D_NoRing)))
    (cl_NoRing : PySem.W.clsIn K D_NoRing = some cd_NoRing)
    (ty_NoRing : PySem.W.typeIn K (.ref D_NoRing) = some (.type "type"))
    (n_NoRow : PySem.W.nsIn K mainGlobals "NoRow" = some (some (.ref D_NoRow)))
    (cl_NoRow : PySem.W.clsIn K D_NoRow = some cd_NoRow)
    (ty_NoRow : PySem.W.typeIn K (.ref D_NoRow) = some (.type "type"))
    (n_Unlike : PySem.W.nsIn K mainGlobals "Unlike" = some (some (.ref D_Unlike)))
    (cl_Unlike : PySem.W.clsIn K D_Unlike = some cd_Unlike)
    (ty_Unlike : PySem.W.typeIn K (.ref D_Unlike) = some (.type "type"))
    (ex_Unlike : PySem.W.excIn K D_Unlike bmVE "ValueError.__new__" = true)
    (n_NoNote : PySem.W.nsIn K mainGlobals "NoNote" = some (some (.ref D_NoNote)))
    (cl_NoNote : PySem.W.clsIn K D_NoNote = some cd_NoNote)
    (ty_NoNote : PySem.W.typeIn K (.ref D_NoNote) = some (.type "type"))
    (m_NoHall_HallError : PySem.W.mroIn K D_NoHall (.ref D_HallError) = some true)
    (m_NoHall_NoHall : PySem.W.mroIn K D_NoHall (.ref D_NoHall) = some true)
    (m_NoHall_NoPlayer : PySem.W.mroIn K D_NoHall (.ref D_NoPlayer) = some false)
    (m_NoHall_NoRing : PySem.W.mroIn K D_NoHall (.ref D_NoRing) = some false)
    (m_NoHall_NoRow : PySem.W.mroIn K D_NoHall (.ref D_NoRow) = some false)
    (m_NoHall_Unlike : PySem.W.mroIn K D_NoHall (.ref D_Unlike) = some false)
    (m_NoHall_NoNote : PySem.W.mroIn K D_NoHall (.ref D_NoNote) = some false)
    (m_NoHall_ValueError : PySem.W.mroIn K D_NoHall (.type "ValueError") = some true)
    (m_NoHall_object : PySem.W.mroIn K D_NoHall (.type "object") = some true)
    (m_NoHall_BaseException : PySem.W.mroIn K D_NoHall (.type "BaseException") = some true)
    (ga_NoHall : PySem.W.findIn K (.ref D_NoHall) "__getattribute__" = some (some (.builtin "BaseException.__getattribute__")))
    (gh_NoHall : PySem.W.findIn K (.ref D_NoHall) "__getattr__" = some none)
    (gc_NoHall : PySem.W.findIn K (.ref D_NoHall) "__class__" = some (some (.builtin "object.__class__")))
    (gt_ : PySem.W.specialIn K (.builtin "object.__class__") "__get__" = some (some (.builtin "getset_descriptor.__get__")))
    (tk_ : PySem.W.takesIn K (.builtin "object.__class__") = some true)
    (z1 : PySem.W.nsIn K mainGlobals "len" = some none)
    (z2 : PySem.W.nsIn K mainGlobals "range" = some none)
    (z3 : PySem.W.nsIn K mainGlobals "sorted" = some none)
    (z4 : PySem.W.nsIn K mainGlobals "list" = some none)
    (z5 : PySem.W.nsIn K mainGlobals "isinstance" = some none)
    (z6 : PySem.W.nsIn K mainGlobals "bool" = some none)
    (z7 : PySem.W.nsIn K mainGlobals "int" = some none)
    (z8 : PySem.W.nsIn K mainGlobals "enumerate" = some none)
    (z9 : PySem.W.nsIn K mainGlobals "all" = some none)
    (z10 : PySem.W.nsIn K mainGlobals "sum" = some none)
    (z11 : PySem.W.nsIn K mainGlobals "set" = some none)
    (z12 : PySem.W.nsIn K mainGlobals "max" = some none)
    (z13 : PySem.W.nsIn K mainGlobals "zip" = some none)
    (z14 : PySem.W.nsIn K mainGlobals "str" = some none)
    (z15 : PySem.W.nsIn K mainGlobals "any" = some none)
    (z16 : PySem.W.nsIn K mainGlobals "ValueError" = some none) :
    ∃ fd : FuncData, (∀ (s : Shared) (v : Value), BindsTo s fd ⟨[v], []⟩ [("script", v)]) ∧ ∀ base : Heap, K.In base → base.Ns mainGlobals mg → FnOk l.prog w K mg base CX0 8 fa fd ["script"] (spLaw K) := by
  have e := hfa.symm.trans (PySem.W.mg_of X G a28)
  cases e
  have F_is_hall := fun_mk (st := s_is_hall) l1 c1 k1
  have b_is_hall := F_is_hall.binds (ps := ["hall"]) fun _ _ _ _ _ _ us hl => (by obtain ⟨_, rfl⟩ := len1 hl; rfl)
  have m_is_hall := PySem.W.mg_of X G a1
  have F_is_beaten_list := fun_mk (st := s_is_beaten_list) l2 c2 k2
  have b_is_beaten_list := F_is_beaten_list.binds (ps := ["beaten", "player", "many"]) fun _ _ _ _ _ _ us hl => (by obtain ⟨_, _, _, rfl⟩ := len3 hl; rfl)
  have m_is_beaten_list := PySem.W.mg_of X G a2
  have F_one_of_each_two_won := fun_mk (st := s_one_of_each_two_won) l3 c3 k3
  have b_one_of_each_two_won := F_one_of_each_two_won.binds (ps := ["hall"]) fun _ _ _ _ _ _ us hl => (by obtain ⟨_, rfl⟩ := len1 hl; rfl)
  have m_one_of_each_two_won := PySem.W.mg_of X G a3
  have F_need_hall := fun_mk (st := s_need_hall) l4 c4 k4
  have b_need_hall := F_need_hall.binds (ps := ["hall"]) fun _ _ _ _ _ _ us hl => (by obtain ⟨_, rfl⟩ := len1 hl; rfl)
  have m_need_hall := PySem.W.mg_of X G a4
  have F_wins_of := fun_mk (st := s_wins_of) l5 c5 k5
  have b_wins_of := F_wins_of.binds (ps := ["hall"]) fun _ _ _ _ _ _ us hl => (by obtain ⟨_, rfl⟩ := len1 hl; rfl)
  have m_wins_of := PySem.W.mg_of X G a5
  have F_line_of := fun_mk (st := s_line_of) l6 c6 k6
  have b_line_of := F_line_of.binds (ps := ["hall"]) fun _ _ _ _ _ _ us hl => (by obtain ⟨_, rfl⟩ := len1 hl; rfl)
  have m_line_of := PySem.W.mg_of X G a6
  have F_lines_many := fun_mk (st := s_lines_many) l7 c7 k7
  have b_lines_many := F_lines_many.binds (ps := ["hall"]) fun _ _ _ _ _ _ us hl => (by obtain ⟨_, rfl⟩ := len1 hl; rfl)
  have m_lines_many := PySem.W.mg_of X G a7
  have F_groups_of := fun_mk (st := s_groups_of) l8 c8 k8
  have b_groups_of := F_groups_of.binds (ps := ["hall"]) fun _ _ _ _ _ _ us hl => (by obtain ⟨_, rfl⟩ := len1 hl; rfl)
  have m_groups_of := PySem.W.mg_of X G a8
  have F_by_falling_wins := fun_mk (st := s_by_falling_wins) l9 c9 k9
  have b_by_falling_wins := F_by_falling_wins.binds (ps := ["hall"]) fun _ _ _ _ _ _ us hl => (by obtain ⟨_, rfl⟩ := len1 hl; rfl)
  have m_by_falling_wins := PySem.W.mg_of X G a9
  have F_ring_at := fun_mk (st := s_ring_at) l10 c10 k10
  have b_ring_at := F_ring_at.binds (ps := ["hall", "player", "many"]) fun _ _ _ _ _ _ us hl => (by obtain ⟨_, _, _, rfl⟩ := len3 hl; rfl)
  have m_ring_at := PySem.W.mg_of X G a10
  have F_kings_of := fun_mk (st := s_kings_of) l11 c11 k11
  have b_kings_of := F_kings_of.binds (ps := ["hall"]) fun _ _ _ _ _ _ us hl => (by obtain ⟨_, rfl⟩ := len1 hl; rfl)
  have m_kings_of := PySem.W.mg_of X G a11
  have F_way_of := fun_mk (st := s_way_of) l12 c12 k12
  have b_way_of := F_way_of.binds (ps := ["hall", "one", "other"]) fun _ _ _ _ _ _ us hl => (by obtain ⟨_, _, _, rfl⟩ := len3 hl; rfl)
  have m_way_of := PySem.W.mg_of X G a12
  have F_turned := fun_mk (st := s_turned) l13 c13 k13
  have b_turned := F_turned.binds (ps := ["hall", "ring"]) fun _ _ _ _ _ _ us hl => (by obtain ⟨_, _, rfl⟩ := len2 hl; rfl)
  have m_turned := PySem.W.mg_of X G a13
  have F_turnings := fun_mk (st := s_turnings) l14 c14 k14
  have b_turnings := F_turnings.binds (ps := ["hall", "other"]) fun _ _ _ _ _ _ us hl => (by obtain ⟨_, _, rfl⟩ := len2 hl; rfl)
  have m_turnings := PySem.W.mg_of X G a14
  have F_shown := fun_mk (st := s_shown) l15 c15 k15
  have b_shown := F_shown.binds (ps := ["hall"]) fun _ _ _ _ _ _ us hl => (by obtain ⟨_, rfl⟩ := len1 hl; rfl)
  have m_shown := PySem.W.mg_of X G a15
  have F_law_cell := fun_mk (st := s_law_cell) l16 c16 k16
  have b_law_cell := F_law_cell.binds (ps := ["script", "k"]) fun _ _ _ _ _ _ us hl => (by obtain ⟨_, _, rfl⟩ := len2 hl; rfl)
  have m_law_cell := PySem.W.mg_of X G a16
  have F_law_next := fun_mk (st := s_law_next) l17 c17 k17
  have b_law_next := F_law_next.binds (ps := ["step"]) fun _ _ _ _ _ _ us hl => (by obtain ⟨_, rfl⟩ := len1 hl; rfl)
  have m_law_next := PySem.W.mg_of X G a17
  have F_law_order := fun_mk (st := s_law_order) l18 c18 k18
  have b_law_order := F_law_order.binds (ps := ["script", "k", "many"]) fun _ _ _ _ _ _ us hl => (by obtain ⟨_, _, _, rfl⟩ := len3 hl; rfl)
  have m_law_order := PySem.W.mg_of X G a18
  have F_law_first_wins := fun_mk (st := s_law_first_wins) l19 c19 k19
  have b_law_first_wins := F_law_first_wins.binds (ps := ["way", "one", "other", "many", "step"]) fun _ _ _ _ _ _ us hl => (by obtain ⟨_, _, _, _, _, rfl⟩ := len5 hl; rfl)
  have m_law_first_wins := PySem.W.mg_of X G a19
  have F_law_hall := fun_mk (st := s_law_hall) l20 c20 k20
  have b_law_hall := F_law_hall.binds (ps := ["script", "k", "many"]) fun _ _ _ _ _ _ us hl => (by obtain ⟨_, _, _, rfl⟩ := len3 hl; rfl)
  have m_law_hall := PySem.W.mg_of X G a20
  have F_law_copy := fun_mk (st := s_law_copy) l21 c21 k21
  have b_law_copy := F_law_copy.binds (ps := ["hall"]) fun _ _ _ _ _ _ us hl => (by obtain ⟨_, rfl⟩ := len1 hl; rfl)
  have m_law_copy := PySem.W.mg_of X G a21
  have F_law_good := fun_mk (st := s_law_good) l22 c22 k22
  have b_law_good := F_law_good.binds (ps := ["hall"]) fun _ _ _ _ _ _ us hl => (by obtain ⟨_, rfl⟩ := len1 hl; rfl)
  have m_law_good := PySem.W.mg_of X G a22
  have F_law_spoilt := fun_mk (st := s_law_spoilt) l23 c23 k23
  have b_law_spoilt := F_law_spoilt.binds (ps := ["hall", "way", "cell", "number"]) fun _ _ _ _ _ _ us hl => (by obtain ⟨_, _, _, _, rfl⟩ := len4 hl; rfl)
  have m_law_spoilt := PySem.W.mg_of X G a23
  have F_law_which := fun_mk (st := s_law_which) l24 c24 k24
  have b_law_which := F_law_which.binds (ps := ["e"]) fun _ _ _ _ _ _ us hl => (by obtain ⟨_, rfl⟩ := len1 hl; rfl)
  have m_law_which := PySem.W.mg_of X G a24
  have F_law_first := fun_mk (st := s_law_first) l25 c25 k25
  have b_law_first := F_law_first.binds (ps := ["hall", "way"]) fun _ _ _ _ _ _ us hl => (by obtain ⟨_, _, rfl⟩ := len2 hl; rfl)
  have m_law_first := PySem.W.mg_of X G a25
  have F_law_second := fun_mk (st := s_law_second) l26 c26 k26
  have b_law_second := F_law_second.binds (ps := ["hall", "other", "way", "number"]) fun _ _ _ _ _ _ us hl => (by obtain ⟨_, _, _, _, rfl⟩ := len4 hl; rfl)
  have m_law_second := PySem.W.mg_of X G a26
  have F_law_met := fun_mk (st := s_law_met) l27 c27 k27
  have b_law_met := F_law_met.binds (ps := ["hall", "other", "way", "number"]) fun _ _ _ _ _ _ us hl => (by obtain ⟨_, _, _, _, rfl⟩ := len4 hl; rfl)
  have m_law_met := PySem.W.mg_of X G a27
  have F_law := fun_mk (st := s_law) l28 c28 k28
  have b_law := F_law.binds (ps := ["script"]) fun _ _ _ _ _ _ us hl => (by obtain ⟨_, rfl⟩ := len1 hl; rfl)
  have m_law := PySem.W.mg_of X G a28
  have z : Blt mg := ⟨PySem.W.mg_none_of X G z1, PySem.W.mg_none_of X G z2, PySem.W.mg_none_of X G z3, PySem.W.mg_none_of X G z4, PySem.W.mg_none_of X G z5, PySem.W.mg_none_of X G z6, PySem.W.mg_none_of X G z7, PySem.W.mg_none_of X G z8, PySem.W.mg_none_of X G z9, PySem.W.mg_none_of X G z10, PySem.W.mg_none_of X G z11, PySem.W.mg_none_of X G z12, PySem.W.mg_none_of X G z13, PySem.W.mg_none_of X G z14, PySem.W.mg_none_of X G z15, PySem.W.mg_none_of X G z16⟩
  have g_MOST_PLAYERS := PySem.W.mg_of X G g_MOST_PLAYERS
  refine ⟨PySem.W.fnOf "law" "law" (defArgs s_law) (defBody s_law) (defScope s_law) .none kV28 dc28 pm28 an28 cd28 ct28, fun s v => .of_eq rfl, fun base KB GB => ?_⟩
  have g_HallError := PySem.W.mg_of X G n_HallError
  have O_HallError : OwnE mg base "HallError" D_HallError := own_of KB GB n_HallError ex_HallError
  have g_NoHall := PySem.W.mg_of X G n_NoHall
  have O_NoHall : OwnE mg base "NoHall" D_NoHall := own_of KB GB n_NoHall ex_NoHall
  have g_NoPlayer := PySem.W.mg_of X G n_NoPlayer
  have g_NoRing := PySem.W.mg_of X G n_NoRing
  have g_NoRow := PySem.W.mg_of X G n_NoRow
  have g_Unlike := PySem.W.mg_of X G n_Unlike
  have O_Unlike : OwnE mg base "Unlike" D_Unlike := own_of KB GB n_Unlike ex_Unlike
  have g_NoNote := PySem.W.mg_of X G n_NoNote
  have EF_NoHall : ExcFacts K D_NoHall := ⟨ga_NoHall, m_NoHall_BaseException, gh_NoHall, gc_NoHall, gt_, tk_, m_NoHall_object, m_NoHall_NoHall⟩
  have U_NoHall : Under base D_NoHall D_HallError := under_of KB ex_NoHall m_NoHall_HallError
  have Wh_NoHall : Which K D_NoHall D_NoPlayer D_NoRing D_NoRow D_Unlike D_NoNote D_NoHall [true, false, false, false, false, false] 0 := ⟨EF_NoHall, ⟨_, _, _, _, _, _, rfl, kit_of EF_NoHall cl_NoHall ty_NoHall m_NoHall_NoHall, kit_of EF_NoHall cl_NoPlayer ty_NoPlayer m_NoHall_NoPlayer, kit_of EF_NoHall cl_NoRing ty_NoRing m_NoHall_NoRing, kit_of EF_NoHall cl_NoRow ty_NoRow m_NoHall_NoRow, kit_of EF_NoHall cl_Unlike ty_Unlike m_NoHall_Unlike, kit_of EF_NoHall cl_NoNote ty_NoNote m_NoHall_NoNote⟩, kit_ve m_NoHall_ValueError, by decide, rfl, by decide⟩
  have C_law_cell : Has l.prog w K mg base 1 "_law_cell" ["script", "k"] (spCell K) := ⟨_, _, ok_cell F_law_cell z, b_law_cell, F_law_cell.kp, m_law_cell⟩
  have C_law_next : Has l.prog w K mg base 1 "_law_next" ["step"] spNext := ⟨_, _, ok_next F_law_next, b_law_next, F_law_next.kp, m_law_next⟩
  have C_law_order : Has l.prog w K mg base 2 "_law_order" ["script", "k", "many"] (spOrder K) := ⟨_, _, ok_order F_law_order z C_law_cell C_law_next, b_law_order, F_law_order.kp, m_law_order⟩
  have C_law_first_wins : Has l.prog w K mg base 1 "_law_first_wins" ["way", "one", "other", "many", "step"] spFirst := ⟨_, _, ok_first F_law_first_wins, b_law_first_wins, F_law_first_wins.kp, m_law_first_wins⟩
  have C_law_hall : Has l.prog w K mg base 3 "_law_hall" ["script", "k", "many"] (spHall K) := ⟨_, _, ok_hall F_law_hall z C_law_cell C_law_next C_law_order C_law_first_wins, b_law_hall, F_law_hall.kp, m_law_hall⟩
  have C_law_copy : Has l.prog w K mg base 1 "_law_copy" ["hall"] (spCopy K) := ⟨_, _, ok_copy F_law_copy z, b_law_copy, F_law_copy.kp, m_law_copy⟩
  have C_law_good : Has l.prog w K mg base 1 "_law_good" ["hall"] (spGood K) := ⟨_, _, ok_good F_law_good z, b_law_good, F_law_good.kp, m_law_good⟩
  have C_law_spoilt : Has l.prog w K mg base 1 "_law_spoilt" ["hall", "way", "cell", "number"] (spSpoilt K) := ⟨_, _, ok_spoilt F_law_spoilt z, b_law_spoilt, F_law_spoilt.kp, m_law_spoilt⟩
  have C_is_beaten_list : Has l.prog w K mg base 1 "is_beaten_list" ["beaten", "player", "many"] (spBeaten K) := ⟨_, _, ok_beaten F_is_beaten_list, b_is_beaten_list, F_is_beaten_list.kp, m_is_beaten_list⟩
  have C_one_of_each_two_won : Has l.prog w K mg base 1 "one_of_each_two_won" ["hall"] (spOneEach K) := ⟨_, _, ok_oneeach F_one_of_each_two_won z, b_one_of_each_two_won, F_one_of_each_two_won.kp, m_one_of_each_two_won⟩
  have C_is_hall : Has l.prog w K mg base 2 "is_hall" ["hall"] (spIsHall K) := ⟨_, _, ok_ishall F_is_hall z g_MOST_PLAYERS C_is_beaten_list C_one_of_each_two_won, b_is_hall, F_is_hall.kp, m_is_hall⟩
  have C_need_hall : HasE l.prog w K mg base 3 "need_hall" ["hall"] (spNeedE K D_NoHall) := ⟨_, _, ok_needE F_need_hall O_NoHall C_is_hall, b_need_hall, F_need_hall.kp, m_need_hall⟩
  have C_wins_of : HasE l.prog w K mg base 4 "wins_of" ["hall"] (spWinsE K D_NoHall) := ⟨_, _, ok_winsE F_wins_of z C_need_hall, b_wins_of, F_wins_of.kp, m_wins_of⟩
  have C_line_of : HasE l.prog w K mg base 4 "line_of" ["hall"] (spRef K D_NoHall 0) := ⟨_, _, ok_lineof F_line_of C_need_hall, b_line_of, F_line_of.kp, m_line_of⟩
  have C_lines_many : HasE l.prog w K mg base 4 "lines_many" ["hall"] (spRef K D_NoHall 0) := ⟨_, _, ok_linesmany F_lines_many C_need_hall, b_lines_many, F_lines_many.kp, m_lines_many⟩
  have C_groups_of : HasE l.prog w K mg base 4 "groups_of" ["hall"] (spRef K D_NoHall 0) := ⟨_, _, ok_groupsof F_groups_of C_need_hall, b_groups_of, F_groups_of.kp, m_groups_of⟩
  have C_kings_of : HasE l.prog w K mg base 4 "kings_of" ["hall"] (spRef K D_NoHall 0) := ⟨_, _, ok_kingsof F_kings_of C_need_hall, b_kings_of, F_kings_of.kp, m_kings_of⟩
  have C_shown : HasE l.prog w K mg base 4 "shown" ["hall"] (spRef K D_NoHall 0) := ⟨_, _, ok_shownr F_shown C_need_hall, b_shown, F_shown.kp, m_shown⟩
  have C_ring_at : HasE l.prog w K mg base 4 "ring_at" ["hall", "player", "many"] (spRef K D_NoHall 2) := ⟨_, _, ok_ringat F_ring_at C_need_hall, b_ring_at, F_ring_at.kp, m_ring_at⟩
  have C_way_of : HasE l.prog w K mg base 4 "way_of" ["hall", "one", "other"] (spRef K D_NoHall 2) := ⟨_, _, ok_wayof F_way_of C_need_hall, b_way_of, F_way_of.kp, m_way_of⟩
  have C_turned : HasE l.prog w K mg base 4 "turned" ["hall", "ring"] (spRef K D_NoHall 1) := ⟨_, _, ok_turnedr F_turned C_need_hall, b_turned, F_turned.kp, m_turned⟩
  have C_turnings : HasE l.prog w K mg base 5 "turnings" ["hall", "other"] (spRefT K D_NoHall) := ⟨_, _, ok_turnsr F_turnings O_Unlike C_wins_of, b_turnings, F_turnings.kp, m_turnings⟩
  have CE_law_first : HasE l.prog w K mg base 5 "_law_first" ["hall", "way"] (spFirstL K D_NoHall) := ⟨_, _, ok_firstL F_law_first C_wins_of C_line_of C_lines_many C_groups_of C_kings_of C_shown, b_law_first, F_law_first.kp, m_law_first⟩
  have CE_law_second : HasE l.prog w K mg base 6 "_law_second" ["hall", "other", "way", "number"] (spSecondL K D_NoHall) := ⟨_, _, ok_secondL F_law_second C_ring_at C_way_of C_turned C_turnings, b_law_second, F_law_second.kp, m_law_second⟩
  have C_law_which : HasM l.prog w K mg base 1 "_law_which" ["e"] (spWhich K D_NoHall D_NoPlayer D_NoRing D_NoRow D_Unlike D_NoNote) := ⟨_, _, ok_which F_law_which z g_NoHall g_NoPlayer g_NoRing g_NoRow g_Unlike g_NoNote, b_law_which, F_law_which.kp, m_law_which⟩
  have C_law_met : Has l.prog w K mg base 7 "_law_met" ["hall", "other", "way", "number"] (spMetL K) := ⟨_, _, ok_metL F_law_met z O_HallError U_NoHall Wh_NoHall CE_law_first CE_law_second C_law_which, b_law_met, F_law_met.kp, m_law_met⟩
  exact ok_law F_law z C_law_cell C_law_hall C_law_copy C_law_good C_law_spoilt C_law_met
open PySem.Spec PyProof.Rows in
theorem zcall {P : Program} {w : World} {K : PySem.W.Frag} {q : Program} {loose : List Str} {XP : (Str → Option Value) → Heap → Prop} {s₀ s₁ : Shared} {mg mb : Str → Option Value} {fa a : Addr} {vs : List Value} {ns : List Int}
    (KX : K.In s₁.heap) (G : PySem.W.Ground q loose [] XP w s₀ mg mb s₁.heap) (hobj : s₁.heap.get? a = some { cls := .type "list", data := .seq vs.toArray }) (hints : IntsAre vs ns) (hlen : ns.length ≤ 63) (hg : s₁.gens = #[])
    (F : ∃ fd : FuncData, (∀ (s : Shared) (u : Value), BindsTo s fd ⟨[u], []⟩ [("script", u)]) ∧ ∀ base : Heap, K.In base → base.Ns mainGlobals mg → FnOk P w K mg base CX0 8 fa fd ["script"] (spLaw K)) :
    codeAny (model P w) callerA (.call (.ref fa) ⟨[.ref a], []⟩) (fun r s' => r = .ok (.ret (.bool true)) ∧ OldK s₁.heap s'.heap ∧ s'.os = s₁.os ∧ AllBare s'.gens) s₁ := by
  obtain ⟨fd, hb, hF⟩ := F
  exact law_call KX G.T.g G.T.b G.T.builtins G.T.nolimit hg hobj hints (Nat.le_trans hlen (by decide)) ⟨rfl, by decide, by decide⟩ hF hb (fun H hO hS => ⟨a, ns, rfl, hS, hlen, fun _ => rfl⟩) fun _ _ _ z => z
end KH
open PySem PySem.W PySem.Calls PyProof.Rows PySem.W.X PySem.W.ZRun
set_option maxRecDepth 100000 in
set_option maxHeartbeats 0 in
theorem PySem.Challenge.cw_kinghall_k02_no_hall_holds : PySem.Challenge.rw_kinghall_k02_no_hall.Holds := by
  w_on; o_law; z_head; (case hw => w_witness2)
  k_fill
  intro w s₀ s₁ mg mb G y fa o pm cd doc dV kV ho hd hcd hD hmg hg args vals as L hpre hlay hrd hwl hlo
  z_open y L KX ZH ZN ZT
  clear ZH ZN ZT
  obtain rfl : dV = .none := Dflts.none hD rfl
  obtain rfl : kV = .none := Dflts.noKw hD
  obtain ⟨a, vs, ns, rfl, rfl, hobj, hints, hlen⟩ := Att.script_of (l := PySem.Challenge.rw_kinghall_k02_no_hall) (n := 63) rfl hpre hwl
  refine enter_call (codeAny_mono (KH.zcall (P := PySem.Challenge.rw_kinghall_k02_no_hall.prog) KX G hobj hints hlen hg ?F) fun r s' hq => ?_)
  case F =>
    refine' KH.all_mk (l := PySem.Challenge.rw_kinghall_k02_no_hall) KX G.T.g hmg ?g_MOST_PLAYERS ?a1 ?l1 ?c1 ?k1 ?a2 ?l2 ?c2 ?k2 ?a3 ?l3 ?c3 ?k3 ?a4 ?l4 ?c4 ?k4 ?a5 ?l5 ?c5 ?k5 ?a6 ?l6 ?c6 ?k6 ?a7 ?l7 ?c7 ?k7 ?a8 ?l8 ?c8 ?k8 ?a9 ?l9 ?c9 ?k9 ?a10 ?l10 ?c10 ?k10 ?a11 ?l11 ?c11 ?k11 ?a12 ?l12 ?c12 ?k12 ?a13 ?l13 ?c13 ?k13 ?a14 ?l14 ?c14 ?k14 ?a15 ?l15 ?c15 ?k15 ?a16 ?l16 ?c16 ?k16 ?a17 ?l17 ?c17 ?k17 ?a18 ?l18 ?c18 ?k18 ?a19 ?l19 ?c19 ?k19 ?a20 ?l20 ?c20 ?k20 ?a21 ?l21 ?c21 ?k21 ?a22 ?l22 ?c22 ?k22 ?a23 ?l23 ?c23 ?k23 ?a24 ?l24 ?c24 ?k24 ?a25 ?l25 ?c25 ?k25 ?a26 ?l26 ?c26 ?k26 ?a27 ?l27 ?c27 ?k27 ?a28 ?l28 ?c28 ?k28 ?n_HallError ?cl_HallError ?ty_HallError ?ex_HallError ?n_NoHall ?cl_NoHall ?ty_NoHall ?ex_NoHall ?n_NoPlayer ?cl_NoPlayer ?ty_NoPlayer ?n_NoRing ?cl_NoRing ?ty_NoRing ?n_NoRow ?cl_NoRow ?ty_NoRow ?n_Unlike ?cl_Unlike ?ty_Unlike ?ex_Unlike ?n_NoNote ?cl_NoNote ?ty_NoNote ?m_NoHall_HallError ?m_NoHall_NoHall ?m_NoHall_NoPlayer ?m_NoHall_NoRing ?m_NoHall_NoRow ?m_NoHall_Unlike ?m_NoHall_NoNote ?m_NoHall_ValueError ?m_NoHall_object ?m_NoHall_BaseException ?ga_NoHall ?gh_NoHall ?gc_NoHall ?gt_ ?tk_ ?z1 ?z2 ?z3 ?z4 ?z5 ?z6 ?z7 ?z8 ?z9 ?z10 ?z11 ?z12 ?z13 ?z14 ?z15 ?z16
    (case g_MOST_PLAYERS => k_is)
    (case a1 => k_is)
    (case l1 => k_is)
    (case c1 => k_is)
    (case k1 => k_is)
    (case a2 => k_is)
    (case l2 => k_is)
    (case c2 => k_is)
    (case k2 => k_is)
    (case a3 => k_is)
    (case l3 => k_is)
    (case c3 => k_is)
    (case k3 => k_is)
    (case a4 => k_is)
    (case l4 => k_is)
    (case c4 => k_is)
    (case k4 => k_is)
    (case a5 => k_is)
    (case l5 => k_is)
    (case c5 => k_is)
    (case k5 => k_is)
    (case a6 => k_is)
    (case l6 => k_is)
    (case c6 => k_is)
    (case k6 => k_is)
    (case a7 => k_is)
    (case l7 => k_is)
    (case c7 => k_is)
    (case k7 => k_is)
    (case a8 => k_is)
    (case l8 => k_is)
    (case c8 => k_is)
    (case k8 => k_is)
    (case a9 => k_is)
    (case l9 => k_is)
    (case c9 => k_is)
    (case k9 => k_is)
    (case a10 => k_is)
    (case l10 => k_is)
    (case c10 => k_is)
    (case k10 => k_is)
    (case a11 => k_is)
    (case l11 => k_is)
    (case c11 => k_is)
    (case k11 => k_is)
    (case a12 => k_is)
    (case l12 => k_is)
    (case c12 => k_is)
    (case k12 => k_is)
    (case a13 => k_is)
    (case l13 => k_is)
    (case c13 => k_is)
    (case k13 => k_is)
    (case a14 => k_is)
    (case l14 => k_is)
    (case c14 => k_is)
    (case k14 => k_is)
    (case a15 => k_is)
    (case l15 => k_is)
    (case c15 => k_is)
    (case k15 => k_is)
    (case a16 => k_is)
    (case l16 => k_is)
    (case c16 => k_is)
    (case k16 => k_is)
    (case a17 => k_is)
    (case l17 => k_is)
    (case c17 => k_is)
    (case k17 => k_is)
    (case a18 => k_is)
    (case l18 => k_is)
    (case c18 => k_is)
    (case k18 => k_is)
    (case a19 => k_is)
    (case l19 => k_is)
    (case c19 => k_is)
    (case k19 => k_is)
    (case a20 => k_is)
    (case l20 => k_is)
    (case c20 => k_is)
    (case k20 => k_is)
    (case a21 => k_is)
    (case l21 => k_is)
    (case c21 => k_is)
    (case k21 => k_is)
    (case a22 => k_is)
    (case l22 => k_is)
    (case c22 => k_is)
    (case k22 => k_is)
    (case a23 => k_is)
    (case l23 => k_is)
    (case c23 => k_is)
    (case k23 => k_is)
    (case a24 => k_is)
    (case l24 => k_is)
    (case c24 => k_is)
    (case k24 => k_is)
    (case a25 => k_is)
    (case l25 => k_is)
    (case c25 => k_is)
    (case k25 => k_is)
    (case a26 => k_is)
    (case l26 => k_is)
    (case c26 => k_is)
    (case k26 => k_is)
    (case a27 => k_is)
    (case l27 => k_is)
    (case c27 => k_is)
    (case k27 => k_is)
    (case a28 => k_is)
    (case l28 => k_is)
    (case c28 => k_is)
    (case k28 => k_is)
    (case n_HallError => k_is)
    (case cl_HallError => k_is)
    (case ty_HallError => k_is)
    (case ex_HallError => k_exc)
    (case n_NoHall => k_is)
    (case cl_NoHall => k_is)
    (case ty_NoHall => k_is)
    (case ex_NoHall => k_exc)
    (case n_NoPlayer => k_is)
    (case cl_NoPlayer => k_is)
    (case ty_NoPlayer => k_is)
    (case n_NoRing => k_is)
    (case cl_NoRing => k_is)
    (case ty_NoRing => k_is)
    (case n_NoRow => k_is)
    (case cl_NoRow => k_is)
    (case ty_NoRow => k_is)
    (case n_Unlike => k_is)
    (case cl_Unlike => k_is)
    (case ty_Unlike => k_is)
    (case ex_Unlike => k_exc)
    (case n_NoNote => k_is)
    (case cl_NoNote => k_is)
    (case ty_NoNote => k_is)
    (case m_NoHall_HallError => k_is)
    (case m_NoHall_NoHall => k_is)
    (case m_NoHall_NoPlayer => k_is)
    (case m_NoHall_NoRing => k_is)
    (case m_NoHall_NoRow => k_is)
    (case m_NoHall_Unlike => k_is)
    (case m_NoHall_NoNote => k_is)
    (case m_NoHall_ValueError => k_is)
    (case m_NoHall_object => k_is)
    (case m_NoHall_BaseException => k_is)
    (case ga_NoHall => k_is)
    (case gh_NoHall => k_is)
    (case gc_NoHall => k_is)
    (case gt_ => k_is)
    (case tk_ => k_is)
    (case z1 => k_is)
    (case z2 => k_is)
    (case z3 => k_is)
    (case z4 => k_is)
    (case z5 => k_is)
    (case z6 => k_is)
    (case z7 => k_is)
    (case z8 => k_is)
    (case z9 => k_is)
    (case z10 => k_is)
    (case z11 => k_is)
    (case z12 => k_is)
    (case z13 => k_is)
    (case z14 => k_is)
    (case z15 => k_is)
    (case z16 => k_is)
  obtain ⟨rfl, h2, h3, h4⟩ := hq
  exact ⟨.inl ⟨.bool true, .bool true, [], rfl, fun _ => rfl, .bool true, Att.post_true PySem.Challenge.rw_kinghall_k02_no_hall _, fun _ => ⟨List.Pairwise.nil, fun _ hm => (nomatch hm)⟩⟩, h2, h3, h4⟩
