import PyProof.Rows.All
import Wide.All
import OpenK.AllK
import Wide.FinOn
import Lean
import PyProof.EqAt
import PyProof.EqKinds
import PyProof.TupleCall
import PySem.Challenge.RW_kinghall_k15_whole_led_into_one_another
import PyProof.StationsW
import PyProof.ExcClass3
import PyProof.NsDelKeeps
import PyProof.Rows.CatchOwn
import PyProof.Draws
import PyProof.EnumMake
import PyProof.WalksMore
import PyProof.Rows.Range3
set_option Elab.async false
set_option linter.all false
set_option maxRecDepth 100000
namespace L2
open PySem PySem.Spec PyProof.Rows
abbrev Key := Sum Int Str
def keyIs : Key → Value → Bool
  | .inl k, v => Value.isInt k v
  | .inr x, v => Value.isStrOf x v
def keyH (w : World) : Key → Int
  | .inl k => hashInt k
  | .inr x => hashStr w x
theorem keyIs_shape : ∀ {k : Key} {v : Value}, keyIs k v = true → (∃ i t, k = Sum.inl i ∧ v = Value.int i t) ∨ (∃ x t, k = Sum.inr x ∧ v = Value.str x t)
  | .inl i, v, h => by
    obtain ⟨t, e⟩ := Value.isInt_shape (k := i) (v := v) h
    exact .inl ⟨i, t, rfl, e⟩
  | .inr x, v, h => by
    obtain ⟨t, e⟩ := Value.isStrOf_shape (x := x) (v := v) h
    exact .inr ⟨x, t, rfl, e⟩
theorem key_ll (a b : Int) : decide ((Sum.inl a : Key) = Sum.inl b) = (a == b) := by
  by_cases e : a = b
  · subst e; simp
  · have h : ¬ (Sum.inl a : Key) = Sum.inl b := fun q => e (Sum.inl.inj q)
    rw [decide_eq_false h]
    exact (beq_eq_false_iff_ne.mpr e).symm
theorem key_rr (a b : Str) : decide ((Sum.inr a : Key) = Sum.inr b) = decide (a = b) := by
  by_cases e : a = b
  · subst e; simp
  · have h : ¬ (Sum.inr a : Key) = Sum.inr b := fun q => e (Sum.inr.inj q)
    rw [decide_eq_false h, decide_eq_false e]
theorem key_lr (a : Int) (b : Str) : decide ((Sum.inl a : Key) = Sum.inr b) = false := decide_eq_false (fun q => nomatch q)
theorem key_rl (a : Str) (b : Int) : decide ((Sum.inr a : Key) = Sum.inl b) = false := decide_eq_false (fun q => nomatch q)
def mixKind (prog : Program) (w : World) : PySem.KeyKind prog w Key where
  is := keyIs
  hash := keyH w
  inj := fun v a b ha hb => by
    rcases keyIs_shape ha with ⟨i, t, rfl, rfl⟩ | ⟨x, t, rfl, rfl⟩
    · rcases keyIs_shape hb with ⟨j, u, rfl, e⟩ | ⟨y, u, rfl, e⟩
      · injection e with e1 _; rw [e1]
      · exact nomatch e
    · rcases keyIs_shape hb with ⟨j, u, rfl, e⟩ | ⟨y, u, rfl, e⟩
      · exact nomatch e
      · injection e with e1 _; rw [e1]
  byValue := fun k v h => by
    rcases keyIs_shape h with ⟨i, t, rfl, rfl⟩ | ⟨x, t, rfl, rfl⟩ <;> rfl
  pyHash := fun hv h => by
    rcases keyIs_shape hv with ⟨i, t, rfl, rfl⟩ | ⟨x, t, rfl, rfl⟩
    · exact wpAny_pyHash_int h
    · exact wpAny_pyHash_str h
  eqBool := fun hu hv h => by
    rcases keyIs_shape hu with ⟨i, t, rfl, rfl⟩ | ⟨x, t, rfl, rfl⟩
    · rcases keyIs_shape hv with ⟨j, u, rfl, rfl⟩ | ⟨y, u, rfl, rfl⟩
      · rw [key_ll] at h; exact wpAny_eqBool_int h
      · rw [key_lr] at h; exact SeqAt.EqAt.int_str i t y u _ _ _ _ h
    · rcases keyIs_shape hv with ⟨j, u, rfl, rfl⟩ | ⟨y, u, rfl, rfl⟩
      · rw [key_rl] at h; exact SeqAt.EqAt.str_int x t j u _ _ _ _ h
      · rw [key_rr] at h; exact wpAny_eqBool_str h
  «strs» := fun k x t v h => by
    rcases keyIs_shape h with ⟨i, u, rfl, e⟩ | ⟨y, u, rfl, e⟩
    · exact nomatch e
    · injection e with e1 _
      subst e1
      cases v <;> rfl
end L2
namespace L2
open PySem PySem.Spec PyProof.Rows
inductive V where
  | non | bl (b : Bool) | int (i : Int) | str (x : Str) | byt (b : Array UInt8) | flt (b : UInt64) | ref (a : Addr) | ty (n : String)
  deriving DecidableEq
def RelV : V → Value → Prop
  | .non, u => u = Value.none
  | .bl b, u => u = Value.bool b
  | .int i, u => ∃ t, u = Value.int i t
  | .str x, u => ∃ t, u = Value.str x t
  | .byt b, u => ∃ t, u = Value.bytes b t
  | .flt b, u => ∃ t, u = Value.float b t
  | .ref a, u => u = Value.ref a
  | .ty n, u => u = Value.type n
abbrev Vals : List V → List Value → Prop := Paired RelV
theorem Vals.length {xs : List V} {us : List Value} (r : Vals xs us) : xs.length = us.length := Paired.length r
theorem Vals.get : ∀ {xs : List V} {us : List Value} {i : Nat} {x : V}, Vals xs us → xs[i]? = some x → ∃ u, us[i]? = some u ∧ RelV x u
  | _, _, _, _, .nil, e => by simp at e
  | _, _, 0, _, .cons r _, e => by simp at e; subst e; exact ⟨_, rfl, r⟩
  | _, _, i + 1, x, .cons _ t, e => by
    obtain ⟨u, h1, h2⟩ := Vals.get (i := i) (x := x) t (by simpa using e)
    exact ⟨u, by simpa using h1, h2⟩
theorem Vals.set {x : V} {u : Value} (r : RelV x u) : ∀ {xs : List V} {us : List Value} (i : Nat), Vals xs us → Vals (xs.set i x) (us.set i u)
  | _, _, _, .nil => .nil
  | _, _, 0, .cons _ t => .cons r t
  | _, _, i + 1, .cons q t => .cons q (Vals.set r i t)
theorem Vals.append : ∀ {xs ys : List V} {us ws : List Value}, Vals xs us → Vals ys ws → Vals (xs ++ ys) (us ++ ws)
  | _, _, _, _, .nil, s => s
  | _, _, _, _, .cons r t, s => .cons r (Vals.append t s)
theorem Vals.take : ∀ {xs : List V} {us : List Value} (n : Nat), Vals xs us → Vals (xs.take n) (us.take n)
  | _, _, 0, _ => .nil
  | _, _, _ + 1, .nil => .nil
  | _, _, n + 1, .cons r t => .cons r (Vals.take n t)
theorem Vals.drop : ∀ {xs : List V} {us : List Value} (n : Nat), Vals xs us → Vals (xs.drop n) (us.drop n)
  | _, _, 0, r => r
  | _, _, _ + 1, .nil => .nil
  | _, _, n + 1, .cons _ t => Vals.drop n t
def RelO : Option V → Option Value → Prop
  | some v, some u => RelV v u
  | none, none => True
  | _, _ => False
def KV {κ : Type} : List (κ × V) → List (κ × Value) → Prop := Paired fun (p : κ × V) (q : κ × Value) => p.1 = q.1 ∧ RelV p.2 q.2
def kV : Key → V
  | .inl i => .int i
  | .inr x => .str x
inductive HO where
  /-- a list -/
  | lst (xs : List V)
  /-- a tuple (never changes) -/
  | tup (xs : List V)
  /-- a dict whose keys are ints and texts; one whose keys are tuples of ints and texts (the empty one is both) -/
  | dK (kvs : List (Key × V)) | dT (kvs : List (List Key × V))
  /-- a set of ints: its members, its size -/
  | set (S : Int → Bool) (n : Nat)
  /-- an instance of the class at C, its dict at dx, its attributes -/
  | ins (C dx : Addr) (fs : List (Str × V))
  /-- the dict of the instance at x -/
  | own (x : Addr)
  /-- the dict of an exception -/
  | xd (fs : List (Str × V))
  /-- a bound method, f of x -/
  | met (f x : Addr)
  /-- a range object lo, lo + 1, .. below hi -/
  | rng (lo hi : Int)
  /-- a thing that is known to the object (the script; a dict while a loop walks it): read, never written while it is so -/
  | frz (o : Obj) (u : HO)
  /-- a code object's table -/
  | tbl (ps : Array Value)
  /-- any other thing, by what is true of its one object (a def of one's own: SetO a S n := HO.ext fun h => ..) -/
  | ext (φ : Heap → Prop)
abbrev Hp := Addr → Option HO
def upd (H : Hp) (a : Addr) (o : HO) : Hp := fun b => if b = a then some o else H b
theorem upd_same {H : Hp} {a : Addr} {o : HO} : upd H a o a = some o := by unfold upd; rw [if_pos rfl]
theorem upd_ne {H : Hp} {a b : Addr} {o : HO} (h : b ≠ a) : upd H a o b = H b := by unfold upd; rw [if_neg h]
theorem ne_of_none {H : Hp} {a b : Addr} {o : HO} (h : H a = some o) (h' : H b = none) : a ≠ b := by
  intro e; subst e; rw [h] at h'; cases h'
section
variable (P : Program) (w : World)
def ObjOk (H : Hp) (h : Heap) (a : Addr) : HO → Prop
  | .lst xs => xs.length ≤ sizeLine ∧ ∃ (its : List Value) (n : Nat), Vals xs its ∧ h.get? a = some { cls := .type "list", data := .seq its.toArray n }
  | .tup xs => xs.length ≤ sizeLine ∧ ∃ its : List Value, Vals xs its ∧ IsTup h a its.toArray
  | .dK kvs => kvs.length ≤ sizeLine ∧ (a == sysModules) = false ∧ ∃ vs, KV kvs vs ∧ h.DictOf (mixKind P w) a vs
  | .dT kvs => kvs.length ≤ sizeLine ∧ (a == sysModules) = false ∧ ∃ xs : List (List Key × Addr × Value),
      Paired (fun (p : List Key × V) (q : List Key × Addr × Value) => p.1 = q.1 ∧ H q.2.1 = some (.tup (p.1.map kV)) ∧ RelV p.2 q.2.2) kvs xs ∧
      ∃ o es ep, h.get? a = some o ∧ o.ExactDict ∧ o.data = .dict es ep ∧ es.toList = xs.map (entryOfKey (tupleKind (mixKind P w))) ∧ (xs.map (·.1)).Nodup
  | .set S n => h.SetOf (intKind P w) a S n
  | .ins C dx fs => H dx = some (.own a) ∧ fs.length ≤ 1000 ∧ dx ≠ a ∧ h.get? a = some (PySem.W.instObj C dx) ∧
      ∃ mA, h.Ns1 dx mA ∧ (∀ f, RelO (fs.lookup f) (mA f)) ∧ PySem.Within mA (fs.map (·.1))
  | .own _ => ∃ o, h.get? a = some o
  | .xd fs => ∃ mA, h.Ns1 a mA ∧ ∀ f, RelO (fs.lookup f) (mA f)
  | .rng lo hi => ∃ t u v, h.get? a = some { cls := .type "range", data := .fields #[.int lo t, .int hi u, .int 1 v] }
  | .frz o u => h.get? a = some o ∧ ObjOk H h a u
  | .tbl ps => h.get? a = some { cls := .none, data := .fields ps }
  | .met f x => h.get? a = some (PySem.W.methodObj (.ref f) (.ref x))
  | .ext φ => φ h ∧ (∃ o, h.get? a = some o) ∧ ∀ h1 h2 : Heap, φ h1 → (∀ o, h1.get? a = some o → h2.get? a = some o) → φ h2
def HOk (H : Hp) (h : Heap) : Prop := ∀ a o, H a = some o → ObjOk P w H h a o
end
section
variable {P : Program} {w : World} {H H' : Hp} {h h' : Heap} {a : Addr} {o : HO}
theorem ObjOk.lt (x : ObjOk P w H h a o) : a < h.objs.size := by
  cases o with
  | lst xs => obtain ⟨_, _, _, _, e⟩ := x; exact Heap.lt_size e
  | tup xs => obtain ⟨_, _, _, p⟩ := x; exact p.lt
  | dK kvs => obtain ⟨_, _, _, _, o, _, _, e, _⟩ := x; exact Heap.lt_size e
  | dT kvs => obtain ⟨_, _, _, _, o, _, _, e, _⟩ := x; exact Heap.lt_size e
  | set S n => obtain ⟨o, _, _, _, e, _⟩ := x; exact Heap.lt_size e
  | ins C dx fs => obtain ⟨_, _, _, e, _⟩ := x; exact Heap.lt_size e
  | own y => obtain ⟨_, e⟩ := x; exact Heap.lt_size e
  | xd fs => obtain ⟨_, ⟨_, _, _, e, _⟩, _⟩ := x; exact Heap.lt_size e
  | rng lo hi => obtain ⟨_, _, _, e⟩ := x; exact Heap.lt_size e
  | frz ob u => obtain ⟨e, _⟩ := x; exact Heap.lt_size e
  | tbl ps => exact Heap.lt_size (show h.get? a = some _ from x)
  | met f y => exact Heap.lt_size (show h.get? a = some _ from x)
  | ext φ => obtain ⟨_, ⟨_, e⟩, _⟩ := x; exact Heap.lt_size e
theorem Paired.mapP {α β : Type} {F G : α → β → Prop} : ∀ {l₁ : List α} {l₂ : List β}, Paired F l₁ l₂ → (∀ a b, F a b → G a b) → Paired G l₁ l₂
  | _, _, .nil, _ => .nil
  | _, _, .cons r t, f => .cons (f _ _ r) (Paired.mapP t f)
theorem ObjOk.stay (x : ObjOk P w H h a o) (k : ∀ b u, (b = a ∨ H b = some (.own a)) → h.get? b = some u → h'.get? b = some u)
    (ho : ∀ b, H b = some (.own a) → H' b = some (.own a)) (ht : ∀ b xs, H b = some (.tup xs) → H' b = some (.tup xs)) : ObjOk P w H' h' a o := by
  induction o with
  | lst xs => obtain ⟨z, its, n, r, e⟩ := x; exact ⟨z, its, n, r, k _ _ (.inl rfl) e⟩
  | tup xs => obtain ⟨z, its, r, ob, e, c⟩ := x; exact ⟨z, its, r, ob, k _ _ (.inl rfl) e, c⟩
  | dK kvs => obtain ⟨z, y, vs, r, ob, es, ep, e, c⟩ := x; exact ⟨z, y, vs, r, ob, es, ep, k _ _ (.inl rfl) e, c⟩
  | dT kvs =>
    obtain ⟨z, y, xs, r, ob, es, ep, e, c⟩ := x
    exact ⟨z, y, xs, Paired.mapP r fun p q z => ⟨z.1, ht _ _ z.2.1, z.2.2⟩, ob, es, ep, k _ _ (.inl rfl) e, c⟩
  | set S n => obtain ⟨ob, es, ep, t, e, c⟩ := x; exact ⟨ob, es, ep, t, k _ _ (.inl rfl) e, c⟩
  | ins C dx fs =>
    obtain ⟨d, z, ne, e, mA, ⟨od, es, ep, e2, c⟩, r⟩ := x
    exact ⟨ho _ d, z, ne, k _ _ (.inl rfl) e, mA, ⟨od, es, ep, k _ _ (.inr d) e2, c⟩, r⟩
  | own y => obtain ⟨ob, e⟩ := x; exact ⟨ob, k _ _ (.inl rfl) e⟩
  | xd fs => obtain ⟨mA, ⟨od, es, ep, e, c⟩, r⟩ := x; exact ⟨mA, ⟨od, es, ep, k _ _ (.inl rfl) e, c⟩, r⟩
  | rng lo hi => obtain ⟨t, u, v, e⟩ := x; exact ⟨t, u, v, k _ _ (.inl rfl) e⟩
  | frz ob u ih => obtain ⟨e, q⟩ := x; exact ⟨k _ _ (.inl rfl) e, ih q⟩
  | tbl ps =>
    have e : h.get? a = some { cls := .none, data := .fields ps } := x
    show h'.get? a = some { cls := .none, data := .fields ps }
    exact k a _ (.inl rfl) e
  | met f y =>
    have e : h.get? a = some (PySem.W.methodObj (.ref f) (.ref y)) := x
    show h'.get? a = some (PySem.W.methodObj (.ref f) (.ref y))
    exact k a _ (.inl rfl) e
  | ext φ => obtain ⟨p, ⟨o, e⟩, st⟩ := x; exact ⟨st _ _ p fun o q => k _ _ (.inl rfl) q, ⟨o, k _ _ (.inl rfl) e⟩, st⟩
theorem HOk.lt (x : HOk P w H h) (e : H a = some o) : a < h.objs.size := (x a o e).lt
theorem HOk.fresh (x : HOk P w H h) (e : h.objs.size ≤ a) : H a = none := by
  cases q : H a with
  | none => rfl
  | some u => exact absurd (Nat.lt_of_lt_of_le (x.lt q) e) (Nat.lt_irrefl _)
theorem HOk.kept (x : HOk P w H h) (k : ∀ b u, h.get? b = some u → h'.get? b = some u) : HOk P w H h' := fun a o e =>
  (x a o e).stay (fun b u _ q => k b u q) (fun _ q => q) fun _ _ q => q
theorem HOk.laid (x : HOk P w H h) (k : ∀ b u, h.get? b = some u → h'.get? b = some u) (hp : h.objs.size ≤ a) (new : ObjOk P w (upd H a o) h' a o) : HOk P w (upd H a o) h' := fun b u e => by
  have hn := x.fresh hp
  by_cases hb : b = a
  · subst hb; rw [upd_same] at e; cases e; exact new
  · rw [upd_ne hb] at e
    exact (x b u e).stay (fun c v _ q => k c v q) (fun c q => by rw [upd_ne (ne_of_none q hn)]; exact q) fun c xs q => by rw [upd_ne (ne_of_none q hn)]; exact q
end
def Rd (H : Hp) (a : Addr) (u : HO) : Prop := H a = some u ∨ ∃ o, H a = some (.frz o u)
theorem Rd.of {H : Hp} {a : Addr} {u : HO} (h : H a = some u) : Rd H a u := .inl h
theorem Rd.ok {P : Program} {w : World} {H : Hp} {h : Heap} {a : Addr} {u : HO} (r : Rd H a u) (x : HOk P w H h) : ObjOk P w H h a u := by
  rcases r with r | ⟨o, r⟩
  · exact x a u r
  · obtain ⟨_, q⟩ := x a _ r
    exact q
def Mut : Option HO → Prop
  | some (.lst _) => True
  | some (.dK _) => True
  | some (.dT _) => True
  | some (.set _ _) => True
  | some (.ins _ _ _) => True
  | some (.ext _) => True
  | _ => False
section
variable {P : Program} {w : World} {H : Hp} {h h' : Heap} {x e : Addr} {o' : HO}
theorem HOk.write (ok : HOk P w H h) (mu : Mut (H x)) (he : e = x ∨ H e = some (.own x)) (k : ∀ b u, b ≠ e → h.get? b = some u → h'.get? b = some u) (heo : ∃ u, h'.get? e = some u)
    (new : ObjOk P w (upd H x o') h' x o') : HOk P w (upd H x o') h' := fun b u q => by
  have nown : ∀ c y, H c = some (.own y) → c ≠ x := fun c y r z => by subst z; rw [r] at mu; exact mu
  have ntup : ∀ c xs, H c = some (.tup xs) → c ≠ x := fun c xs r z => by subst z; rw [r] at mu; exact mu
  by_cases hb : b = x
  · subst hb; rw [upd_same] at q; cases q; exact new
  · rw [upd_ne hb] at q
    by_cases hbe : b = e
    · have q' : H b = some (.own x) := by
        rcases he with z | z
        · exact absurd (hbe.trans z) hb
        · rw [hbe]; exact z
      rw [q] at q'; cases q'
      obtain ⟨v, hv⟩ := heo
      exact ⟨v, by rw [hbe]; exact hv⟩
    · refine (ok b u q).stay (fun c v hc r => k c v ?_ r) (fun c r => by rw [upd_ne (nown c b r)]; exact r) fun c xs r => by rw [upd_ne (ntup c xs r)]; exact r
      rcases hc with rfl | hc
      · exact hbe
      · rintro rfl
        rcases he with z | z
        · exact nown c b hc z
        · rw [hc] at z; cases z; exact hb rfl
end
structure Un (fs ex : List Addr) (H H' : Hp) (h h' : Heap) : Prop where
  keep : ∀ b o, h.get? b = some o → H b = none → b ∉ fs → b ∉ ex → h'.get? b = some o
  slot : ∀ b o, h.get? b = some o → H b = none → b ∈ fs → b ∉ ex → ∃ sl, h'.get? b = some { o with slots := sl }
  free : ∀ b o, h.get? b = some o → H b = none → b ∉ ex → H' b = none
  there : ∀ b o, h.get? b = some o → b ∉ ex → ∃ o', h'.get? b = some o'
  tups : ∀ b xs, H b = some (.tup xs) → H' b = some (.tup xs)
  frzs : ∀ b o u, H b = some (.frz o u) → H' b = some (.frz o u)
  tbls : ∀ b ps, H b = some (.tbl ps) → ∃ more, H' b = some (.tbl (ps ++ more))
section
variable {fs fs' ex ex' : List Addr} {H H1 H2 : Hp} {h h1 h2 h' : Heap} {a x e : Addr} {o : HO}
theorem Un.any (u : Un fs ex H H1 h h1) {b : Addr} {ob : Obj} (q : h.get? b = some ob) (n : H b = none) (hx : b ∉ ex) : ∃ sl, h1.get? b = some { ob with slots := sl } := by
  by_cases hb : b ∈ fs
  · exact u.slot b ob q n hb hx
  · exact ⟨ob.slots, u.keep b ob q n hb hx⟩
theorem Un.trans (a : Un fs ex H H1 h h1) (b : Un fs ex H1 H2 h1 h2) : Un fs ex H H2 h h2 where
  keep := fun c ob q n hc hx => b.keep c ob (a.keep c ob q n hc hx) (a.free c ob q n hx) hc hx
  slot := fun c ob q n hc hx => by
    obtain ⟨sl, e1⟩ := a.slot c ob q n hc hx
    obtain ⟨sl', e2⟩ := b.slot c _ e1 (a.free c ob q n hx) hc hx
    exact ⟨sl', e2⟩
  free := fun c ob q n hx => by
    obtain ⟨o', e1⟩ := a.there c ob q hx
    exact b.free c o' e1 (a.free c ob q n hx) hx
  there := fun c ob q hx => by
    obtain ⟨o', e1⟩ := a.there c ob q hx
    exact b.there c o' e1 hx
  tups := fun c xs q => b.tups c xs (a.tups c xs q)
  frzs := fun c ob xs q => b.frzs c ob xs (a.frzs c ob xs q)
  tbls := fun c ps q => by
    obtain ⟨m1, e1⟩ := a.tbls c ps q
    obtain ⟨m2, e2⟩ := b.tbls c _ e1
    exact ⟨m1 ++ m2, by rw [e2, Array.append_assoc]⟩
theorem Un.kept (k : ∀ b u, h.get? b = some u → h'.get? b = some u) : Un fs ex H H h h' :=
  ⟨fun b ob q _ _ _ => k b ob q, fun b ob q _ _ _ => ⟨ob.slots, k b ob q⟩, fun _ _ _ n _ => n, fun b ob q _ => ⟨ob, k b ob q⟩, fun _ _ q => q, fun _ _ _ q => q, fun _ ps q => ⟨#[], by rw [q]; simp⟩⟩
theorem Un.refl : Un fs ex H H h h := Un.kept fun _ _ q => q
theorem Un.laid (k : ∀ b u, h.get? b = some u → h'.get? b = some u) (hp : h.objs.size ≤ a) (hn : H a = none) : Un fs ex H (upd H a o) h h' where
  keep := fun b u q _ _ _ => k b u q
  slot := fun b u q _ _ _ => ⟨u.slots, k b u q⟩
  free := fun b u q n _ => by rw [upd_ne (Nat.ne_of_lt (Nat.lt_of_lt_of_le (Heap.lt_size q) hp))]; exact n
  there := fun b u q _ => ⟨u, k b u q⟩
  tups := fun b xs q => by rw [upd_ne (ne_of_none q hn)]; exact q
  frzs := fun b u xs q => by rw [upd_ne (ne_of_none q hn)]; exact q
  tbls := fun b ps q => ⟨#[], by rw [upd_ne (ne_of_none q hn), q]; simp⟩
theorem Un.write (mu : Mut (H x)) (he : e = x ∨ H e = some (.own x)) (k : ∀ b u, b ≠ e → h.get? b = some u → h'.get? b = some u) (heo : ∃ u, h'.get? e = some u) : Un fs ex H (upd H x o) h h' := by
  have hx : ∀ b, H b = none → b ≠ x := fun b n z => by subst z; rw [n] at mu; exact mu
  have hb : ∀ b, H b = none → b ≠ e := fun b n z => by
    subst z
    rcases he with r | r
    · exact hx b n r
    · rw [n] at r; cases r
  have hm : ∀ b u, H b = some u → ¬ Mut (some u) → b ≠ x := fun b u q nm z => by subst z; rw [q] at mu; exact nm mu
  refine ⟨fun b u q n _ _ => k b u (hb b n) q, fun b u q n _ _ => ⟨u.slots, k b u (hb b n) q⟩, fun b u q n _ => by rw [upd_ne (hx b n)]; exact n, fun b u q _ => ?_,
    fun b xs q => by rw [upd_ne (hm b _ q fun z => z)]; exact q, fun b u xs q => by rw [upd_ne (hm b _ q fun z => z)]; exact q, fun b ps q => ⟨#[], by rw [upd_ne (hm b _ q fun z => z), q]; simp⟩⟩
  by_cases hbe : b = e
  · subst hbe; exact heo
  · exact ⟨u, k b u hbe q⟩
theorem Un.mono (u : Un fs ex H H1 h h1) (hs : ∀ b ∈ fs, b ∈ fs') (hx : ∀ b ∈ ex, b ∈ ex') : Un fs' ex' H H1 h h1 :=
  ⟨fun b ob q n hb he => u.keep b ob q n (fun z => hb (hs b z)) fun z => he (hx b z), fun _ _ q n _ he => u.any q n fun z => he (hx _ z), fun b ob q n he => u.free b ob q n fun z => he (hx b z), fun b ob q he => u.there b ob q fun z => he (hx b z), u.tups, u.frzs, u.tbls⟩
end
def trk (h : Heap) (H : Hp) : List Addr := (List.range h.objs.size).filter fun a => (H a).isSome
def hidT (h : Heap) (H : Hp) : Heap := PySem.W.hideAll h (trk h H)
theorem hidT_size (h : Heap) (H : Hp) : (hidT h H).objs.size = h.objs.size := PySem.W.hideAll_size _ _
theorem hidT_get {h : Heap} {H : Hp} {b : Addr} {o : Obj} (e : h.get? b = some o) (n : H b = none) : (hidT h H).get? b = some o :=
  PySem.W.hideAll_get _ e fun hm => by
    have q : (H b).isSome = true := (List.mem_filter.mp hm).2
    rw [n] at q; simp at q
theorem of_hidT {h : Heap} {H : Hp} {b : Addr} {o : Obj} (e : (hidT h H).get? b = some o) : h.get? b = some o ∧ H b = none := by
  have e' : h.get? b = some o := PySem.W.of_hideAll (trk h H) e
  refine ⟨e', ?_⟩
  cases q : H b with
  | none => rfl
  | some x =>
    have hm : b ∈ trk h H := List.mem_filter.mpr ⟨List.mem_range.mpr (Heap.lt_size e'), by simp [q]⟩
    have z : (hidT h H).get? b = none := PySem.W.hideAll_none (trk h H) hm
    rw [z] at e; cases e
def allNews (g h : Heap) (L : Addr) : List (Addr × Obj) := (List.range h.objs.size).filterMap fun a => if a = L ∨ (g.get? a).isSome = true then none else (h.get? a).map fun o => (a, o)
def rest (g h : Heap) (L d : Addr) : List (Addr × Obj) := (allNews g h L).filter fun p => decide (p.1 ≠ d)
end L2
namespace L2
open PySem PySem.Spec PyProof.Rows
structure Mod (K : PySem.W.Frag) (mg : Str → Option Value) (base : Heap) : Prop where
  kin : K.In base
  glob : base.Ns mainGlobals mg
  blt : ∃ mb, base.Ns builtinsNs mb ∧ ∀ x : Str, x ≠ "__name__" → mb x = bootBuiltins x
  nolimit : base.NoLimit
structure Cx where
  prog : Program
  w : World
  K : PySem.W.Frag
  mg : Str → Option Value
  base : Heap
  A : Around
  N : List Str
  s₀ : Shared
  H₀ : Hp
  env : Env
  outer : List Env
  stack : List Env
  ex : List Addr
  fn : Str → Bool
  calm : Bool
  pn : List (Addr × Obj)
  xe : Value → Shared → Prop
def frs (l : List Env) : List Addr := l.filterMap (·.frame)
abbrev Cx.fs (X : Cx) : List Addr := frs X.outer
def Vis (sc : Scope) (x : Str) : Prop := sc.names.lookup x = some .local ∨ sc.names.lookup x = some .cell ∨ sc.names.lookup x = some .free
def Loc (sc : Scope) (x : Str) : Prop := sc.names.lookup x = some .local ∨ sc.names.lookup x = some .cell
def Look (env : Env) (h : Heap) (m : Str → Option Value) (x : Str) (u : Value) : Prop :=
  (env.kindOf x = some .local ∧ m x = some u) ∨ ((env.kindOf x = some .cell ∨ env.kindOf x = some .free) ∧ ∃ c, env.cells.lookup x = some c ∧ h.IsCell c (some u))
structure Cx.Ok (X : Cx) : Prop where
  mod : Mod X.K X.mg X.base
  kind : X.env.scope.kind = .function
  glob : X.env.globals = mainGlobals
  blt : X.env.builtins = builtinsNs
  above : X.s₀.heap.objs.size ≤ X.env.locals
  inj : ∀ x y c, X.env.cells.lookup x = some c → X.env.cells.lookup y = some c → x = y
  has : ∀ x, (X.env.kindOf x = some .cell ∨ X.env.kindOf x = some .free) → ∃ c, X.env.cells.lookup x = some c
  cab : ∀ x c, X.fn x = true → X.env.cells.lookup x = some c → X.s₀.heap.objs.size ≤ c
  hd : X.calm = true → X.A.handled = none
  frames : X.A.frames = some X.stack
  stk : X.stack = X.outer ∨ (X.stack = X.env :: X.outer ∧ X.env.frame = some X.env.locals)
  exf : ∀ b ∈ X.ex, b ≠ X.env.locals ∧ ∀ x c, X.env.cells.lookup x = some c → c ≠ b
  bs : ∀ b o, X.base.get? b = some o → X.s₀.heap.get? b = some o ∧ X.H₀ b = none
  bsz : X.base.objs.size ≤ X.s₀.heap.objs.size
  noex : ∀ b o, X.base.get? b = some o → b ∉ X.ex
  exfs : ∀ b ∈ X.ex, b ∉ X.fs
  funs : X.s₀.heap.FunFrames X.base X.outer
  frf : ∀ b ∈ X.fs, X.H₀ b = none
structure Inv (X : Cx) (pins : List (Addr × Obj)) (σ : List (Option V)) (H : Hp) (s : Shared) : Prop where
  ok : X.Ok
  os : s.os = X.s₀.os
  bare : AllBare s.gens
  base : Un X.fs X.ex X.H₀ H X.s₀.heap s.heap
  loc : ∃ m, s.heap.Ns X.env.locals m ∧ ∀ (i : Nat) (x : Str) (v : V), X.N[i]? = some x → σ[i]? = some (some v) → Vis X.env.scope x → ∃ u, RelV v u ∧ Look X.env s.heap m x u
  cell : ∀ x c, X.env.cells.lookup x = some c → ∃ v, s.heap.IsCell c v
  free : H X.env.locals = none
  freeC : ∀ x c, X.env.cells.lookup x = some c → H c = none
  pin : ∀ p ∈ X.pn ++ pins, s.heap.get? p.1 = some p.2 ∧ H p.1 = none ∧ p.1 ≠ X.env.locals ∧ p.1 ∉ X.fs ∧ ∀ v, p.2.data ≠ .cell v
  hok : HOk X.prog X.w H s.heap
  len : σ.length = X.N.length
section
variable {X : Cx} {pins : List (Addr × Obj)} {σ : List (Option V)} {H H' : Hp} {s : Shared} {h' : Heap}
theorem Cx.Ok.nofr (ok : X.Ok) {b : Addr} {o : Obj} (e : X.base.get? b = some o) : b ∉ X.fs := fun hb => by
  have := (ok.funs.mem hb).1
  rw [e] at this; cases this
theorem Inv.bs (I : Inv X pins σ H s) : ∀ b o, X.base.get? b = some o → s.heap.get? b = some o ∧ H b = none := fun b o e =>
  ⟨I.base.keep b o (I.ok.bs b o e).1 (I.ok.bs b o e).2 (I.ok.nofr e) (I.ok.noex b o e), I.base.free b o (I.ok.bs b o e).1 (I.ok.bs b o e).2 (I.ok.noex b o e)⟩
theorem Inv.bk (I : Inv X pins σ H s) : ∀ b o, X.base.get? b = some o → s.heap.get? b = some o := fun b o e => (I.bs b o e).1
theorem Inv.mod (I : Inv X pins σ H s) : Mod X.K X.mg X.base := I.ok.mod
theorem Inv.kIn (I : Inv X pins σ H s) : X.K.In s.heap := I.ok.mod.kin.keeps I.bk
theorem Inv.nolimit (I : Inv X pins σ H s) : s.heap.NoLimit := I.ok.mod.nolimit.keeps I.bk
theorem Inv.fr (I : Inv X pins σ H s) : ∃ m, Fr X.base X.env.locals s.heap m :=
  let ⟨m, hn, _⟩ := I.loc
  ⟨m, hn, I.bk, Nat.le_trans I.ok.bsz I.ok.above⟩
theorem Inv.lt (I : Inv X pins σ H s) : X.env.locals < s.heap.objs.size := let ⟨_, hn, _⟩ := I.loc; hn.lt
theorem Inv.sz (I : Inv X pins σ H s) : X.s₀.heap.objs.size ≤ s.heap.objs.size := Nat.le_trans I.ok.above (Nat.le_of_lt I.lt)
theorem Inv.nofs (I : Inv X pins σ H s) {a : Addr} (h : s.heap.objs.size ≤ a) : a ∉ X.fs := fun hb => by
  obtain ⟨_, o, ho, _⟩ := I.ok.funs.mem hb
  exact absurd (Nat.lt_of_lt_of_le (Heap.lt_size ho) (Nat.le_trans I.sz h)) (Nat.lt_irrefl _)
theorem Inv.cne (I : Inv X pins σ H s) : ∀ x c, X.env.cells.lookup x = some c → c ≠ X.env.locals := fun x c e z => by
  obtain ⟨v, o, ho, hd⟩ := I.cell x c e
  obtain ⟨m, ⟨o', es, ep, ho', hd', _⟩, _⟩ := I.loc
  rw [z, ho'] at ho; cases ho; rw [hd'] at hd; cases hd
theorem Inv.funs (I : Inv X pins σ H s) : s.heap.FunFrames X.base X.outer := by
  have all : ∀ (l : List Env), (∀ b ∈ frs l, b ∈ X.fs) → X.s₀.heap.FunFrames X.base l → s.heap.FunFrames X.base l := by
    intro l
    induction l with
    | nil => intro _ _; trivial
    | cons env r ih =>
      intro hs hl
      obtain ⟨hk, ⟨L, o, hf, hn, ho, hd⟩, hr⟩ := hl
      have hL : L ∈ X.fs := hs L (by unfold frs; rw [List.filterMap_cons, hf]; exact List.mem_cons_self)
      obtain ⟨sl, e⟩ := I.base.slot L o ho (I.ok.frf L hL) hL fun z => I.ok.exfs L z hL
      exact ⟨hk, ⟨L, _, hf, hn, e, hd⟩, ih (fun b hb => hs b (by unfold frs; rw [List.filterMap_cons, hf]; exact List.mem_cons_of_mem _ hb)) hr⟩
  exact all X.outer (fun _ hb => hb) I.ok.funs
theorem Inv.stack (I : Inv X pins σ H s) : s.heap.FunFrames X.base X.stack := by
  rcases I.ok.stk with e | ⟨e, hf⟩
  · rw [e]; exact I.funs
  · rw [e]
    obtain ⟨m, hn, _⟩ := I.loc
    refine .cons (by rw [I.ok.kind]; decide) hf hn ?_ I.funs
    exact Heap.get?_none_of_le (Nat.le_trans I.ok.bsz I.ok.above)
theorem Inv.stkSub (I : Inv X pins σ H s) : ∀ b ∈ frs X.stack, b ∈ X.env.locals :: X.fs := fun b hb => by
  rcases I.ok.stk with e | ⟨e, hf⟩
  · rw [e] at hb; exact List.mem_cons_of_mem _ hb
  · rw [e] at hb
    unfold frs at hb
    rw [List.filterMap_cons, hf] at hb
    exact hb
theorem Inv.stkFree (I : Inv X pins σ H s) : ∀ b ∈ frs X.stack, H b = none := fun b hb => by
  rcases List.mem_cons.mp (I.stkSub b hb) with e | hb
  · rw [e]; exact I.free
  · obtain ⟨_, o, ho, _⟩ := I.ok.funs.mem hb
    exact I.base.free b o ho (I.ok.frf b hb) fun z => I.ok.exfs b z hb
theorem Inv.step {g' : Array GenState} {t' : Nat} {d' : Drawn} {ch : List Addr} (I : Inv X pins σ H s)
    (hch : ∀ b ∈ ch, (b ∈ X.ex ∨ X.s₀.heap.objs.size ≤ b) ∧ b ≠ X.env.locals ∧ (∀ x c, X.env.cells.lookup x = some c → c ≠ b) ∧ ∀ p ∈ X.pn ++ pins, p.1 ≠ b)
    (keep : ∀ b o, b ≠ X.env.locals → b ∉ X.fs → b ∉ ch → s.heap.get? b = some o → H b = none → h'.get? b = some o)
    (slot : ∀ b o, b ≠ X.env.locals → b ∈ X.fs → b ∉ ch → s.heap.get? b = some o → H b = none → ∃ sl, h'.get? b = some { o with slots := sl }) (free : ∀ b o, b ∉ ch → s.heap.get? b = some o → H b = none → H' b = none)
    (there : ∀ b o, b ∉ ch → s.heap.get? b = some o → ∃ o', h'.get? b = some o')
    (tups : ∀ b xs, H b = some (.tup xs) → H' b = some (.tup xs)) (frzs : ∀ b o u, H b = some (.frz o u) → H' b = some (.frz o u)) (tbls : ∀ b ps, H b = some (.tbl ps) → ∃ more, H' b = some (.tbl (ps ++ more)))
    (ns : ∀ m, s.heap.Ns X.env.locals m → h'.Ns X.env.locals m) (hok : HOk X.prog X.w H' h') (hg : AllBare g') :
    Inv X pins σ H' { s with heap := h', gens := g', drawn := d', toks := t' } := by
  have neL : ∀ b o, X.s₀.heap.get? b = some o → b ≠ X.env.locals := fun b o e => Nat.ne_of_lt (Nat.lt_of_lt_of_le (Heap.lt_size e) I.ok.above)
  have neC : ∀ b o, X.s₀.heap.get? b = some o → b ∉ X.ex → b ∉ ch := fun b o e hx hb => by
    rcases (hch b hb).1 with z | z
    · exact hx z
    · exact absurd (Nat.lt_of_lt_of_le (Heap.lt_size e) z) (Nat.lt_irrefl _)
  have cellK : ∀ x c, X.env.cells.lookup x = some c → ∀ v, s.heap.IsCell c v → h'.IsCell c v := fun x c e v ⟨o, ho, hd⟩ => by
    have nch : c ∉ ch := fun z => (hch c z).2.2.1 x c e rfl
    by_cases hc : c ∈ X.fs
    · obtain ⟨sl, q⟩ := slot c o (I.cne x c e) hc nch ho (I.freeC x c e)
      exact ⟨_, q, hd⟩
    · exact ⟨o, keep c o (I.cne x c e) hc nch ho (I.freeC x c e), hd⟩
  refine ⟨I.ok, I.os, hg, ⟨fun b o e n hb hx => ?_, fun b o e n hb hx => ?_, fun b o e n hx => ?_, fun b o e hx => ?_, fun b xs e => tups b xs (I.base.tups b xs e), fun b o xs e => frzs b o xs (I.base.frzs b o xs e), fun b ps e => ?_⟩, ?_, fun x c e => ?_, ?_, fun x c e => ?_, fun p hp => ?_, hok, I.len⟩
  · exact keep b o (neL b o e) hb (neC b o e hx) (I.base.keep b o e n hb hx) (I.base.free b o e n hx)
  · obtain ⟨sl, e1⟩ := I.base.slot b o e n hb hx
    obtain ⟨sl', e2⟩ := slot b _ (neL b o e) hb (neC b o e hx) e1 (I.base.free b o e n hx)
    exact ⟨sl', e2⟩
  · obtain ⟨o', e1⟩ := I.base.there b o e hx
    exact free b o' (neC b o e hx) e1 (I.base.free b o e n hx)
  · obtain ⟨o', e1⟩ := I.base.there b o e hx
    exact there b o' (neC b o e hx) e1
  · obtain ⟨m1, e1⟩ := I.base.tbls b ps e
    obtain ⟨m2, e2⟩ := tbls b _ e1
    exact ⟨m1 ++ m2, by rw [e2, Array.append_assoc]⟩
  · obtain ⟨m, hn, hl⟩ := I.loc
    refine ⟨m, ns m hn, fun i x v e1 e2 e3 => ?_⟩
    obtain ⟨u, r, l⟩ := hl i x v e1 e2 e3
    refine ⟨u, r, ?_⟩
    rcases l with l | ⟨k, c, e, z⟩
    · exact .inl l
    · exact .inr ⟨k, c, e, cellK x c e _ z⟩
  · obtain ⟨v, z⟩ := I.cell x c e
    exact ⟨v, cellK x c e v z⟩
  · obtain ⟨m, ⟨o, _, _, ho, _⟩, _⟩ := I.loc
    exact free _ o (fun z => (hch _ z).2.1 rfl) ho I.free
  · obtain ⟨v, o, ho, hd⟩ := I.cell x c e
    exact free c o (fun z => (hch c z).2.2.1 x c e rfl) ho (I.freeC x c e)
  · obtain ⟨e, n, ne, nf, d⟩ := I.pin p hp
    have nch : p.1 ∉ ch := fun z => (hch p.1 z).2.2.2 p hp rfl
    exact ⟨keep p.1 p.2 ne nf nch e n, free p.1 p.2 nch e n, ne, nf, d⟩
theorem Inv.un {t' : Nat} (I : Inv X pins σ H s) (u : Un X.fs [] H H' s.heap h') (hok : HOk X.prog X.w H' h') : Inv X pins σ H' { s with heap := h', toks := t' } := by
  obtain ⟨m, ⟨o, es, ep, ho, r⟩, _⟩ := id I.loc
  obtain ⟨sl, hL⟩ := u.any ho I.free (by simp)
  exact I.step (g' := s.gens) (d' := s.drawn) (ch := []) (fun _ z => nomatch z) (fun b o _ hb _ e n => u.keep b o e n hb (by simp)) (fun b o _ hb _ e n => u.slot b o e n hb (by simp)) (fun b o _ e n => u.free b o e n (by simp)) (fun b o _ e => u.there b o e (by simp)) u.tups u.frzs u.tbls (fun m' hm => by
    obtain ⟨o', es', ep', ho', r'⟩ := hm
    rw [ho] at ho'; cases ho'
    exact ⟨_, es', ep', hL, r'⟩) hok I.bare
theorem Inv.call {g' : Array GenState} {t' : Nat} {d' : Drawn} {ch : List Addr} (I : Inv X pins σ H s) (u : Un (frs X.stack) ch H H' s.heap h') (hok : HOk X.prog X.w H' h') (hg : AllBare g')
    (hch : ∀ b ∈ ch, (b ∈ X.ex ∨ X.s₀.heap.objs.size ≤ b) ∧ b ≠ X.env.locals ∧ (∀ x c, X.env.cells.lookup x = some c → c ≠ b) ∧ ∀ p ∈ X.pn ++ pins, p.1 ≠ b) :
    Inv X pins σ H' { s with heap := h', gens := g', drawn := d', toks := t' } := by
  obtain ⟨m, ⟨o, es, ep, ho, r⟩, _⟩ := id I.loc
  obtain ⟨sl, hL⟩ := u.any ho I.free fun z => (hch _ z).2.1 rfl
  exact I.step (ch := ch) hch (fun b o hL hb hc e n => u.keep b o e n (fun z => (List.mem_cons.mp (I.stkSub b z)).elim hL hb) hc) (fun b o _ _ hc e n => u.any e n hc) (fun b o hc e n => u.free b o e n hc) (fun b o hc e => u.there b o e hc) u.tups u.frzs u.tbls (fun m' hm => by
    obtain ⟨o', es', ep', ho', r'⟩ := hm
    rw [ho] at ho'; cases ho'
    exact ⟨_, es', ep', hL, r'⟩) hok hg
theorem Inv.turned {t' : Nat} {it : Addr} (I : Inv X pins σ H s) (k : ∀ b o, b ≠ it → s.heap.get? b = some o → h'.get? b = some o) (hn : H it = none) (hL : it ≠ X.env.locals)
    (h1 : it ∈ X.ex ∨ X.s₀.heap.objs.size ≤ it) (h2 : ∀ x c, X.env.cells.lookup x = some c → c ≠ it) (h3 : ∀ p ∈ X.pn ++ pins, p.1 ≠ it) : Inv X pins σ H { s with heap := h', toks := t' } := by
  have nit : ∀ b u, H b = some u → b ≠ it := fun b u e z => by rw [z, hn] at e; cases e
  refine I.step (g' := s.gens) (d' := s.drawn) (ch := [it]) (fun b hb => ?_) (fun b o _ _ hc e _ => k b o (fun z => hc (by simp [z])) e) (fun b o _ _ hc e _ => ⟨o.slots, k b o (fun z => hc (by simp [z])) e⟩) (fun _ _ _ _ n => n)
    (fun b o hc e => ⟨o, k b o (fun z => hc (by simp [z])) e⟩) (fun _ _ e => e) (fun _ _ _ e => e) (fun b ps e => ⟨#[], by rw [e]; simp⟩) (fun m hm => ?_) (fun b u e => ?_) I.bare
  · have e : b = it := by simpa using hb
    subst e
    exact ⟨h1, hL, h2, h3⟩
  · obtain ⟨o, es, ep, ho, r⟩ := hm
    exact ⟨o, es, ep, k _ o (Ne.symm hL) ho, r⟩
  · refine (I.hok b u e).stay (fun c v hc q => k c v ?_ q) (fun _ q => q) fun _ _ q => q
    rcases hc with z | z
    · rw [z]; exact nit b u e
    · exact nit c _ z
theorem Inv.tok (I : Inv X pins σ H s) (t : Nat) : Inv X pins σ H { s with toks := t } := I.un (h' := s.heap) (t' := t) Un.refl I.hok
theorem Inv.kept {t' : Nat} (I : Inv X pins σ H s) (k : ∀ b u, s.heap.get? b = some u → h'.get? b = some u) : Inv X pins σ H { s with heap := h', toks := t' } := I.un (Un.kept k) (I.hok.kept k)
theorem Inv.laid {a : Addr} {o : HO} {t' : Nat} (I : Inv X pins σ H s) (k : ∀ b u, s.heap.get? b = some u → h'.get? b = some u) (hp : s.heap.objs.size ≤ a) (new : ObjOk X.prog X.w (upd H a o) h' a o) :
    Inv X pins σ (upd H a o) { s with heap := h', toks := t' } := I.un (Un.laid k hp (I.hok.fresh hp)) (I.hok.laid k hp new)
theorem Inv.write {x e : Addr} {o : HO} {t' : Nat} (I : Inv X pins σ H s) (mu : Mut (H x)) (he : e = x ∨ H e = some (.own x)) (k : ∀ b u, b ≠ e → s.heap.get? b = some u → h'.get? b = some u) (heo : ∃ u, h'.get? e = some u)
    (new : ObjOk X.prog X.w (upd H x o) h' x o) : Inv X pins σ (upd H x o) { s with heap := h', toks := t' } := I.un (Un.write mu he k heo) (I.hok.write mu he k heo new)
theorem Inv.weak {σ' : List (Option V)} (I : Inv X pins σ H s) (hl : σ'.length = σ.length) (w : ∀ (i : Nat) v, σ'[i]? = some (some v) → σ[i]? = some (some v)) : Inv X pins σ' H s :=
  ⟨I.ok, I.os, I.bare, I.base, let ⟨m, hn, hl'⟩ := I.loc; ⟨m, hn, fun i x v e1 e2 e3 => hl' i x v e1 (w i v e2) e3⟩, I.cell, I.free, I.freeC, I.pin, I.hok, hl.trans I.len⟩
theorem Inv.pins_of {pins' : List (Addr × Obj)} (I : Inv X pins σ H s) (h : ∀ p ∈ pins', s.heap.get? p.1 = some p.2 ∧ H p.1 = none ∧ p.1 ≠ X.env.locals ∧ p.1 ∉ X.fs ∧ ∀ v, p.2.data ≠ .cell v) : Inv X pins' σ H s :=
  ⟨I.ok, I.os, I.bare, I.base, I.loc, I.cell, I.free, I.freeC, fun p hp => (List.mem_append.mp hp).elim (fun z => I.pin p (List.mem_append_left _ z)) (h p), I.hok, I.len⟩
theorem nodup_ix {N : List Str} (hN : N.Nodup) {i j : Nat} {x : Str} (a : N[i]? = some x) (b : N[j]? = some x) : i = j := by
  obtain ⟨h1, e1⟩ := List.getElem?_eq_some_iff.mp a
  obtain ⟨h2, e2⟩ := List.getElem?_eq_some_iff.mp b
  exact (List.getElem_inj hN).mp (e1.trans e2.symm)
theorem store_ok2 {M : Model} {A : Around} {E : Value → Shared → Prop} {i : Nat} {x : Str} {v : V} {u : Value} {Q : Unit → Shared → Prop} (I : Inv X pins σ H s) (hN : X.N.Nodup) (hi : X.N[i]? = some x) (hx : Loc X.env.scope x) (r : RelV v u)
    (h : ∀ s', Inv X pins (σ.set i (some v)) H s' → (∃ a, Heap.SameBut a s.heap s'.heap ∧ (a = X.env.locals ∨ X.env.cells.lookup x = some a)) → Q () s') (hf : X.fn x = true ∨ X.env.scope.names.lookup x = some .local := by first | exact .inl rfl | exact .inr rfl | assumption) : wpAny M A (storeName X.env x u) Q E s := by
  obtain ⟨m, hn, hl⟩ := id I.loc
  have hcls : (X.env.scope.kind == .class || (X.env.scope.kind == .module && X.env.locals != X.env.globals)) = false := by rw [I.ok.kind]; rfl
  have hiσ : i < σ.length := by rw [I.len]; exact (List.getElem?_eq_some_iff.mp hi).1
  have cne := I.cne
  have tracked : ∀ {a : Addr} {h' : Heap}, (∃ o, s.heap.get? a = some o ∧ H a = none) → Heap.SameBut a s.heap h' → HOk X.prog X.w H h' := fun {a h'} ha hs b ob e => by
    obtain ⟨_, _, hfree⟩ := ha
    refine (I.hok b ob e).stay (fun c w' hc q => (hs.2 c ?_).trans q) (fun _ q => q) fun _ _ q => q
    rintro rfl
    rcases hc with rfl | hc
    · rw [hfree] at e; cases e
    · rw [hfree] at hc; cases hc
  rcases hx with hk | hk
  · refine wpAny_storeName_local hk hn (fun h' hn' hs => ?_) hcls
    obtain ⟨oL, _, _, hoL, _⟩ := id hn
    refine h _ ⟨I.ok, I.os, I.bare, ⟨fun b o e n hb hx => ?_, fun b o e n hb hx => ?_, I.base.free, fun b o e hx => ?_, I.base.tups, I.base.frzs, I.base.tbls⟩, ⟨_, hn', fun j y v' e1 e2 e3 => ?_⟩, fun y c e => ?_, I.free, I.freeC, fun p hp => ?_, tracked ⟨oL, hoL, I.free⟩ hs, by simpa using I.len⟩ ⟨_, hs, .inl rfl⟩
    · exact (hs.2 b (Nat.ne_of_lt (Nat.lt_of_lt_of_le (Heap.lt_size e) I.ok.above))).trans (I.base.keep b o e n hb hx)
    · obtain ⟨sl, e1⟩ := I.base.slot b o e n hb hx
      exact ⟨sl, (hs.2 b (Nat.ne_of_lt (Nat.lt_of_lt_of_le (Heap.lt_size e) I.ok.above))).trans e1⟩
    · obtain ⟨o', e1⟩ := I.base.there b o e hx
      exact ⟨o', (hs.2 b (Nat.ne_of_lt (Nat.lt_of_lt_of_le (Heap.lt_size e) I.ok.above))).trans e1⟩
    · by_cases hj : j = i
      · subst hj
        rw [hi] at e1; cases e1
        rw [List.getElem?_set_self hiσ] at e2
        cases e2
        exact ⟨u, r, .inl ⟨hk, by simp⟩⟩
      · rw [List.getElem?_set_ne (Ne.symm hj)] at e2
        obtain ⟨u', r', q⟩ := hl j y v' e1 e2 e3
        refine ⟨u', r', ?_⟩
        rcases q with ⟨k, e⟩ | ⟨k, c, e, z⟩
        · refine .inl ⟨k, ?_⟩
          have : y ≠ x := fun e => hj (nodup_ix hN e1 (e ▸ hi))
          simp [this, e]
        · exact .inr ⟨k, c, e, z.sameBut hs (cne y c e)⟩
    · obtain ⟨w', z⟩ := I.cell y c e
      exact ⟨w', z.sameBut hs (cne y c e)⟩
    · obtain ⟨e, n, ne, nf, d⟩ := I.pin p hp
      exact ⟨(hs.2 p.1 ne).trans e, n, ne, nf, d⟩
  · have hfn : X.fn x = true := by
      rcases hf with z | z
      · exact z
      · rw [z] at hk; cases hk
    obtain ⟨c, hc⟩ := I.ok.has x (.inl hk)
    obtain ⟨w', z⟩ := I.cell x c hc
    refine wpAny_storeName_cell I.ok.kind hk hc z (fun h' hc' hs => ?_)
    obtain ⟨oc, hoc, hocd⟩ := id z
    refine h { s with heap := h' } ⟨I.ok, I.os, I.bare, ⟨fun b o e n hb hx => ?_, fun b o e n hb hx => ?_, I.base.free, fun b o e hx => ?_, I.base.tups, I.base.frzs, I.base.tbls⟩, ⟨m, hn.sameBut hs (Ne.symm (cne x c hc)), fun j y v' e1 e2 e3 => ?_⟩, fun y c' e => ?_, I.free, I.freeC, fun p hp => ?_, tracked ⟨oc, hoc, I.freeC x c hc⟩ hs, by simpa using I.len⟩ ⟨c, hs, .inr hc⟩
    · exact (hs.2 b (Nat.ne_of_lt (Nat.lt_of_lt_of_le (Heap.lt_size e) (I.ok.cab x c hfn hc)))).trans (I.base.keep b o e n hb hx)
    · obtain ⟨sl, e1⟩ := I.base.slot b o e n hb hx
      exact ⟨sl, (hs.2 b (Nat.ne_of_lt (Nat.lt_of_lt_of_le (Heap.lt_size e) (I.ok.cab x c hfn hc)))).trans e1⟩
    · obtain ⟨o', e1⟩ := I.base.there b o e hx
      exact ⟨o', (hs.2 b (Nat.ne_of_lt (Nat.lt_of_lt_of_le (Heap.lt_size e) (I.ok.cab x c hfn hc)))).trans e1⟩
    · by_cases hj : j = i
      · subst hj
        rw [hi] at e1; cases e1
        rw [List.getElem?_set_self hiσ] at e2
        cases e2
        exact ⟨u, r, .inr ⟨.inl hk, c, hc, hc'⟩⟩
      · rw [List.getElem?_set_ne (Ne.symm hj)] at e2
        obtain ⟨u', r', q⟩ := hl j y v' e1 e2 e3
        refine ⟨u', r', ?_⟩
        rcases q with q | ⟨k, c', e, z'⟩
        · exact .inl q
        · refine .inr ⟨k, c', e, z'.sameBut hs ?_⟩
          rintro rfl
          exact hj (nodup_ix hN e1 (I.ok.inj _ _ _ e hc ▸ hi))
    · by_cases hcc : c' = c
      · subst hcc; exact ⟨_, hc'⟩
      · obtain ⟨w2, z2⟩ := I.cell y c' e
        exact ⟨w2, z2.sameBut hs hcc⟩
    · obtain ⟨e, n, ne, nf, d⟩ := I.pin p hp
      refine ⟨(hs.2 p.1 ?_).trans e, n, ne, nf, d⟩
      intro q
      rw [q, hoc] at e
      have q' : oc = p.2 := Option.some.inj e
      exact d w' (by rw [← q']; exact hocd)
theorem store_ok {M : Model} {A : Around} {E : Value → Shared → Prop} {i : Nat} {x : Str} {v : V} {u : Value} {Q : Unit → Shared → Prop} (I : Inv X pins σ H s) (hN : X.N.Nodup) (hi : X.N[i]? = some x) (hx : Loc X.env.scope x) (r : RelV v u)
    (h : ∀ s', Inv X pins (σ.set i (some v)) H s' → Q () s') (hf : X.fn x = true ∨ X.env.scope.names.lookup x = some .local := by first | exact .inl rfl | exact .inr rfl | assumption) : wpAny M A (storeName X.env x u) Q E s :=
  store_ok2 I hN hi hx r (fun s' I' _ => h s' I') hf
theorem Inv.call' {s' : Shared} {ch : List Addr} (I : Inv X pins σ H s) (ho : s'.os = s.os) (u : Un (frs X.stack) ch H H' s.heap s'.heap) (hok : HOk X.prog X.w H' s'.heap) (hg : AllBare s'.gens)
    (hch : ∀ b ∈ ch, (b ∈ X.ex ∨ X.s₀.heap.objs.size ≤ b) ∧ b ≠ X.env.locals ∧ (∀ x c, X.env.cells.lookup x = some c → c ≠ b) ∧ ∀ p ∈ X.pn ++ pins, p.1 ≠ b) : Inv X pins σ H' s' := by
  obtain ⟨h', g', d', t', o'⟩ := s'
  have e : o' = s.os := ho
  subst e
  exact I.call (g' := g') (t' := t') (d' := d') u hok hg hch
end
abbrev XK := Value → Option Addr → Hp → Prop
abbrev St := List (Option V)
abbrev VK := V → Hp → Prop
abbrev TE := St → Hp → VK → Prop
abbrev TT := St → Hp → (Bool → Hp → Prop) → Prop
abbrev TA := St → Hp → (List V → Hp → Prop) → Prop
structure Ends where
  nx : St → Hp → Prop
  rt : VK
  bk : St → Hp → Prop := fun _ _ => False
  ct : St → Hp → Prop := fun _ _ => False
abbrev TS := Ends → St → Hp → Prop
def EP (X : Cx) (pins : List (Addr × Obj)) (σ : St) (Q : VK) (u : Value) (s' : Shared) : Prop := ∃ v H', Inv X pins σ H' s' ∧ RelV v u ∧ Q v H'
def TP (X : Cx) (pins : List (Addr × Obj)) (σ : St) (Q : Bool → Hp → Prop) (b : Bool) (s' : Shared) : Prop := ∃ H', Inv X pins σ H' s' ∧ Q b H'
def AP (X : Cx) (pins : List (Addr × Obj)) (σ : St) (Q : List V → Hp → Prop) (us : List Value) (s' : Shared) : Prop := ∃ vs H', Inv X pins σ H' s' ∧ Vals vs us ∧ Q vs H'
def SP (X : Cx) (pins : List (Addr × Obj)) (D : Ends) (f : Flow) (s' : Shared) : Prop :=
  match f with
  | .next => ∃ σ' H', Inv X pins σ' H' s' ∧ D.nx σ' H'
  | .brk => ∃ σ' H', Inv X pins σ' H' s' ∧ D.bk σ' H'
  | .cont => ∃ σ' H', Inv X pins σ' H' s' ∧ D.ct σ' H'
  | .ret u => ∃ v σ' H', Inv X pins σ' H' s' ∧ RelV v u ∧ D.rt v H'
def PE (X : Cx) (e : Expr) (t : TE) : Prop :=
  ∀ (pins : List (Addr × Obj)) (s : Shared) (σ : St) (H : Hp) (Q : VK), Inv X pins σ H s → t σ H Q → wpAny (model X.prog X.w) X.A (eval e X.env) (EP X pins σ Q) X.xe s
def PT (X : Cx) (e : Expr) (t : TT) : Prop :=
  ∀ (pins : List (Addr × Obj)) (s : Shared) (σ : St) (H : Hp) (Q : Bool → Hp → Prop), Inv X pins σ H s → t σ H Q → wpAny (model X.prog X.w) X.A (isTrue e X.env (eval e X.env)) (TP X pins σ Q) X.xe s
def PW (X : Cx) (e : Expr) (t : TT) : Prop :=
  ∀ (whole : Sem Value) (pins : List (Addr × Obj)) (s : Shared) (σ : St) (H : Hp) (Q : Bool → Hp → Prop), Inv X pins σ H s → t σ H Q → wpAny (model X.prog X.w) X.A (isTrue e X.env whole) (TP X pins σ Q) X.xe s
theorem PW.pt {X : Cx} {e : Expr} {t : TT} (h : PW X e t) : PT X e t := h _
def PA (X : Cx) (es : List Expr) (t : TA) : Prop :=
  ∀ (pos : Pos) (pins : List (Addr × Obj)) (s : Shared) (σ : St) (H : Hp) (Q : List V → Hp → Prop), Inv X pins σ H s → t σ H Q → wpAny (model X.prog X.w) X.A (spliced (backTo pos (starEach es X.env))) (AP X pins σ Q) X.xe s
def PS (X : Cx) (st : Stmt) (t : TS) : Prop :=
  ∀ (pins : List (Addr × Obj)) (s : Shared) (σ : St) (H : Hp) (D : Ends), Inv X pins σ H s → t D σ H → wpAny (model X.prog X.w) X.A (exec st X.env) (SP X pins D) X.xe s
def PSs (X : Cx) (st : List Stmt) (t : TS) : Prop :=
  ∀ (pins : List (Addr × Obj)) (s : Shared) (σ : St) (H : Hp) (D : Ends), Inv X pins σ H s → t D σ H → wpAny (model X.prog X.w) X.A (execs st X.env) (SP X pins D) X.xe s
theorem thn {α : Type} {t : Sem α} {Q Q' : α → Shared → Prop} {M : Model} {A : Around} {E : Value → Shared → Prop} {s : Shared} (h : wpAny M A t Q E s) (hQ : ∀ a s, Q a s → Q' a s) : wpAny M A t Q' E s := wpAny_mono h hQ fun _ _ x => x
end L2
namespace L2
open PySem PySem.Spec PyProof.Rows
section
variable {X : Cx}
def tVar (i : Nat) : TE := fun σ H Q => ∃ v, σ[i]? = some (some v) ∧ Q v H
def tC (v : V) : TE := fun _ H Q => Q v H
theorem pe_var {i : Nat} {x : Str} {pos : Pos} (hN : X.N[i]? = some x) (hv : Vis X.env.scope x) (hd : (x == ("__debug__" : Str)) = false := by decide) (hcd : (x == ("__classdict__" : Str)) = false := by decide) : PE X (.Name x pos) (tVar i) := by
  intro pins s σ H Q I h
  obtain ⟨v, e, h⟩ := h
  obtain ⟨m, hn, hl⟩ := I.loc
  obtain ⟨u, r, l⟩ := hl i x v hN e hv
  have fin : EP X pins σ Q u s := ⟨v, H, I, r, h⟩
  rcases l with ⟨hk, hm⟩ | ⟨hk, c, hc, hcell⟩
  · exact wpAny_Name (wpAny_loadName_local I.ok.kind hk hn hm fin) hd
  · rcases hk with hk | hk
    · exact wpAny_Name (wpAny_loadName_cell I.ok.kind hk hc hcell fin) hd
    · exact wpAny_Name (wpAny_loadName_free I.ok.kind hk hc hcell fin hcd) hd
theorem pe_int {i j pos} : PE X (.Constant (.int i) j pos) (tC (.int i)) := fun _ _ _ H _ I h => wpAny_Constant_int ⟨.int i, H, I.tok _, ⟨_, rfl⟩, h⟩
theorem pe_bl {b j pos} : PE X (.Constant (.bool b) j pos) (tC (.bl b)) := fun _ _ _ H _ I h => Constant_bool ⟨.bl b, H, I, rfl, h⟩
theorem pe_str {x j pos} : PE X (.Constant (.str x) j pos) (tC (.str x)) := fun _ _ _ H _ I h => Calls.Constant_str ⟨.str x, H, I.tok _, ⟨_, rfl⟩, h⟩
def Gl (X : Cx) (x : Str) : Prop := X.env.kindOf x = some .globalImplicit
theorem ld_glob {E : Value → Shared → Prop} {pins : List (Addr × Obj)} {s : Shared} {σ : St} {H : Hp} {x : Str} {u : Value} {pos : Pos} {Q : Value → Shared → Prop} (I : Inv X pins σ H s) (hg : Gl X x) (hm : X.mg x = some u) (h : Q u s)
    (hd : (x == ("__debug__" : Str)) = false := by decide) : wpAny (model X.prog X.w) X.A (eval (.Name x pos) X.env) Q E s :=
  Calls.Name_function_global I.ok.kind hg (Calls.loadGlobal_global (by rw [I.ok.glob]; exact I.mod.glob.keeps I.bk) hm h) hd
theorem ld_blt {E : Value → Shared → Prop} {pins : List (Addr × Obj)} {s : Shared} {σ : St} {H : Hp} {x : Str} {u : Value} {pos : Pos} {Q : Value → Shared → Prop} (I : Inv X pins σ H s) (hg : Gl X x) (hm : X.mg x = none) (hv : bootBuiltins x = some u) (h : Q u s)
    (hn : x ≠ "__name__" := by decide) (hd : (x == ("__debug__" : Str)) = false := by decide) : wpAny (model X.prog X.w) X.A (eval (.Name x pos) X.env) Q E s := by
  obtain ⟨mb, h1, h2⟩ := I.mod.blt
  exact Calls.Name_function_global I.ok.kind hg (Calls.loadGlobal_builtin (by rw [I.ok.glob]; exact I.mod.glob.keeps I.bk) hm (by rw [I.ok.blt]; exact h1.keeps I.bk) ((h2 x hn).trans hv) h) hd
theorem pe_glob {x : Str} {v : V} {u : Value} {pos : Pos} (hg : Gl X x) (hm : X.mg x = some u) (r : RelV v u) (hd : (x == ("__debug__" : Str)) = false := by decide) : PE X (.Name x pos) (tC v) :=
  fun _ _ _ H _ I h => ld_glob I hg hm ⟨v, H, I, r, h⟩ hd
theorem pe_bltn {x : Str} {v : V} {u : Value} {pos : Pos} (hg : Gl X x) (hm : X.mg x = none) (hv : bootBuiltins x = some u) (r : RelV v u) (hn : x ≠ "__name__" := by decide) (hd : (x == ("__debug__" : Str)) = false := by decide) : PE X (.Name x pos) (tC v) :=
  fun _ _ _ H _ I h => ld_blt I hg hm hv ⟨v, H, I, r, h⟩ hn hd
variable {a b : Expr} {ta tb : TE} {pos : Pos}
def tB (t : TE) : TT := fun σ H Q => t σ H fun x H1 => ∃ c, x = .bl c ∧ Q c H1
theorem pt_val {e : Expr} {t : TE} (h : PE X e t) (he : ∀ whole, isTrue e X.env whole = (do let v ← whole; standAt e.pos; holding [v] (truthy v)) := by intro _; rfl) : PT X e (tB t) := by
  intro pins s σ H Q I hw
  refine isTrue_plain (thn (h pins s σ H _ I hw) fun v s1 ⟨x, H1, I1, r1, q1⟩ => ?_) (he _)
  obtain ⟨d, rfl, q⟩ := q1
  cases r1
  exact wpAny_truthy_bool ⟨H1, I1, q⟩
variable {tA tB' : TT} {rest : List Expr}
def tAnd (t u : TT) : TT := fun σ H Q => t σ H fun c H1 => if c = true then u σ H1 Q else Q false H1
def tOr (t u : TT) : TT := fun σ H Q => t σ H fun c H1 => if c = true then Q true H1 else u σ H1 Q
def tNot (t : TT) : TT := fun σ H Q => t σ H fun c H1 => Q (!c) H1
theorem pw_and1 (ha : PT X a tA) : PW X (.BoolOp .And [a] pos) tA := by
  intro wh pins s σ H Q I h
  refine isTrue_and (thn (ha pins s σ H Q I h) fun c s1 e => ?_)
  cases c with
  | true => exact isTrue_and_nil e
  | false => exact e
theorem pw_or1 (ha : PT X a tA) : PW X (.BoolOp .Or [a] pos) tA := by
  intro wh pins s σ H Q I h
  refine isTrue_or (thn (ha pins s σ H Q I h) fun c s1 e => ?_)
  cases c with
  | false => exact isTrue_or_nil e
  | true => exact e
theorem pw_and (ha : PT X a tA) (hb : PW X (.BoolOp .And (b :: rest) pos) tB') : PW X (.BoolOp .And (a :: b :: rest) pos) (tAnd tA tB') := by
  intro wh pins s σ H Q I h
  refine isTrue_and (thn (ha pins s σ H _ I h) fun c s1 ⟨H1, I1, q1⟩ => ?_)
  cases c with
  | true => exact hb wh pins s1 σ H1 Q I1 q1
  | false => exact ⟨H1, I1, q1⟩
theorem pw_or (ha : PT X a tA) (hb : PW X (.BoolOp .Or (b :: rest) pos) tB') : PW X (.BoolOp .Or (a :: b :: rest) pos) (tOr tA tB') := by
  intro wh pins s σ H Q I h
  refine isTrue_or (thn (ha pins s σ H _ I h) fun c s1 ⟨H1, I1, q1⟩ => ?_)
  cases c with
  | true => exact ⟨H1, I1, q1⟩
  | false => exact hb wh pins s1 σ H1 Q I1 q1
theorem pt_not (ha : PT X a tA) : PT X (.UnaryOp .Not a pos) (tNot tA) := by
  intro pins s σ H Q I h
  exact isTrue_not (ha pins s σ H (fun c H1 => Q (!c) H1) I h)
def tAndV (ta tb : TE) : TE := fun σ H Q => ta σ H fun x H1 => ∃ c, x = .bl c ∧ if c = true then tb σ H1 Q else Q (.bl false) H1
def tOrV (ta tb : TE) : TE := fun σ H Q => ta σ H fun x H1 => ∃ c, x = .bl c ∧ if c = true then Q (.bl true) H1 else tb σ H1 Q
def tNotV (ta : TE) : TE := fun σ H Q => ta σ H fun x H1 => ∃ c, x = .bl c ∧ Q (.bl (!c)) H1
theorem pe_one {op} {t : TE} (h : PE X a t) : PE X (.BoolOp op [a] pos) t := fun pins s σ H Q I hw => BoolOp_one (h pins s σ H Q I hw)
theorem pe_and (ha : PE X a ta) (hb : PE X (.BoolOp .And (b :: rest) pos) tb) : PE X (.BoolOp .And (a :: b :: rest) pos) (tAndV ta tb) := by
  intro pins s σ H Q I h
  refine BoolOp_and (thn (ha pins s σ H _ I h) fun v s1 ⟨x, H1, I1, r1, q1⟩ => ?_)
  obtain ⟨c, rfl, q1⟩ := q1
  cases r1
  refine wpAny_truthy_bool ?_
  cases c with
  | true => exact hb pins s1 σ H1 Q I1 q1
  | false => exact ⟨.bl false, H1, I1, rfl, q1⟩
theorem pe_or (ha : PE X a ta) (hb : PE X (.BoolOp .Or (b :: rest) pos) tb) : PE X (.BoolOp .Or (a :: b :: rest) pos) (tOrV ta tb) := by
  intro pins s σ H Q I h
  refine BoolOp_or (thn (ha pins s σ H _ I h) fun v s1 ⟨x, H1, I1, r1, q1⟩ => ?_)
  obtain ⟨c, rfl, q1⟩ := q1
  cases r1
  refine wpAny_truthy_bool ?_
  cases c with
  | false => exact hb pins s1 σ H1 Q I1 q1
  | true => exact ⟨.bl true, H1, I1, rfl, q1⟩
theorem pe_not (ha : PE X a ta) : PE X (.UnaryOp .Not a pos) (tNotV ta) := by
  intro pins s σ H Q I h
  refine UnaryOp_ (thn (ha pins s σ H _ I h) fun v s1 ⟨x, H1, I1, r1, q1⟩ => ?_)
  obtain ⟨c, rfl, q1⟩ := q1
  cases r1
  exact not_of (wpAny_truthy_bool ⟨.bl (!c), H1, I1, rfl, q1⟩)
end
end L2
namespace L2
open PySem PySem.Spec PyProof.Rows
def SqL (K : PySem.W.Frag) (H : Hp) (a : Addr) (xs : List V) : Prop :=
  Rd H a (.lst xs) ∨
    ∃ (o : Obj) (its : Array Value) (n : Nat), K.lookup a = some o ∧ o.cls = .type "list" ∧ o.dict = none ∧ o.data = .seq its n ∧ its.size ≤ sizeLine ∧ Vals xs its.toList
def SqT (K : PySem.W.Frag) (H : Hp) (a : Addr) (xs : List V) : Prop :=
  Rd H a (.tup xs) ∨
    ∃ (o : Obj) (its : Array Value) (n : Nat), K.lookup a = some o ∧ o.cls = .type "tuple" ∧ o.data = .seq its n ∧ its.size ≤ sizeLine ∧ Vals xs its.toList
def absV : Value → Option V
  | .none => some .non
  | .bool b => some (.bl b)
  | .int i _ => some (.int i)
  | .str x _ => some (.str x)
  | .bytes b _ => some (.byt b)
  | .float b _ => some (.flt b)
  | .ref a => some (.ref a)
  | .type n => some (.ty n)
  | _ => none
theorem RelV.abs {x : V} {u : Value} (r : RelV x u) : absV u = some x := by
  cases x with
  | non => cases r; rfl
  | bl _ => cases r; rfl
  | int _ => obtain ⟨t, rfl⟩ := r; rfl
  | str _ => obtain ⟨t, rfl⟩ := r; rfl
  | byt _ => obtain ⟨t, rfl⟩ := r; rfl
  | flt _ => obtain ⟨t, rfl⟩ := r; rfl
  | ref _ => cases r; rfl
  | ty _ => cases r; rfl
theorem RelV.inj {x y : V} {u : Value} (r : RelV x u) (q : RelV y u) : x = y := Option.some.inj (r.abs.symm.trans q.abs)
theorem Vals.inj : ∀ {xs ys : List V} {us : List Value}, Vals xs us → Vals ys us → xs = ys
  | _, _, _, .nil, .nil => rfl
  | _, _, _, .cons r t, .cons r' t' => by rw [r.inj r', Vals.inj t t']
section
variable {X : Cx} {pins : List (Addr × Obj)} {σ : St} {H : Hp} {s : Shared} {a : Addr} {xs ys : List V}
theorem SqL.of {K : PySem.W.Frag} (h : H a = some (.lst xs)) : SqL K H a xs := .inl (.inl h)
theorem SqT.of {K : PySem.W.Frag} (h : H a = some (.tup xs)) : SqT K H a xs := .inl (.inl h)
theorem Inv.list (I : Inv X pins σ H s) (h : SqL X.K H a xs) : ∃ its : List Value, Vals xs its ∧ PlainL s.heap a its.toArray ∧ xs.length ≤ sizeLine := by
  rcases h with h | ⟨o, its, n, hk, hc, hd, hs, hz, r⟩
  · obtain ⟨z, its, n, r, e⟩ := h.ok I.hok
    exact ⟨its, r, ⟨_, n, e, rfl, rfl, rfl⟩, z⟩
  · refine ⟨its.toList, r, ⟨o, n, I.kIn a o hk, hc, hd, by simpa using hs⟩, ?_⟩
    have e := r.length
    simp only [Array.length_toList] at e
    omega
theorem Inv.tuple (I : Inv X pins σ H s) (h : SqT X.K H a xs) : ∃ its : List Value, Vals xs its ∧ IsTup s.heap a its.toArray ∧ xs.length ≤ sizeLine := by
  rcases h with h | ⟨o, its, n, hk, hc, hs, hz, r⟩
  · obtain ⟨z, its, r, p⟩ := h.ok I.hok
    exact ⟨its, r, p, z⟩
  · refine ⟨its.toList, r, ⟨o, I.kIn a o hk, hc, n, by simpa using hs⟩, ?_⟩
    have e := r.length
    simp only [Array.length_toList] at e
    omega
theorem Inv.list_inj (I : Inv X pins σ H s) (h : SqL X.K H a xs) (h' : SqL X.K H a ys) : xs = ys := by
  obtain ⟨its, r, ⟨o, n, e, _, _, d⟩, _⟩ := I.list h
  obtain ⟨its', r', ⟨o', n', e', _, _, d'⟩, _⟩ := I.list h'
  rw [e] at e'; cases e'
  rw [d] at d'
  injection d' with d1 _
  have : its = its' := by simpa using congrArg Array.toList d1
  subst this
  exact r.inj r'
theorem Inv.tuple_inj (I : Inv X pins σ H s) (h : SqT X.K H a xs) (h' : SqT X.K H a ys) : xs = ys := by
  obtain ⟨its, r, ⟨o, e, _, n, d⟩, _⟩ := I.tuple h
  obtain ⟨its', r', ⟨o', e', _, n', d'⟩, _⟩ := I.tuple h'
  rw [e] at e'; cases e'
  rw [d] at d'
  injection d' with d1 _
  have : its = its' := by simpa using congrArg Array.toList d1
  subst this
  exact r.inj r'
end
abbrev Cx.wish (X : Cx) (E : Value → Shared → Prop) : Cx := { X with xe := E }
abbrev Cx.nox (X : Cx) : Cx := X.wish fun _ _ => False
theorem Cx.Ok.wish {X : Cx} (ok : X.Ok) (E : Value → Shared → Prop) : (X.wish E).Ok :=
  ⟨ok.mod, ok.kind, ok.glob, ok.blt, ok.above, ok.inj, ok.has, ok.cab, ok.hd, ok.frames, ok.stk, ok.exf, ok.bs, ok.bsz, ok.noex, ok.exfs, ok.funs, ok.frf⟩
theorem Cx.Ok.unwish {X : Cx} {E : Value → Shared → Prop} (ok : (X.wish E).Ok) : X.Ok :=
  ⟨ok.mod, ok.kind, ok.glob, ok.blt, ok.above, ok.inj, ok.has, ok.cab, ok.hd, ok.frames, ok.stk, ok.exf, ok.bs, ok.bsz, ok.noex, ok.exfs, ok.funs, ok.frf⟩
section
variable {X : Cx} {pins : List (Addr × Obj)} {σ : St} {H : Hp} {s : Shared} {E : Value → Shared → Prop}
theorem Inv.wish (I : Inv X pins σ H s) (E : Value → Shared → Prop) : Inv (X.wish E) pins σ H s := ⟨I.ok.wish E, I.os, I.bare, I.base, I.loc, I.cell, I.free, I.freeC, I.pin, I.hok, I.len⟩
theorem Inv.unwish (I : Inv (X.wish E) pins σ H s) : Inv X pins σ H s := ⟨I.ok.unwish, I.os, I.bare, I.base, I.loc, I.cell, I.free, I.freeC, I.pin, I.hok, I.len⟩
theorem SP.unwish {D : Ends} {f : Flow} {s' : Shared} (h : SP (X.wish E) pins D f s') : SP X pins D f s' := by
  cases f with
  | next => obtain ⟨σ', H', I, q⟩ := h; exact ⟨σ', H', I.unwish, q⟩
  | brk => obtain ⟨σ', H', I, q⟩ := h; exact ⟨σ', H', I.unwish, q⟩
  | cont => obtain ⟨σ', H', I, q⟩ := h; exact ⟨σ', H', I.unwish, q⟩
  | ret u => obtain ⟨v, σ', H', I, r, q⟩ := h; exact ⟨v, σ', H', I.unwish, r, q⟩
theorem PE.nox {e : Expr} {t : TE} (h : PE X.nox e t) : PE X e t := fun pins s σ H Q I hw =>
  wpAny_mono (h pins s σ H Q (I.wish _) hw) (fun _ _ ⟨v, H', I', r, q⟩ => ⟨v, H', I'.unwish, r, q⟩) fun _ _ z => False.elim z
theorem PT.nox {e : Expr} {t : TT} (h : PT X.nox e t) : PT X e t := fun pins s σ H Q I hw =>
  wpAny_mono (h pins s σ H Q (I.wish _) hw) (fun _ _ ⟨H', I', q⟩ => ⟨H', I'.unwish, q⟩) fun _ _ z => False.elim z
theorem PSs.nox {st : List Stmt} {t : TS} (h : PSs X.nox st t) : PSs X st t := fun pins s σ H D I hw =>
  wpAny_mono (h pins s σ H D (I.wish _) hw) (fun _ _ q => q.unwish) fun _ _ z => False.elim z
end
section
variable {X : Cx} {st : Stmt} {rest : List Stmt} {t u : TS} {e : Expr} {te : TE} {pos : Pos}
def tNext : TS := fun D σ H => D.nx σ H
def tSeq (t u : TS) : TS := fun D σ H => t { D with nx := u D } σ H
theorem pss_nil : PSs X [] tNext := fun _ _ σ H _ I h => wpAny_execs_nil ⟨σ, H, I, h⟩
theorem pss_cons (h1 : PS X st t) (h2 : PSs X rest u) : PSs X (st :: rest) (tSeq t u) := by
  intro pins s σ H D I h
  refine wpAny_execs_cons (thn (h1 pins s σ H { D with nx := u D } I h) fun f s1 q => ?_)
  cases f with
  | next =>
    obtain ⟨σ', H', I', q⟩ := q
    exact h2 pins s1 σ' H' D I' q
  | ret v => exact q
  | brk => exact q
  | cont => exact q
theorem pss_one (h1 : PS X st t) : PSs X [st] t := by
  intro pins s σ H D I h
  refine wpAny_execs_cons (thn (h1 pins s σ H D I h) fun f s1 q => ?_)
  cases f with
  | next => exact wpAny_execs_nil q
  | ret v => exact q
  | brk => exact q
  | cont => exact q
theorem Inv.quiet {pins : List (Addr × Obj)} {σ : St} {H : Hp} {s : Shared} (I : Inv X pins σ H s) : interactive X.env = false := by simp [interactive, I.ok.kind]
def tDrop (te : TE) : TS := fun D σ H => te σ H fun _ H1 => D.nx σ H1
theorem ps_expr (he : PE X e te) (hs : swapsWith e none pos.line X.env = pure false := by rfl) : PS X (.Expr e pos) (tDrop te) := by
  intro pins s σ H D I h
  exact wpAny_Expr_any (thn (he pins s σ H _ I h) fun v s1 ⟨x, H1, I1, r1, q1⟩ => ⟨σ, H1, I1, q1⟩) I.quiet hs
def tRet (te : TE) : TS := fun D σ H => te σ H D.rt
theorem ps_ret (he : PE X e te) : PS X (.Return (some e) pos) (tRet te) := by
  intro pins s σ H D I h
  exact wpAny_Return_some (thn (he pins s σ H _ I h) fun v s1 ⟨x, H1, I1, r1, q1⟩ => ⟨x, σ, H1, I1, r1, q1⟩)
def tIfS (c : TT) (t u : TS) : TS := fun D σ H => c σ H fun b H1 => if b = true then t D σ H1 else u D σ H1
theorem ps_if {c : Expr} {a b : List Stmt} {tc : TT} (hc : PT X c tc) (ha : PSs X a t) (hb : PSs X b u) : PS X (.If c a b pos) (tIfS tc t u) := by
  intro pins s σ H D I h
  refine wpAny_If (thn (hc pins s σ H _ I h) fun d s1 ⟨H1, I1, q1⟩ => ?_)
  cases d with
  | true => exact ha pins s1 σ H1 D I1 q1
  | false => exact hb pins s1 σ H1 D I1 q1
def tNever : TS := fun _ _ _ => False
theorem pss_never {sts : List Stmt} : PSs X sts tNever := fun _ _ _ _ _ _ h => h.elim
end
abbrev TG := V → St → Hp → (St → Hp → Prop) → Prop
abbrev TGs := List V → St → Hp → (St → Hp → Prop) → Prop
def PG (X : Cx) (target : Expr) (t : TG) : Prop :=
  ∀ (pins : List (Addr × Obj)) (s : Shared) (σ : St) (H : Hp) (v : V) (u : Value) (Q : St → Hp → Prop), Inv X pins σ H s → RelV v u → t v σ H Q →
    wpAny (model X.prog X.w) X.A (assign target X.env u) (fun _ s' => ∃ σ' H', Inv X pins σ' H' s' ∧ Q σ' H') X.xe s
def PGs (X : Cx) (ts : List Expr) (t : TGs) : Prop :=
  ∀ (pins : List (Addr × Obj)) (s : Shared) (σ : St) (H : Hp) (vs : List V) (us : List Value) (Q : St → Hp → Prop), Inv X pins σ H s → Vals vs us → t vs σ H Q →
    wpAny (model X.prog X.w) X.A (assignInOrder ((assignEach ts X.env).map (·.2)) us) (fun _ s' => ∃ σ' H', Inv X pins σ' H' s' ∧ Q σ' H') X.xe s
abbrev TSet := V → V → V → Hp → (Hp → Prop) → Prop
def PSet (X : Cx) (t : TSet) : Prop :=
  ∀ (pins : List (Addr × Obj)) (s : Shared) (σ : St) (H : Hp) (o i v : V) (ov iv u : Value) (Q : Hp → Prop), Inv X pins σ H s → RelV o ov → RelV i iv → RelV v u → t o i v H Q →
    wpAny (model X.prog X.w) X.A (setItem ov iv u) (fun _ s' => ∃ H', Inv X pins σ H' s' ∧ Q H') X.xe s
abbrev TIp := V → V → Hp → VK → Prop
def PIp (X : Cx) (op : Operator) (t : TIp) : Prop :=
  ∀ (pins : List (Addr × Obj)) (s : Shared) (σ : St) (H : Hp) (x y : V) (v u : Value) (Q : VK), Inv X pins σ H s → RelV x v → RelV y u → t x y H Q →
    wpAny (model X.prog X.w) X.A (inplaceOp op v u) (EP X pins σ Q) X.xe s
section
variable {X : Cx} {pos : Pos}
def gName (i : Nat) : TG := fun v σ H Q => Q (σ.set i (some v)) H
theorem pg_name {i : Nat} {x : Str} (hN : X.N.Nodup) (hi : X.N[i]? = some x) (hx : Loc X.env.scope x) (hf : X.fn x = true ∨ X.env.scope.names.lookup x = some .local := by first | exact .inl rfl | exact .inr rfl | assumption) : PG X (.Name x pos) (gName i) := by
  intro pins s σ H v u Q I r h
  exact wpAny_assign_Name (store_ok I hN hi hx r (fun s' I' => ⟨_, H, I', h⟩) hf)
def gNil : TGs := fun vs σ H Q => vs = [] ∧ Q σ H
def gCons (t : TG) (u : TGs) : TGs := fun vs σ H Q => ∃ v r, vs = v :: r ∧ t v σ H fun σ' H' => u r σ' H' Q
theorem pgs_nil : PGs X [] gNil := by
  intro pins s σ H vs us Q I r h
  obtain ⟨e, h⟩ := h
  subst e
  cases r
  exact assignInOrder_nil ⟨σ, H, I, h⟩
theorem pgs_cons {e : Expr} {es : List Expr} {t : TG} {u : TGs} (h1 : PG X e t) (h2 : PGs X es u)
    (hs : (assignEach (e :: es) X.env).map (·.2) = assign e X.env :: (assignEach es X.env).map (·.2) := by rfl) : PGs X (e :: es) (gCons t u) := by
  intro pins s σ H vs us Q I r h
  obtain ⟨v, vr, e1, h⟩ := h
  subst e1
  cases r with
  | cons r rr =>
    rw [hs]
    refine assignInOrder_cons (thn (h1 pins s σ H _ _ _ I r h) fun _ s1 ⟨σ1, H1, I1, q1⟩ => ?_)
    exact h2 pins s1 σ1 H1 _ _ Q I1 rr q1
def gTup (K : PySem.W.Frag) (n : Nat) (t : TGs) : TG := fun v σ H Q => ∃ a xs, v = .ref a ∧ SqT K H a xs ∧ xs.length = n ∧ t xs σ H Q
theorem pg_tup {es : List Expr} {k : Nat} {t : TGs} {n : Nat} (hc : X.calm = true) (h : PGs X es t)
    (hn : (assignEach es X.env).length = n := by rfl) (hst : (assignEach es X.env).findIdx? (·.1) = none := by rfl) : PG X (.Tuple es k pos) (gTup X.K n t) := by
  intro pins s σ H v u Q I r hw
  obtain ⟨a, xs, e1, hq, hl, hw⟩ := hw
  subst e1
  cases r
  obtain ⟨its, rv, ht, hz⟩ := I.tuple hq
  refine assign_Tuple_tuple (I.ok.hd hc) ht (by simp [hn, ← hl, rv.length]) hst fun h' hx => ?_
  have I1 : Inv X pins σ H { s with heap := h' } := I.kept (t' := s.toks) fun b o e => hx b o (Nat.ne_of_lt (Heap.lt_size e)) e
  exact h pins _ σ H xs _ Q I1 (by simpa using rv) hw
def gSub (to ti : TE) (t : TSet) : TG := fun v σ H Q => to σ H fun o H1 => ti σ H1 fun i H2 => t o i v H2 fun H3 => Q σ H3
theorem pg_sub {o i : Expr} {to ti : TE} {t : TSet} (ho : PE X o to) (hi : PE X i ti) (hs : PSet X t)
    (ha : ∀ v, assign (.Subscript o i pos) X.env v = (do
      let ov ← holding [v] (eval o X.env)
      let iv ← holding [v, ov] (eval i X.env)
      standAt pos
      holding [v, ov, iv] (setItem ov iv v)
      release [v, ov, iv] []) := by intro _; rfl) : PG X (.Subscript o i pos) (gSub to ti t) := by
  intro pins s σ H v u Q I r h
  rw [ha]
  refine wpAny_bind (wpAny_holding (thn (ho pins s σ H _ I h) fun ov s1 ⟨x, H1, I1, r1, q1⟩ => ?_))
  refine wpAny_bind (wpAny_holding (thn (hi pins s1 σ H1 _ I1 q1) fun iv s2 ⟨y, H2, I2, r2, q2⟩ => ?_))
  refine wpAny_bind (wpAny_standAt (wpAny_bind (wpAny_holding (thn (hs pins s2 σ H2 x y v ov iv u _ I2 r1 r2 r q2) fun _ s3 ⟨H3, I3, q3⟩ => ?_))))
  exact wpAny_release ⟨σ, H3, I3, q3⟩
def tAsg (te : TE) (g : TG) : TS := fun D σ H => te σ H fun x H1 => g x σ H1 D.nx
theorem ps_asg {tg e : Expr} {te : TE} {g : TG} (he : PE X e te) (hg : PG X tg g) (hs : swapsWithSole [tg] e pos.line X.env = pure false := by rfl) (hw : swappedStores [tg] e X.env = pure none := by rfl)
    (h1 : (assignEach [tg] X.env).map (·.2) = [assign tg X.env] := by rfl) : PS X (.Assign [tg] e pos) (tAsg te g) := by
  intro pins s σ H D I h
  refine wpAny_Assign_stores (thn (he pins s σ H _ I h) fun v s1 ⟨x, H1, I1, r1, q1⟩ => ?_) hs hw
  rw [h1]
  exact thn (hg pins s1 σ H1 x v _ I1 r1 q1) fun _ s2 q => q
theorem ps_set {i : Nat} {x : Str} {e : Expr} {te : TE} {pos' : Pos} (hN : X.N.Nodup) (hi : X.N[i]? = some x) (hx : Loc X.env.scope x) (he : PE X e te) (hs : swapsWith e (some (.Name x pos')) pos.line X.env = pure false := by rfl) (hf : X.fn x = true ∨ X.env.scope.names.lookup x = some .local := by first | exact .inl rfl | exact .inr rfl | assumption) :
    PS X (.Assign [.Name x pos'] e pos) (tAsg te (gName i)) := by
  intro pins s σ H D I h
  refine wpAny_Assign_Name (thn (he pins s σ H _ I h) fun v s1 ⟨y, H1, I1, r1, q1⟩ => ?_) hs
  exact store_ok I1 hN hi hx r1 (fun s2 I2 => ⟨_, H1, I2, q1⟩) hf
def tAug (i : Nat) (te : TE) (ti : TIp) : TS := fun D σ H => ∃ x, σ[i]? = some (some x) ∧ te σ H fun y H1 => ti x y H1 fun z H2 => D.nx (σ.set i (some z)) H2
theorem ps_aug {i : Nat} {x : Str} {e : Expr} {te : TE} {op : Operator} {ti : TIp} {pos' : Pos} (hN : X.N.Nodup) (hi : X.N[i]? = some x) (hx : Loc X.env.scope x) (he : PE X e te) (ho : PIp X op ti) (hf : X.fn x = true ∨ X.env.scope.names.lookup x = some .local := by first | exact .inl rfl | exact .inr rfl | assumption) :
    PS X (.AugAssign (.Name x pos') op e pos) (tAug i te ti) := by
  intro pins s σ H D I h
  obtain ⟨v, e1, h⟩ := h
  obtain ⟨m, hn, hl⟩ := I.loc
  have vis : Vis X.env.scope x := by rcases hx with k | k; exact .inl k; exact .inr (.inl k)
  obtain ⟨u, r, l⟩ := hl i x v hi e1 vis
  refine wpAny_AugAssign_Name ?_
  have go : wpAny (model X.prog X.w) X.A (eval e X.env) (fun w s₂ => wpAny (model X.prog X.w) X.A (inplaceOp op u w) (fun r s₃ => wpAny (model X.prog X.w) X.A (storeName X.env x r) (fun _ => SP X pins D .next) X.xe s₃) X.xe s₂) X.xe s := by
    refine thn (he pins s σ H _ I h) fun w s1 ⟨y, H1, I1, r1, q1⟩ => ?_
    refine thn (ho pins s1 σ H1 v y u w _ I1 r r1 q1) fun z s2 ⟨zv, H2, I2, r2, q2⟩ => ?_
    exact store_ok I2 hN hi hx r2 (fun s3 I3 => ⟨_, H2, I3, q2⟩) hf
  rcases l with ⟨hk, hm⟩ | ⟨hk, c, hc, hcell⟩
  · exact wpAny_loadName_local I.ok.kind hk hn hm go
  · rcases hk with hk | hk
    · exact wpAny_loadName_cell I.ok.kind hk hc hcell go
    · rcases hx with k | k
      · have : X.env.scope.names.lookup x = some .free := hk
        rw [k] at this; cases this
      · have : X.env.scope.names.lookup x = some .free := hk
        rw [k] at this; cases this
def tAugS (to ti te : TE) (tget : V → V → Hp → VK → Prop) (tip : TIp) (tset : TSet) : TS := fun D σ H => to σ H fun o H1 => ti σ H1 fun i H2 => tget o i H2 fun x H3 => te σ H3 fun y H4 => tip x y H4 fun z H5 => tset o i z H5 fun H6 => D.nx σ H6
def PGet (X : Cx) (t : V → V → Hp → VK → Prop) : Prop :=
  ∀ (pins : List (Addr × Obj)) (s : Shared) (σ : St) (H : Hp) (o i : V) (ov iv : Value) (Q : VK), Inv X pins σ H s → RelV o ov → RelV i iv → t o i H Q →
    wpAny (model X.prog X.w) X.A (getItem ov iv) (EP X pins σ Q) X.xe s
theorem ps_augS {o i e : Expr} {to ti te : TE} {tget : V → V → Hp → VK → Prop} {tip : TIp} {tset : TSet} {op : Operator} {tpos : Pos} (ho : PE X o to) (hi : PE X i ti) (hg : PGet X tget) (he : PE X e te) (hp : PIp X op tip) (hs : PSet X tset)
    (ha : ∀ ov iv new, augStore i ov iv new = (do holding [new, ov, iv] (setItem ov iv new); release [new, ov, iv] []; pure .next) := by intros; rfl) : PS X (.AugAssign (.Subscript o i tpos) op e pos) (tAugS to ti te tget tip tset) := by
  intro pins s σ H D I h
  refine wpAny_AugAssign_SubscriptAny (thn (ho pins s σ H _ I h) fun ov s1 ⟨x1, H1, I1, r1, q1⟩ => ?_) ha
  refine thn (hi pins s1 σ H1 _ I1 q1) fun iv s2 ⟨x2, H2, I2, r2, q2⟩ => ?_
  refine thn (hg pins s2 σ H2 x1 x2 ov iv _ I2 r1 r2 q2) fun old s3 ⟨x3, H3, I3, r3, q3⟩ => ?_
  refine thn (he pins s3 σ H3 _ I3 q3) fun v s4 ⟨x4, H4, I4, r4, q4⟩ => ?_
  refine thn (hp pins s4 σ H4 x3 x4 old v _ I4 r3 r4 q4) fun new s5 ⟨x5, H5, I5, r5, q5⟩ => ?_
  exact thn (hs pins s5 σ H5 x1 x2 x5 ov iv new _ I5 r1 r2 r5 q5) fun _ s6 ⟨H6, I6, q6⟩ => ⟨σ, H6, I6, q6⟩
def ipI (f : Int → Int → Int) : TIp := fun x y H Q => ∃ i j, x = .int i ∧ y = .int j ∧ Q (.int (f i j)) H
theorem ip_add : PIp X .Add (ipI fun i j => i + j) := by
  intro pins s σ H x y v u Q I r1 r2 h
  obtain ⟨i, j, e1, e2, q⟩ := h
  subst e1; subst e2
  obtain ⟨t, rfl⟩ := r1
  obtain ⟨t', rfl⟩ := r2
  exact iadd_int ⟨.int _, H, I.tok _, ⟨_, rfl⟩, q⟩
theorem ip_sub : PIp X .Sub (ipI fun i j => i - j) := by
  intro pins s σ H x y v u Q I r1 r2 h
  obtain ⟨i, j, e1, e2, q⟩ := h
  subst e1; subst e2
  obtain ⟨t, rfl⟩ := r1
  obtain ⟨t', rfl⟩ := r2
  exact isub_int ⟨.int _, H, I.tok _, ⟨_, rfl⟩, q⟩
end
section
variable {X : Cx} {pos : Pos}
def tWhile (c : TT) (tb : TS) : TS := fun D σ H => ∃ W : Nat → St → Hp → Prop, (∃ m, W m σ H) ∧ ∀ m σ H, W m σ H →
  c σ H fun b H1 => if b = true then ∃ N : St → Hp → Prop, (∀ σ' H', N σ' H' → ∃ m', m' < m ∧ W m' σ' H') ∧ tb { D with nx := N, ct := N, bk := D.nx } σ H1 else D.nx σ H1
theorem ps_while {c : Expr} {body : List Stmt} {tc : TT} {tb : TS} (hp : PassesOwn (model X.prog X.w) X.A X.env X.xe) (hc : PT X c tc) (hb : PSs X body tb) : PS X (.While c body [] pos) (tWhile tc tb) := by
  intro pins s σ H D I h
  obtain ⟨W, ⟨m0, w0⟩, turn⟩ := h
  refine wpAny_While (codeAny_whileLoop (fun n s' => ∃ σ' H', Inv X pins σ' H' s' ∧ W n σ' H') ?_ m0 ⟨σ, H, I, w0⟩)
  rintro n s1 ⟨σ1, H1, I1, w1⟩
  refine wpAny_passesOwn hp (thn (hc pins s1 σ1 H1 _ I1 (turn n σ1 H1 w1)) fun b s2 ⟨H2, I2, q2⟩ => ?_)
  cases b with
  | true =>
    obtain ⟨N, hN, q2⟩ := q2
    rw [if_pos rfl]
    refine wpAny_passesOwn hp (thn (hb pins s2 σ1 H2 _ I2 q2) fun f s3 q3 => ?_)
    cases f with
    | next =>
      obtain ⟨σ3, H3, I3, n3⟩ := q3
      obtain ⟨m', hm, w3⟩ := hN σ3 H3 n3
      exact ⟨m', hm, σ3, H3, I3, w3⟩
    | cont =>
      obtain ⟨σ3, H3, I3, n3⟩ := q3
      obtain ⟨m', hm, w3⟩ := hN σ3 H3 n3
      exact ⟨m', hm, σ3, H3, I3, w3⟩
    | brk => exact q3
    | ret v => exact q3
  | false =>
    rw [if_neg Bool.false_ne_true]
    exact wpAny_execs_nil ⟨σ1, H2, I2, q2⟩
end
structure It where
  go : Nat → Hp → Prop
  yld : Nat → Hp → V → Hp → Prop
  stop : Nat → Hp → Prop
def FpOk (X : Cx) (pins : List (Addr × Obj)) (H : Hp) (b : Addr) : Prop :=
  H b = none ∧ b ≠ X.env.locals ∧ b ∉ X.fs ∧ (b ∈ X.ex ∨ X.s₀.heap.objs.size ≤ b) ∧ (∀ x c, X.env.cells.lookup x = some c → c ≠ b) ∧ ∀ p ∈ X.pn ++ pins, p.1 ≠ b
theorem Inv.fpOk {X : Cx} {pins : List (Addr × Obj)} {σ : St} {H H' : Hp} {s : Shared} {b : Addr} (I : Inv X pins σ H s) (hb : s.heap.objs.size ≤ b) (hn : H' b = none) : FpOk X pins H' b := by
  refine ⟨hn, Nat.ne_of_gt (Nat.lt_of_lt_of_le I.lt hb), I.nofs hb, .inr (Nat.le_trans I.sz hb), fun x c e z => ?_, fun p hp z => ?_⟩
  · obtain ⟨v, q⟩ := I.cell x c e
    exact absurd (Nat.lt_of_lt_of_le q.lt (by rw [z]; exact hb)) (Nat.lt_irrefl _)
  · exact absurd (Nat.lt_of_lt_of_le (Heap.lt_size (I.pin p hp).1) (by rw [z]; exact hb)) (Nat.lt_irrefl _)
structure Turn (P : Program) (w : World) (K : PySem.W.Frag) (tg : Expr) (J : It) (fp : List Addr) (it : Addr) (tn : Nat → Heap → Prop) : Prop where
  mem : it ∈ fp
  obj : ∀ i h, tn i h → ∀ b ∈ fp, ∃ o, h.get? b = some o ∧ ∀ v, o.data ≠ .cell v
  keep : ∀ i h h', tn i h → (∀ b ∈ fp, ∀ o, h.get? b = some o → h'.get? b = some o) → tn i h'
  item : ∀ (X : Cx), X.prog = P → X.w = w → X.K = K → X.calm = true → ∀ (i : Nat) (pins : List (Addr × Obj)) (s : Shared) (σ : St) (H : Hp) (E : Value → Shared → Prop), Inv X pins σ H s → (∀ b ∈ fp, FpOk X pins H b) → tn i s.heap → J.go i H →
    wpAny (model P w) X.A (pyNext (.ref it)) (fun r s1 => ∃ u, r = some u ∧
      wpAny (model P w) X.A (letOwnedTupleGo tg (.ref it) u) (fun _ s2 => ∃ x H', Inv X pins σ H' s2 ∧ RelV x u ∧ J.yld i H x H' ∧ tn (i + 1) s2.heap ∧ ∀ b ∈ fp, H' b = none) E s1) E s
  done : ∀ (X : Cx), X.prog = P → X.w = w → X.K = K → X.calm = true → ∀ (i : Nat) (pins : List (Addr × Obj)) (s : Shared) (σ : St) (H : Hp) (E : Value → Shared → Prop), Inv X pins σ H s → (∀ b ∈ fp, FpOk X pins H b) → tn i s.heap → J.stop i H →
    wpAny (model P w) X.A (pyNext (.ref it)) (fun r s1 => r = none ∧ Inv X pins σ H s1) E s
  self : ∀ (A : Around) (i : Nat) (s : Shared) (Q : Value → Shared → Prop) (E : Value → Shared → Prop), tn i s.heap → Q (.ref it) s → wpAny (model P w) A (pyIter (.ref it)) Q E s
abbrev TI := St → Hp → (It → Hp → Prop) → Prop
def PIE (X : Cx) (pins : List (Addr × Obj)) (σ : St) (tg : Expr) (R : It → Hp → Prop) (itv : Value) (s2 : Shared) : Prop :=
  ∃ (it : Addr) (fp : List Addr) (tn : Nat → Heap → Prop) (J : It) (H' : Hp), itv = .ref it ∧ Inv X pins σ H' s2 ∧ Turn X.prog X.w X.K tg J fp it tn ∧ tn 0 s2.heap ∧ (∀ b ∈ fp, FpOk X pins H' b) ∧ R J H'
def PI (X : Cx) (tg iter : Expr) (wi : TI) : Prop :=
  ∀ (pins : List (Addr × Obj)) (s : Shared) (σ : St) (H : Hp) (R : It → Hp → Prop), Inv X pins σ H s → wi σ H R →
    wpAny (model X.prog X.w) X.A (eval iter X.env) (fun v s1 => wpAny (model X.prog X.w) X.A (pyIter v) (PIE X pins σ tg R) X.xe s1) X.xe s
theorem go_of {M : Model} {A : Around} {E : Value → Shared → Prop} {s : Shared} {tg : Expr} {it : Addr} {u : Value} {o : Obj} {n : String} {vs : Array Value} {Q : Unit → Shared → Prop} (ho : s.heap.get? it = some o) (hc : o.cls = .type n) (hd : o.data = .fields vs)
    (hn : ["enumerate", "zip", "dict_itemiterator", "dict_reverseitemiterator", "odict_iterator", "itertools.zip_longest", "itertools.pairwise"].contains n = false) (hQ : Q () s) : wpAny M A (letOwnedTupleGo tg (.ref it) u) Q E s := by
  unfold letOwnedTupleGo
  cases tg <;> first
    | exact wpAny_pure hQ
    | (cases u <;> first
        | exact wpAny_pure hQ
        | (refine wpAny_bind (wpAny_load ho ?_)
           rw [hc, hd]
           show wpAny M A (if (["enumerate", "zip", "dict_itemiterator", "dict_reverseitemiterator", "odict_iterator", "itertools.zip_longest", "itertools.pairwise"].contains n && vs[0]? == some (rawInt _)) = true then _ else _) Q E s
           rw [if_neg (by intro h; rw [hn, Bool.false_and] at h; cases h)]
           exact wpAny_pure hQ))
def Itl (K : PySem.W.Frag) (a : Addr) : It :=
  ⟨fun i H => ∃ xs x, SqL K H a xs ∧ xs[i]? = some x, fun i H x H' => H' = H ∧ ∀ xs, SqL K H a xs → xs[i]? = some x, fun i H => ∃ xs, SqL K H a xs ∧ xs.length ≤ i⟩
def Itt (K : PySem.W.Frag) (a : Addr) : It :=
  ⟨fun i H => ∃ xs x, SqT K H a xs ∧ xs[i]? = some x, fun i H x H' => H' = H ∧ ∀ xs, SqT K H a xs → xs[i]? = some x, fun i H => ∃ xs, SqT K H a xs ∧ xs.length ≤ i⟩
def Itr (lo : Int) (n : Nat) : It := ⟨fun i _ => i < n, fun i H x H' => H' = H ∧ x = .int (lo + i), fun i _ => n ≤ i⟩
theorem turn_list {P : Program} {w : World} {K : PySem.W.Frag} {tg : Expr} (a it : Addr) : Turn P w K tg (Itl K a) [it] it (fun i h => h.IsListIter it a i) where
  mem := by simp
  obj := fun i h st b hb => by
    have e : b = it := by simpa using hb
    subst e
    obtain ⟨o, e, c, d⟩ := st
    exact ⟨o, e, fun v z => by rw [d] at z; cases z⟩
  keep := fun i h h' st k => st.at fun o e => k it (by simp) o e
  item := by
    intro X hP hw hK hc i pins s σ H E I hf st hg
    subst hP hw hK
    obtain ⟨xs, x, hq, hx⟩ := hg
    obtain ⟨its, rv, p, hz⟩ := I.list hq
    obtain ⟨u, hu, ru⟩ := rv.get hx
    obtain ⟨f0, f1, f2, f3, f4, f5⟩ := hf it (by simp)
    refine wpAny_pyNext_list_item st p.isList (x := u) (by simpa using hu) fun h' st' sb => ?_
    have I1 : Inv X pins σ H { s with heap := h' } := I.turned (t' := s.toks) (fun b o hb e => (sb.2 b hb).trans e) f0 f1 f3 f4 f5
    obtain ⟨o, e, c, d⟩ := id st'
    exact ⟨u, rfl, go_of (s := { s with heap := h' }) e c d (by decide) ⟨x, H, I1, ru, ⟨rfl, fun ys hy => by rw [I.list_inj hy hq]; exact hx⟩, st', fun b hb => (hf b hb).1⟩⟩
  done := by
    intro X hP hw hK hc i pins s σ H E I hf st hg
    subst hP hw hK
    obtain ⟨xs, hq, hx⟩ := hg
    obtain ⟨its, rv, p, hz⟩ := I.list hq
    obtain ⟨f0, f1, f2, f3, f4, f5⟩ := hf it (by simp)
    have hl := rv.length
    exact wpAny_pyNext_list_end (I.ok.hd hc) st p.isList (by simp; omega) fun h' eb => ⟨rfl, I.turned (t' := s.toks) (fun b o hb e => eb b o hb e) f0 f1 f3 f4 f5⟩
  self := fun _ _ _ _ _ st h => wpAny_pyIter_listiter st h
theorem turn_tuple {P : Program} {w : World} {K : PySem.W.Frag} {tg : Expr} (a it : Addr) : Turn P w K tg (Itt K a) [it] it (fun i h => h.IsTupleIter it a i) where
  mem := by simp
  obj := fun i h st b hb => by
    have e : b = it := by simpa using hb
    subst e
    obtain ⟨o, e, c, d⟩ := st
    exact ⟨o, e, fun v z => by rw [d] at z; cases z⟩
  keep := fun i h h' st k => st.at fun o e => k it (by simp) o e
  item := by
    intro X hP hw hK hc i pins s σ H E I hf st hg
    subst hP hw hK
    obtain ⟨xs, x, hq, hx⟩ := hg
    obtain ⟨its, rv, p, hz⟩ := I.tuple hq
    obtain ⟨u, hu, ru⟩ := rv.get hx
    obtain ⟨f0, f1, f2, f3, f4, f5⟩ := hf it (by simp)
    refine wpAny_pyNext_tuple_item st (show s.heap.IsTuple a its.toArray from p) (x := u) (by simpa using hu) fun h' st' sb => ?_
    have I1 : Inv X pins σ H { s with heap := h' } := I.turned (t' := s.toks) (fun b o hb e => (sb.2 b hb).trans e) f0 f1 f3 f4 f5
    obtain ⟨o, e, c, d⟩ := id st'
    exact ⟨u, rfl, go_of (s := { s with heap := h' }) e c d (by decide) ⟨x, H, I1, ru, ⟨rfl, fun ys hy => by rw [I.tuple_inj hy hq]; exact hx⟩, st', fun b hb => (hf b hb).1⟩⟩
  done := by
    intro X hP hw hK hc i pins s σ H E I hf st hg
    subst hP hw hK
    obtain ⟨xs, hq, hx⟩ := hg
    obtain ⟨its, rv, p, hz⟩ := I.tuple hq
    obtain ⟨f0, f1, f2, f3, f4, f5⟩ := hf it (by simp)
    have hl := rv.length
    exact wpAny_pyNext_tuple_end (I.ok.hd hc) st (show s.heap.IsTuple a its.toArray from p) (by simp; omega) fun h' eb => ⟨rfl, I.turned (t' := s.toks) (fun b o hb e => eb b o hb e) f0 f1 f3 f4 f5⟩
  self := fun _ _ _ _ _ st h => wpAny_pyIter_tupleiter st h
theorem turn_range {P : Program} {w : World} {K : PySem.W.Frag} {tg : Expr} (it : Addr) (lo : Int) (n : Nat) : Turn P w K tg (Itr lo n) [it] it (fun i h => IsRangeIter h it (lo + (i : Nat) * 1) ((n : Int) - (i : Nat)) 1) where
  mem := by simp
  obj := fun i h st b hb => by
    have e : b = it := by simpa using hb
    subst e
    exact ⟨_, st, fun v z => by
      have z' : Data.fields _ = Data.cell v := z
      cases z'⟩
  keep := fun i h h' st k => k it (by simp) _ st
  item := by
    intro X hP hw hK hc i pins s σ H E I hf st hg
    subst hP hw hK
    obtain ⟨f0, f1, f2, f3, f4, f5⟩ := hf it (by simp)
    have W := Walks.range (prog := X.prog) (w := X.w) (I.ok.hd hc) it lo 1 n
    refine W.item i s _ _ hg st fun v h' tk hv st' kk => ?_
    obtain ⟨t, rfl⟩ := hv
    have I1 : Inv X pins σ H { s with heap := h', toks := tk } := I.turned (fun b o hb e => kk b o (by simpa using hb) e) f0 f1 f3 f4 f5
    refine ⟨_, rfl, go_of (s := { s with heap := h', toks := tk }) (n := "range_iterator") st' rfl rfl (by decide) ⟨.int (lo + i), H, I1, ⟨t, ?_⟩, ⟨rfl, rfl⟩, st', fun b hb => (hf b hb).1⟩⟩
    rw [Int.mul_one]
  done := by
    intro X hP hw hK hc i pins s σ H E I hf st hg
    subst hP hw hK
    obtain ⟨f0, f1, f2, f3, f4, f5⟩ := hf it (by simp)
    exact wpAny_pyNext_range_end (I.ok.hd hc) st (by have : n ≤ i := hg; omega) fun h' eb => ⟨rfl, I.turned (t' := s.toks) (fun b o hb e => eb b o hb e) f0 f1 f3 f4 f5⟩
  self := fun _ _ _ _ _ st h => wpAny_pyIter_rangeiter st h
end L2
namespace L2
open PySem PySem.Spec PyProof.Rows
section
variable {X : Cx} {tg : Expr}
def iList (K : PySem.W.Frag) (tl : TE) : TI := fun σ H R => tl σ H fun x H1 => ∃ a, x = .ref a ∧ (∃ xs, SqL K H1 a xs) ∧ R (Itl K a) H1
def iTup (K : PySem.W.Frag) (tl : TE) : TI := fun σ H R => tl σ H fun x H1 => ∃ a, x = .ref a ∧ (∃ xs, SqT K H1 a xs) ∧ R (Itt K a) H1
theorem pi_list {l : Expr} {tl : TE} (hl : PE X l tl) : PI X tg l (iList X.K tl) := by
  intro pins s σ H R I h
  refine thn (hl pins s σ H _ I h) fun v s1 ⟨x, H1, I1, r1, q1⟩ => ?_
  obtain ⟨a, e, ⟨xs, hq⟩, q⟩ := q1
  subst e
  cases r1
  obtain ⟨its, rv, p, hz⟩ := I1.list hq
  refine wpAny_pyIter_list p.isList ?_
  refine ⟨s1.heap.objs.size, [s1.heap.objs.size], _, _, H1, rfl, I1.kept (t' := s1.toks) fun b o e => Heap.get?_push_of_some _ e, turn_list a _, ⟨_, Heap.get?_push_size _ rfl, rfl, rfl⟩, fun b hb => ?_, q⟩
  have e : b = s1.heap.objs.size := by simpa using hb
  subst e
  exact I1.fpOk (Nat.le_refl _) (I1.hok.fresh (Nat.le_refl _))
theorem pi_tup {l : Expr} {tl : TE} (hl : PE X l tl) : PI X tg l (iTup X.K tl) := by
  intro pins s σ H R I h
  refine thn (hl pins s σ H _ I h) fun v s1 ⟨x, H1, I1, r1, q1⟩ => ?_
  obtain ⟨a, e, ⟨xs, hq⟩, q⟩ := q1
  subst e
  cases r1
  obtain ⟨its, rv, p, hz⟩ := I1.tuple hq
  refine wpAny_pyIter_tuple (show s1.heap.IsTuple a its.toArray from p) ?_
  refine ⟨s1.heap.objs.size, [s1.heap.objs.size], _, _, H1, rfl, I1.kept (t' := s1.toks) fun b o e => Heap.get?_push_of_some _ e, turn_tuple a _, ⟨_, Heap.get?_push_size _ rfl, rfl, rfl⟩, fun b hb => ?_, q⟩
  have e : b = s1.heap.objs.size := by simpa using hb
  subst e
  exact I1.fpOk (Nat.le_refl _) (I1.hok.fresh (Nat.le_refl _))
theorem range_it {pins : List (Addr × Obj)} {σ : St} {H : Hp} {s : Shared} {R : It → Hp → Prop} {E : Value → Shared → Prop} {lo hi : Int} {t u v : Tok} {tk : Nat} (I : Inv X pins σ H s) (h1 : -(2 ^ 62) ≤ lo) (h2 : lo < 2 ^ 62) (h3 : -(2 ^ 62) ≤ hi) (h4 : hi < 2 ^ 62)
    (q : R (Itr lo (hi - lo).toNat) H) : wpAny (model X.prog X.w) X.A (pyIter (.ref s.heap.objs.size)) (PIE X pins σ tg R) E { s with heap := s.heap.push { cls := .type "range", data := .fields #[.int lo t, .int hi u, .int 1 v] }, toks := tk } := by
  refine wpAny_pyIter_range (IsRange.new ..) (small_one h1 h2 h3 h4) ?_
  have I1 : Inv X pins σ H { s with heap := s.heap.push { cls := .type "range", data := .fields #[.int lo t, .int hi u, .int 1 v] }, toks := tk } := I.kept fun b o e => Heap.get?_push_of_some _ e
  refine ⟨(s.heap.push { cls := .type "range", data := .fields #[.int lo t, .int hi u, .int 1 v] }).objs.size, [(s.heap.push { cls := .type "range", data := .fields #[.int lo t, .int hi u, .int 1 v] }).objs.size], _, _, H, rfl,
    I1.kept (t' := tk) fun b o e => Heap.get?_push_of_some _ e, turn_range _ lo (hi - lo).toNat, ?_, fun b hb => ?_, q⟩
  · have e1 : lo + ((0 : Nat) : Int) * 1 = lo := by simp
    have e2 : (((hi - lo).toNat : Nat) : Int) - ((0 : Nat) : Int) = Builtin.Range.rangeSize lo hi 1 := by rw [rangeSize_one]; split <;> omega
    show IsRangeIter _ _ (lo + ((0 : Nat) : Int) * 1) ((((hi - lo).toNat : Nat) : Int) - ((0 : Nat) : Int)) 1
    rw [e1, e2]
    exact Heap.get?_push_size _ rfl
  · have e : b = (s.heap.push { cls := .type "range", data := .fields #[.int lo t, .int hi u, .int 1 v] }).objs.size := by simpa using hb
    subst e
    exact I1.fpOk (Nat.le_refl _) (I1.hok.fresh (Nat.le_refl _))
def iRng1 (ta : TA) : TI := fun σ H R => ta σ H fun vs H1 => ∃ j : Int, vs = [.int j] ∧ -(2 ^ 62) ≤ j ∧ j < 2 ^ 62 ∧ R (Itr 0 j.toNat) H1
def iRng2 (ta : TA) : TI := fun σ H R => ta σ H fun vs H1 => ∃ i j : Int, vs = [.int i, .int j] ∧ (-(2 ^ 62) ≤ i ∧ i < 2 ^ 62 ∧ -(2 ^ 62) ≤ j ∧ j < 2 ^ 62) ∧ R (Itr i (j - i).toNat) H1
theorem pi_range1 {a : Expr} {ta : TA} {p pos : Pos} (hg : Gl X "range") (hm : X.mg "range" = none) (ha : PA X [a] ta) (hs : starEach [a] X.env = [(false, eval a X.env)] := by rfl) : PI X tg (.Call (.Name "range" p) [a] [] pos) (iRng1 ta) := by
  intro pins s σ H R I h
  refine Call_ (ld_blt I hg hm boot_range (PyProof.Rows.callWith_type1 (thn (ha pos pins s σ H _ I h) fun us s1 ⟨vs, H1, I1, r1, q1⟩ => ?_) hs rfl))
  obtain ⟨j, e, q1, q2, q⟩ := q1
  subst e
  cases r1 with
  | cons r rr =>
    cases rr
    obtain ⟨t, rfl⟩ := r
    exact call_range_1 (range_it I1 (by omega) (by omega) q1 q2 (by simpa using q))
theorem pi_range2 {a b : Expr} {ta : TA} {p pos : Pos} (hg : Gl X "range") (hm : X.mg "range" = none) (ha : PA X [a, b] ta) (hs : starEach [a, b] X.env = [(false, eval a X.env), (false, eval b X.env)] := by rfl) (hs2 : starEach [b] X.env = [(false, eval b X.env)] := by rfl) :
    PI X tg (.Call (.Name "range" p) [a, b] [] pos) (iRng2 ta) := by
  intro pins s σ H R I h
  refine Call_ (ld_blt I hg hm boot_range (PyProof.Rows.callWith_type1 (thn (ha pos pins s σ H _ I h) fun us s1 ⟨vs, H1, I1, r1, q1⟩ => ?_) (by rw [hs, hs2]) (by rw [hs2]; rfl)))
  obtain ⟨i, j, e, ⟨q1, q2, q3, q4⟩, q⟩ := q1
  subst e
  cases r1 with
  | cons r rr =>
    cases rr with
    | cons r' rr =>
      cases rr
      obtain ⟨t, rfl⟩ := r
      obtain ⟨t', rfl⟩ := r'
      exact call_range_2 (range_it I1 q1 q2 q3 q4 q)
def tFor (wi : TI) (g : TG) (tb : TS) : TS := fun D σ H => wi σ H fun J H1 => ∃ W : Nat → Nat → St → Hp → Prop, (∃ m, W 0 m σ H1) ∧ ∀ i m σ H, W i m σ H →
  (J.stop i H ∧ D.nx σ H) ∨ (J.go i H ∧ ∃ N : St → Hp → Prop, (∀ σ' H', N σ' H' → ∃ m', m' < m ∧ W (i + 1) m' σ' H') ∧ ∀ x H', J.yld i H x H' → g x σ H' fun σ2 H2 => tb { D with nx := N, ct := N, bk := D.nx } σ2 H2)
def pinsAt (fp : List Addr) (h : Heap) : List (Addr × Obj) := fp.filterMap fun b => (h.get? b).map fun o => (b, o)
theorem mem_pinsAt {fp : List Addr} {h : Heap} {b : Addr} {o : Obj} (hb : b ∈ fp) (e : h.get? b = some o) : (b, o) ∈ pinsAt fp h := List.mem_filterMap.mpr ⟨b, hb, by rw [e]; rfl⟩
theorem of_pinsAt {fp : List Addr} {h : Heap} {p : Addr × Obj} (hp : p ∈ pinsAt fp h) : p.1 ∈ fp ∧ h.get? p.1 = some p.2 := by
  obtain ⟨b, hb, e⟩ := List.mem_filterMap.mp hp
  cases q : h.get? b with
  | none => rw [q] at e; cases e
  | some o =>
    rw [q] at e
    have e' : (b, o) = p := Option.some.inj e
    subst e'
    exact ⟨hb, q⟩
theorem Inv.pinned {pins : List (Addr × Obj)} {σ : St} {H : Hp} {s : Shared} {fp : List Addr} (I : Inv X pins σ H s) (hf : ∀ b ∈ fp, FpOk X pins H b) (ho : ∀ b ∈ fp, ∃ o, s.heap.get? b = some o ∧ ∀ v, o.data ≠ .cell v) : Inv X (pins ++ pinsAt fp s.heap) σ H s :=
  I.pins_of fun p hp => (List.mem_append.mp hp).elim (fun z => I.pin p (List.mem_append_right _ z)) fun z => by
    obtain ⟨hb, e⟩ := of_pinsAt z
    obtain ⟨f0, f1, f2, _⟩ := hf p.1 hb
    obtain ⟨o, e', d⟩ := ho p.1 hb
    rw [e] at e'; cases e'
    exact ⟨e, f0, f1, f2, d⟩
theorem Inv.unpinned {pins pl : List (Addr × Obj)} {σ : St} {H : Hp} {s : Shared} (I : Inv X (pins ++ pl) σ H s) : Inv X pins σ H s := I.pins_of fun p hp => I.pin p (List.mem_append_right _ (List.mem_append_left _ hp))
theorem ps_for {iter : Expr} {body : List Stmt} {wi : TI} {g : TG} {tb : TS} {pos : Pos} (hp : PassesOwn (model X.prog X.w) X.A X.env X.xe) (hc : X.calm = true) (hi : PI X tg iter wi) (hg : PG X tg g) (hb : PSs X body tb)
    (hs : ∀ x, foldedSetIterable iter X.env x = pure x := by intro _; rfl) : PS X (.For tg iter body [] pos) (tFor wi g tb) := by
  intro pins s σ H D I h
  refine wpAny_For (thn (hi pins s σ H _ I h) fun v s1 h1 => thn h1 fun itv s2 h2 => ?_) hs
  obtain ⟨it, fp, tn, J, H2, e, I2, T, st2, f2, W, ⟨m0, w0⟩, turn⟩ := h2
  subst e
  -- what stays true of the iterator's objects through the loop
  have stat : ∀ {H' : Hp}, (∀ b ∈ fp, H' b = none) → ∀ b ∈ fp, FpOk X pins H' b := fun hn b hb => ⟨hn b hb, (f2 b hb).2⟩
  refine codeAny_forLoop_any (fun n s' => ∃ i σ' H', Inv X pins σ' H' s' ∧ tn i s'.heap ∧ (∀ b ∈ fp, H' b = none) ∧ W i n σ' H') ?_ m0 ⟨0, σ, H2, I2, st2, fun b hb => (f2 b hb).1, w0⟩
  rintro n s3 ⟨i, σ3, H3, I3, st3, fr3, w3⟩
  rcases turn i n σ3 H3 w3 with ⟨stop, qn⟩ | ⟨go, N, hN, step⟩
  · refine wpAny_passesOwn hp (thn (T.done X rfl rfl rfl hc i pins s3 σ3 H3 X.xe I3 (stat fr3) st3 stop) fun r s4 ⟨hr, I4⟩ => ?_)
    subst hr
    exact wpAny_execs_nil ⟨σ3, H3, I4, qn⟩
  · refine wpAny_passesOwn hp (thn (T.item X rfl rfl rfl hc i pins s3 σ3 H3 X.xe I3 (stat fr3) st3 go) fun r s4 ⟨u, hr, h4⟩ => ?_)
    subst hr
    refine wpAny_passesOwn hp (thn h4 fun _ s5 ⟨x, H5, I5, r5, y5, st5, fr5⟩ => ?_)
    have I5' := I5.pinned (stat fr5) (T.obj _ _ st5)
    refine wpAny_passesOwn hp (thn (hg _ s5 σ3 H5 x u _ I5' r5 (step x H5 y5)) fun _ s6 ⟨σ6, H6, I6, q6⟩ => ?_)
    refine wpAny_passesOwn hp (thn (hb _ s6 σ6 H6 _ I6 q6) fun f s7 q7 => ?_)
    have again : ∀ {σ7 : St} {H7 : Hp}, Inv X (pins ++ pinsAt fp s5.heap) σ7 H7 s7 → N σ7 H7 → ∃ m, m < n ∧ ∃ i σ' H', Inv X pins σ' H' s7 ∧ tn i s7.heap ∧ (∀ b ∈ fp, H' b = none) ∧ W i m σ' H' := fun {σ7 H7} I7 n7 => by
      obtain ⟨m', hm, w7⟩ := hN σ7 H7 n7
      refine ⟨m', hm, i + 1, σ7, H7, I7.unpinned, T.keep _ _ _ st5 fun b hb o e => (I7.pin (b, o) (List.mem_append_right _ (List.mem_append_right _ (mem_pinsAt hb e)))).1, fun b hb => ?_, w7⟩
      obtain ⟨o, e, d⟩ := T.obj _ _ st5 b hb
      exact (I7.pin (b, o) (List.mem_append_right _ (List.mem_append_right _ (mem_pinsAt hb e)))).2.1
    cases f with
    | next => obtain ⟨σ7, H7, I7, n7⟩ := q7; exact again I7 n7
    | cont => obtain ⟨σ7, H7, I7, n7⟩ := q7; exact again I7 n7
    | brk => obtain ⟨σ7, H7, I7, q7⟩ := q7; exact ⟨σ7, H7, I7.unpinned, q7⟩
    | ret v => obtain ⟨x7, σ7, H7, I7, r7, q7⟩ := q7; exact ⟨x7, σ7, H7, I7.unpinned, r7, q7⟩
end
theorem for_list {K : PySem.W.Frag} {a : Addr} {xs : List V} {g : TG} {tb : TS} {D : Ends} {σ : St} {H : Hp} (Pv : Nat → St → Hp → Prop) (h0 : Pv 0 σ H) (hl : ∀ i σ H, i ≤ xs.length → Pv i σ H → SqL K H a xs)
    (hs : ∀ i x σ H, xs[i]? = some x → Pv i σ H → g x σ H fun σ2 H2 => tb { D with nx := Pv (i + 1), ct := Pv (i + 1), bk := D.nx } σ2 H2) (hd : ∀ σ H, Pv xs.length σ H → D.nx σ H) :
    ∃ W : Nat → Nat → St → Hp → Prop, (∃ m, W 0 m σ H) ∧ ∀ i m σ H, W i m σ H →
      ((Itl K a).stop i H ∧ D.nx σ H) ∨ ((Itl K a).go i H ∧ ∃ N : St → Hp → Prop, (∀ σ' H', N σ' H' → ∃ m', m' < m ∧ W (i + 1) m' σ' H') ∧ ∀ x H', (Itl K a).yld i H x H' → g x σ H' fun σ2 H2 => tb { D with nx := N, ct := N, bk := D.nx } σ2 H2) := by
  refine ⟨fun i m σ H => m = xs.length - i ∧ i ≤ xs.length ∧ Pv i σ H, ⟨xs.length, by simp, Nat.zero_le _, h0⟩, ?_⟩
  rintro i m σ H ⟨rfl, hi, p⟩
  have q := hl i σ H hi p
  by_cases hlt : i < xs.length
  · refine .inr ⟨⟨xs, xs[i], q, by simp [hlt]⟩, Pv (i + 1), fun σ' H' p' => ⟨xs.length - (i + 1), by omega, rfl, hlt, p'⟩, fun x H' y => ?_⟩
    obtain ⟨e, y⟩ := y
    subst e
    exact hs i x σ _ (y xs q) p
  · have e : i = xs.length := by omega
    subst e
    exact .inl ⟨⟨xs, q, Nat.le_refl _⟩, hd σ H p⟩
theorem for_range {lo : Int} {n : Nat} {g : TG} {tb : TS} {D : Ends} {σ : St} {H : Hp} (Pv : Nat → St → Hp → Prop) (h0 : Pv 0 σ H)
    (hs : ∀ i σ H, i < n → Pv i σ H → g (.int (lo + i)) σ H fun σ2 H2 => tb { D with nx := Pv (i + 1), ct := Pv (i + 1), bk := D.nx } σ2 H2) (hd : ∀ σ H, Pv n σ H → D.nx σ H) :
    ∃ W : Nat → Nat → St → Hp → Prop, (∃ m, W 0 m σ H) ∧ ∀ i m σ H, W i m σ H →
      ((Itr lo n).stop i H ∧ D.nx σ H) ∨ ((Itr lo n).go i H ∧ ∃ N : St → Hp → Prop, (∀ σ' H', N σ' H' → ∃ m', m' < m ∧ W (i + 1) m' σ' H') ∧ ∀ x H', (Itr lo n).yld i H x H' → g x σ H' fun σ2 H2 => tb { D with nx := N, ct := N, bk := D.nx } σ2 H2) := by
  refine ⟨fun i m σ H => m = n - i ∧ i ≤ n ∧ Pv i σ H, ⟨n, by simp, Nat.zero_le _, h0⟩, ?_⟩
  rintro i m σ H ⟨rfl, hi, p⟩
  by_cases hlt : i < n
  · refine .inr ⟨hlt, Pv (i + 1), fun σ' H' p' => ⟨n - (i + 1), by omega, rfl, hlt, p'⟩, fun x H' y => ?_⟩
    obtain ⟨e, y⟩ := y
    subst e y
    exact hs i σ _ hlt p
  · have e : i = n := by omega
    subst e
    exact .inl ⟨Nat.le_refl _, hd σ H p⟩
theorem while_by {c : TT} {tb : TS} {D : Ends} {σ : St} {H : Hp} (Pv : St → Hp → Prop) (μ : St → Hp → Nat) (h0 : Pv σ H)
    (hs : ∀ σ H, Pv σ H → c σ H fun b H1 => if b = true then tb { D with nx := fun σ' H' => Pv σ' H' ∧ μ σ' H' < μ σ H, ct := fun σ' H' => Pv σ' H' ∧ μ σ' H' < μ σ H, bk := D.nx } σ H1 else D.nx σ H1)
    (mono : ∀ σ H Q Q', (∀ b H1, Q b H1 → Q' b H1) → c σ H Q → c σ H Q') : tWhile c tb D σ H := by
  refine ⟨fun m σ H => m = μ σ H ∧ Pv σ H, ⟨_, rfl, h0⟩, ?_⟩
  rintro m σ H ⟨rfl, p⟩
  refine mono σ H _ _ (fun b H1 q => ?_) (hs σ H p)
  cases b with
  | true => exact ⟨_, fun σ' H' ⟨p', l⟩ => ⟨_, l, rfl, p'⟩, q⟩
  | false => exact q
end L2
namespace L2
open PySem PySem.Spec PyProof.Rows
abbrev R2 := V → V → Hp → VK → Prop
def OpR (X : Cx) (f : Value → Value → Sem Value) (r : R2) : Prop :=
  ∀ (pins : List (Addr × Obj)) (s : Shared) (σ : St) (H : Hp) (x y : V) (v u : Value) (Q : VK), Inv X pins σ H s → RelV x v → RelV y u → r x y H Q →
    wpAny (model X.prog X.w) X.A (f v u) (EP X pins σ Q) X.xe s
def UnR (X : Cx) (f : Value → Sem Value) (r : V → Hp → VK → Prop) : Prop :=
  ∀ (pins : List (Addr × Obj)) (s : Shared) (σ : St) (H : Hp) (x : V) (v : Value) (Q : VK), Inv X pins σ H s → RelV x v → r x H Q →
    wpAny (model X.prog X.w) X.A (f v) (EP X pins σ Q) X.xe s
def CallR (X : Cx) (f : Value) (r : List V → Hp → VK → Prop) : Prop :=
  ∀ (pins : List (Addr × Obj)) (s : Shared) (σ : St) (H : Hp) (xs : List V) (us : List Value) (Q : VK), Inv X pins σ H s → Vals xs us → r xs H Q →
    wpAny (model X.prog X.w) X.A (call f us) (EP X pins σ Q) X.xe s
def TruR (X : Cx) (r : V → Hp → (Bool → Hp → Prop) → Prop) : Prop :=
  ∀ (pins : List (Addr × Obj)) (s : Shared) (σ : St) (H : Hp) (x : V) (v : Value) (Q : Bool → Hp → Prop), Inv X pins σ H s → RelV x v → r x H Q →
    wpAny (model X.prog X.w) X.A (truthy v) (TP X pins σ Q) X.xe s
def tOp (r : R2) (ta tb : TE) : TE := fun σ H Q => ta σ H fun x H1 => tb σ H1 fun y H2 => r x y H2 Q
def tUn (r : V → Hp → VK → Prop) (ta : TE) : TE := fun σ H Q => ta σ H fun x H1 => r x H1 Q
def rI (C : Int → Int → Prop) (g : Int → Int → V) : R2 := fun x y H Q => ∃ i j, x = .int i ∧ y = .int j ∧ C i j ∧ Q (g i j) H
def rI0 (g : Int → Int → V) : R2 := fun x y H Q => ∃ i j, x = .int i ∧ y = .int j ∧ Q (g i j) H
def rU (g : Int → V) : V → Hp → VK → Prop := fun x H Q => ∃ i, x = .int i ∧ Q (g i) H
section
variable {X : Cx} {a b c : Expr} {ta tb tc : TE} {pos : Pos}
theorem binT (ha : PE X a ta) (hb : PE X b tb) {pins : List (Addr × Obj)} {s : Shared} {σ : St} {H : Hp} {R : V → V → Hp → Prop} (I : Inv X pins σ H s)
    (h : ta σ H fun x H1 => tb σ H1 fun y H2 => R x y H2) {Q : Value → Shared → Prop} {f : Value → Value → Sem Value}
    (hf : ∀ v u s2 x y H2, Inv X pins σ H2 s2 → RelV x v → RelV y u → R x y H2 → wpAny (model X.prog X.w) X.A (f v u) Q X.xe s2) :
    wpAny (model X.prog X.w) X.A (eval a X.env) (fun v s₁ => wpAny (model X.prog X.w) X.A (eval b X.env) (fun u s₂ => wpAny (model X.prog X.w) X.A (f v u) Q X.xe s₂) X.xe s₁) X.xe s := by
  refine thn (ha pins s σ H _ I h) fun v s1 ⟨x, H1, I1, r1, q1⟩ => ?_
  refine thn (hb pins s1 σ H1 _ I1 q1) fun u s2 ⟨y, H2, I2, r2, q2⟩ => ?_
  exact hf v u s2 x y H2 I2 r1 r2 q2
theorem pe_op {op : Operator} {r : R2} (ho : OpR X (binaryOp op) r) (ha : PE X a ta) (hb : PE X b tb) : PE X (.BinOp a op b pos) (tOp r ta tb) := by
  intro pins s σ H Q I h
  exact wpAny_BinOp (binT ha hb I h fun v u s2 x y H2 I2 rx ry q => ho pins s2 σ H2 x y v u Q I2 rx ry q)
theorem pe_un {op : UnaryOp} {r : V → Hp → VK → Prop} (ho : UnR X (unaryOp op) r) (ha : PE X a ta) : PE X (.UnaryOp op a pos) (tUn r ta) := by
  intro pins s σ H Q I h
  exact UnaryOp_ (thn (ha pins s σ H _ I h) fun v s1 ⟨x, H1, I1, r1, q1⟩ => ho pins s1 σ H1 x v Q I1 r1 q1)
theorem opI {f : Value → Value → Sem Value} {C : Int → Int → Prop} {g : Int → Int → Int}
    (rule : ∀ (i j : Int) (t u : Tok) (s : Shared) (Q : Value → Shared → Prop) (E : Value → Shared → Prop), C i j → Q (.int (g i j) s.toks) { s with toks := s.toks + 1 } → wpAny (model X.prog X.w) X.A (f (.int i t) (.int j u)) Q E s) :
    OpR X f (rI C fun i j => .int (g i j)) := by
  intro pins s σ H x y v u Q I rx ry h
  obtain ⟨i, j, rfl, rfl, hc, q⟩ := h
  obtain ⟨t, rfl⟩ := rx
  obtain ⟨t', rfl⟩ := ry
  exact rule i j t t' s _ _ hc ⟨.int (g i j), H, I.tok _, ⟨_, rfl⟩, q⟩
theorem opI0 {f : Value → Value → Sem Value} {g : Int → Int → Int}
    (rule : ∀ (i j : Int) (t u : Tok) (s : Shared) (Q : Value → Shared → Prop) (E : Value → Shared → Prop), Q (.int (g i j) s.toks) { s with toks := s.toks + 1 } → wpAny (model X.prog X.w) X.A (f (.int i t) (.int j u)) Q E s) :
    OpR X f (rI0 fun i j => .int (g i j)) := by
  intro pins s σ H x y v u Q I rx ry h
  obtain ⟨i, j, rfl, rfl, q⟩ := h
  obtain ⟨t, rfl⟩ := rx
  obtain ⟨t', rfl⟩ := ry
  exact rule i j t t' s _ _ ⟨.int (g i j), H, I.tok _, ⟨_, rfl⟩, q⟩
theorem opB0 {f : Value → Value → Sem Value} {g : Int → Int → Bool}
    (rule : ∀ (i j : Int) (t u : Tok) (s : Shared) (Q : Value → Shared → Prop) (E : Value → Shared → Prop), Q (.bool (g i j)) s → wpAny (model X.prog X.w) X.A (f (.int i t) (.int j u)) Q E s) :
    OpR X f (rI0 fun i j => .bl (g i j)) := by
  intro pins s σ H x y v u Q I rx ry h
  obtain ⟨i, j, rfl, rfl, q⟩ := h
  obtain ⟨t, rfl⟩ := rx
  obtain ⟨t', rfl⟩ := ry
  exact rule i j t t' s _ _ ⟨.bl (g i j), H, I, rfl, q⟩
def CDiv (i j : Int) : Prop := 0 < j ∧ j < 1073741824
def CMul (i j : Int) : Prop := (-(2 ^ 64) < i ∧ i < 2 ^ 64) ∨ (-(2 ^ 64) < j ∧ j < 2 ^ 64)
theorem CMul.ok {i j : Int} (h : CMul i j) : IntMulOk i j := by
  rcases h with ⟨h1, h2⟩ | ⟨h1, h2⟩
  · exact .of_left (intBits_le_64 h1 h2)
  · exact .of_right (intBits_le_64 h1 h2)
theorem op_add : OpR X (binaryOp .Add) (rI0 fun i j => .int (i + j)) := opI0 fun _ _ _ _ _ _ _ q => add_int q
theorem op_sub : OpR X (binaryOp .Sub) (rI0 fun i j => .int (i - j)) := opI0 fun _ _ _ _ _ _ _ q => sub_int q
theorem op_mul : OpR X (binaryOp .Mult) (rI CMul fun i j => .int (i * j)) := opI fun _ _ _ _ _ _ _ hc q => mul_int q hc.ok
theorem op_fdiv : OpR X (binaryOp .FloorDiv) (rI CDiv fun i j => .int (i / j)) := opI fun i j _ _ _ _ _ hc q => by
  have h1 : (0 : Int) < j := hc.1
  have h2 : j < 1073741824 := hc.2
  exact floordiv_int (by omega) (by rw [Int.fdiv_eq_ediv_of_nonneg i (by omega)]; exact q) (.inl (PyProof.noPylong_small (by omega)))
theorem op_mod : OpR X (binaryOp .Mod) (rI (fun _ j => 0 < j) fun i j => .int (i % j)) := opI fun i j _ _ _ _ _ hc q => by
  have h1 : (0 : Int) < j := hc
  exact mod_int' (by omega) (by rw [Int.fmod_eq_emod_of_nonneg i (by omega)]; exact q)
theorem unI {f : Value → Sem Value} {g : Int → Int}
    (rule : ∀ (i : Int) (t : Tok) (s : Shared) (Q : Value → Shared → Prop) (E : Value → Shared → Prop), Q (.int (g i) s.toks) { s with toks := s.toks + 1 } → wpAny (model X.prog X.w) X.A (f (.int i t)) Q E s) :
    UnR X f (rU fun i => .int (g i)) := by
  intro pins s σ H x v Q I rx h
  obtain ⟨i, rfl, q⟩ := h
  obtain ⟨t, rfl⟩ := rx
  exact rule i t s _ _ ⟨.int (g i), H, I.tok _, ⟨_, rfl⟩, q⟩
theorem un_neg : UnR X (unaryOp .USub) (rU fun i => .int (-i)) := unI fun _ _ _ _ _ q => neg_int q
end
def scal : V → V → Bool
  | .non, .non => true | .non, .int _ => true | .int _, .non => true | .non, .bl _ => true | .bl _, .non => true | .non, .str _ => true | .str _, .non => true
  | .int _, .int _ => true | .bl _, .bl _ => true | .str _, .str _ => true | .byt _, .byt _ => true
  | .int _, .str _ => true | .str _, .int _ => true | .bl _, .str _ => true | .str _, .bl _ => true
  | _, _ => false
def rEq : R2 := fun x y H Q => scal x y = true ∧ Q (.bl (decide (x = y))) H
def rNe : R2 := fun x y H Q => scal x y = true ∧ Q (.bl (!decide (x = y))) H
theorem dec_int {i j : Int} : decide (V.int i = V.int j) = (i == j) := by
  rw [Bool.eq_iff_iff]
  simp
theorem dec_bl {i j : Bool} : decide (V.bl i = V.bl j) = (i == j) := by
  rw [Bool.eq_iff_iff]
  simp
theorem dec_str {i j : Str} : decide (V.str i = V.str j) = (i == j) := by
  rw [Bool.eq_iff_iff]
  simp
theorem dec_byt {i j : Array UInt8} : decide (V.byt i = V.byt j) = (i.toList == j.toList) := by
  rw [Bool.eq_iff_iff]
  cases i
  cases j
  simp
section
variable {X : Cx} {a b c : Expr} {ta tb tc : TE} {pos : Pos}
theorem fin_bl {pins : List (Addr × Obj)} {σ : St} {H : Hp} {s : Shared} {Q : VK} {k k' : Bool} (I : Inv X pins σ H s) (q : Q (.bl k) H) (e : k = k') : EP X pins σ Q (.bool k') s := by
  subst e
  exact ⟨.bl k, H, I, rfl, q⟩
theorem op_eq : OpR X (compareOp .Eq) rEq := by
  intro pins s σ H x y v u Q I rx ry h
  obtain ⟨hs, q⟩ := h
  cases x with
  | non =>
    cases rx
    cases y with
    | non => cases ry; exact PySem.EqNone.eq_none_none (fin_bl I q (by simp))
    | bl j => cases ry; exact PySem.EqNone.eq_none_bool (fin_bl I q (by simp))
    | int j => obtain ⟨t', rfl⟩ := ry; exact PySem.EqNone.eq_none_int (fin_bl I q (by simp))
    | str j => obtain ⟨t', rfl⟩ := ry; exact PySem.EqNone.eq_none_str (fin_bl I q (by simp))
    | _ => exact absurd (show false = true from hs) Bool.false_ne_true
  | bl i =>
    cases rx
    cases y with
    | non => cases ry; exact PySem.EqNone.eq_bool_none (fin_bl I q (by simp))
    | bl j => cases ry; exact eq_bool (fin_bl I q dec_bl)
    | str j => obtain ⟨t', rfl⟩ := ry; exact PySem.EqMixed.eq_bool_str (fin_bl I q (by simp))
    | _ => exact absurd (show false = true from hs) Bool.false_ne_true
  | int i =>
    obtain ⟨t, rfl⟩ := rx
    cases y with
    | non => cases ry; exact PySem.EqNone.eq_int_none (fin_bl I q (by simp))
    | int j => obtain ⟨t', rfl⟩ := ry; exact eq_int (fin_bl I q dec_int)
    | str j => obtain ⟨t', rfl⟩ := ry; exact PySem.EqMixed.eq_int_str (fin_bl I q (by simp))
    | _ => exact absurd (show false = true from hs) Bool.false_ne_true
  | str i =>
    obtain ⟨t, rfl⟩ := rx
    cases y with
    | non => cases ry; exact PySem.EqNone.eq_str_none (fin_bl I q (by simp))
    | bl j => cases ry; exact PySem.EqMixed.eq_str_bool (fin_bl I q (by simp))
    | int j => obtain ⟨t', rfl⟩ := ry; exact PySem.EqMixed.eq_str_int (fin_bl I q (by simp))
    | str j => obtain ⟨t', rfl⟩ := ry; exact eq_str (fin_bl I q dec_str)
    | _ => exact absurd (show false = true from hs) Bool.false_ne_true
  | byt i =>
    obtain ⟨t, rfl⟩ := rx
    cases y with
    | byt j => obtain ⟨t', rfl⟩ := ry; exact PySem.W.eq_bytes (fin_bl I q dec_byt)
    | _ => exact absurd (show false = true from hs) Bool.false_ne_true
  | _ => cases y <;> exact absurd (show false = true from hs) Bool.false_ne_true
theorem op_ne : OpR X (compareOp .NotEq) rNe := by
  intro pins s σ H x y v u Q I rx ry h
  obtain ⟨hs, q⟩ := h
  cases x with
  | non =>
    cases rx
    cases y with
    | non => cases ry; exact PySem.EqNone.ne_none_none (fin_bl I q (by simp))
    | bl j => cases ry; exact PySem.EqNone.ne_none_bool (fin_bl I q (by simp))
    | int j => obtain ⟨t', rfl⟩ := ry; exact PySem.EqNone.ne_none_int (fin_bl I q (by simp))
    | str j => obtain ⟨t', rfl⟩ := ry; exact PySem.EqNone.ne_none_str (fin_bl I q (by simp))
    | _ => exact absurd (show false = true from hs) Bool.false_ne_true
  | bl i =>
    cases rx
    cases y with
    | non => cases ry; exact PySem.EqNone.ne_bool_none (fin_bl I q (by simp))
    | bl j => cases ry; exact ne_bool (fin_bl I q (congrArg not dec_bl))
    | str j => obtain ⟨t', rfl⟩ := ry; exact PySem.EqMixed.ne_bool_str (fin_bl I q (by simp))
    | _ => exact absurd (show false = true from hs) Bool.false_ne_true
  | int i =>
    obtain ⟨t, rfl⟩ := rx
    cases y with
    | non => cases ry; exact PySem.EqNone.ne_int_none (fin_bl I q (by simp))
    | int j => obtain ⟨t', rfl⟩ := ry; exact ne_int (fin_bl I q (congrArg not dec_int))
    | str j => obtain ⟨t', rfl⟩ := ry; exact PySem.EqMixed.ne_int_str (fin_bl I q (by simp))
    | _ => exact absurd (show false = true from hs) Bool.false_ne_true
  | str i =>
    obtain ⟨t, rfl⟩ := rx
    cases y with
    | non => cases ry; exact PySem.EqNone.ne_str_none (fin_bl I q (by simp))
    | bl j => cases ry; exact PySem.EqMixed.ne_str_bool (fin_bl I q (by simp))
    | int j => obtain ⟨t', rfl⟩ := ry; exact PySem.EqMixed.ne_str_int (fin_bl I q (by simp))
    | str j => obtain ⟨t', rfl⟩ := ry; exact ne_str (fin_bl I q (congrArg not dec_str))
    | _ => exact absurd (show false = true from hs) Bool.false_ne_true
  | byt i =>
    obtain ⟨t, rfl⟩ := rx
    cases y with
    | byt j => obtain ⟨t', rfl⟩ := ry; exact PySem.W.ne_bytes (fin_bl I q (congrArg not dec_byt))
    | _ => exact absurd (show false = true from hs) Bool.false_ne_true
  | _ => cases y <;> exact absurd (show false = true from hs) Bool.false_ne_true
theorem op_lt : OpR X (compareOp .Lt) (rI0 fun i j => .bl (decide (i < j))) := opB0 fun _ _ _ _ _ _ _ q => lt_int q
theorem op_le : OpR X (compareOp .LtE) (rI0 fun i j => .bl (decide (i ≤ j))) := opB0 fun _ _ _ _ _ _ _ q => le_int q
theorem op_gt : OpR X (compareOp .Gt) (rI0 fun i j => .bl (decide (j < i))) := opB0 fun _ _ _ _ _ _ _ q => gt_int q
theorem op_ge : OpR X (compareOp .GtE) (rI0 fun i j => .bl (decide (j ≤ i))) := opB0 fun _ _ _ _ _ _ _ q => ge_int q
theorem nomark (b : Expr) {op : CmpOp} (h : op ≠ .In := by decide) (h2 : op ≠ .NotIn := by decide) : behindInMarks op b = false := by
  have e1 : (op == CmpOp.In) = false := by cases op <;> first | rfl | exact absurd rfl h
  have e2 : (op == CmpOp.NotIn) = false := by cases op <;> first | rfl | exact absurd rfl h2
  cases b <;> simp [behindInMarks, e1, e2]
theorem pe_cmpR {op : CmpOp} {r : R2} (ho : OpR X (compareOp op) r) (ha : PE X a ta) (hb : PE X b tb) (hm : behindInMarks op b = false) : PE X (.Compare a [op] [b] pos) (tOp r ta tb) := by
  intro pins s σ H Q I h
  exact wpAny_Compare1 (binT ha hb I h fun v u s2 x y H2 I2 rx ry q => ho pins s2 σ H2 x y v u Q I2 rx ry q) hm
def tTest (t : TE) : TT := fun σ H Q => t σ H fun x H' => ∃ k, x = .bl k ∧ Q k H'
theorem pt_cmpR {op : CmpOp} {r : R2} (ho : OpR X (compareOp op) r) (ha : PE X a ta) (hb : PE X b tb) (hm : behindInMarks op b = false) : PT X (.Compare a [op] [b] pos) (tTest (tOp r ta tb)) := by
  intro pins s σ H Q I h
  refine wpAny_isTrue_Compare1 (thn (ha pins s σ H _ I h) fun v s1 ⟨x, H1, I1, r1, q1⟩ => thn (hb pins s1 σ H1 _ I1 q1) fun u s2 ⟨y, H2, I2, r2, q2⟩ =>
    thn (ho pins s2 σ H2 x y v u _ I2 r1 r2 q2) fun c s3 ⟨z, H3, I3, r3, k, e, q3⟩ => ?_) hm
  subst e
  cases r3
  exact wpAny_truthy_bool ⟨H3, I3, q3⟩
def tChain (r r' : R2) (ta tb tc : TE) : TE := fun σ H Q => ta σ H fun x H1 => tb σ H1 fun y H2 => r x y H2 fun z H3 => ∃ k, z = .bl k ∧
  (if k = true then tc σ H3 fun w' H4 => r' y w' H4 Q else Q (.bl false) H3)
theorem pe_chain {op op' : CmpOp} {r r' : R2} (ho : OpR X (compareOp op) r) (ho' : OpR X (compareOp op') r') (ha : PE X a ta) (hb : PE X b tb) (hc : PE X c tc)
    (hm : lastMarks [op, op'] [b, c] = false := by with_unfolding_all rfl) : PE X (.Compare a [op, op'] [b, c] pos) (tChain r r' ta tb tc) := by
  intro pins s σ H Q I h
  refine Compare_chain (thn (ha pins s σ H _ I h) fun v s1 ⟨x, H1, I1, r1, q1⟩ => chain_link (thn (hb pins s1 σ H1 _ I1 q1) fun u s2 ⟨y, H2, I2, r2, q2⟩ =>
    thn (ho pins s2 σ H2 x y v u _ I2 r1 r2 q2) fun d s3 ⟨z, H3, I3, r3, k, e, q3⟩ => ?_)) hm
  subst e
  cases r3
  refine wpAny_truthy_bool ?_
  cases k with
  | false => exact ite_ff ⟨.bl false, H3, I3, rfl, q3⟩
  | true => exact ite_tt (chain_last (thn (hc pins s3 σ H3 _ I3 q3) fun w' s4 ⟨z', H4, I4, r4, q4⟩ => ho' pins s4 σ H4 y z' u w' Q I4 r2 r4 q4))
theorem pt_chain {op op' : CmpOp} {r r' : R2} (ho : OpR X (compareOp op) r) (ho' : OpR X (compareOp op') r') (ha : PE X a ta) (hb : PE X b tb) (hc : PE X c tc)
    (hm : lastMarks [op, op'] [b, c] = false := by with_unfolding_all rfl) : PT X (.Compare a [op, op'] [b, c] pos) (tTest (tChain r r' ta tb tc)) := by
  intro pins s σ H Q I h
  refine isTrue_chain (thn (ha pins s σ H _ I h) fun v s1 ⟨x, H1, I1, r1, q1⟩ => test_link (thn (hb pins s1 σ H1 _ I1 q1) fun u s2 ⟨y, H2, I2, r2, q2⟩ =>
    thn (ho pins s2 σ H2 x y v u _ I2 r1 r2 q2) fun d s3 ⟨z, H3, I3, r3, k, e, q3⟩ => ?_)) hm
  subst e
  cases r3
  refine wpAny_truthy_bool ?_
  cases k with
  | false =>
    obtain ⟨k', e', q'⟩ := q3
    cases e'
    exact ite_ff ⟨H3, I3, q'⟩
  | true =>
    refine ite_tt (test_last (thn (hc pins s3 σ H3 _ I3 q3) fun w' s4 ⟨z', H4, I4, r4, q4⟩ => thn (ho' pins s4 σ H4 y z' u w' _ I4 r2 r4 q4) fun d' s5 ⟨z2, H5, I5, r5, k2, e2, q5⟩ => ?_))
    subst e2
    cases r5
    exact wpAny_truthy_bool ⟨H5, I5, q5⟩
def TruV (K : PySem.W.Frag) (x : V) (H : Hp) (k : Bool) : Prop :=
  match x with
  | .non => k = false
  | .bl b => k = b
  | .int i => k = (i != 0)
  | .str y => y.length ≤ sizeLine ∧ k = ((y.length : Int) != 0)
  | .byt y => y.size ≤ sizeLine ∧ k = ((y.size : Int) != 0)
  | .ref p => (∃ xs, SqL K H p xs ∧ k = !xs.isEmpty) ∨ (∃ xs, SqT K H p xs ∧ k = !xs.isEmpty) ∨ ∃ kvs, H p = some (.dK kvs) ∧ k = !kvs.isEmpty
  | _ => False
theorem isEmpty_kv {κ : Type} {kvs : List (κ × V)} {vs : List (κ × Value)} (r : KV kvs vs) : (!vs.isEmpty) = !kvs.isEmpty := by
  cases r <;> rfl
theorem isEmpty_of {xs : List V} {its : List Value} (r : Vals xs its) : (!its.toArray.isEmpty) = !xs.isEmpty := by
  cases r <;> simp
theorem line63 : (sizeLine : Nat) < 2 ^ 63 := by rw [sizeLine_eq]; decide
theorem tru_ok : TruR X (fun x H Q => ∃ k, TruV X.K x H k ∧ Q k H) := by
  intro pins s σ H x v Q I rx h
  obtain ⟨k, e, q⟩ := h
  have hl := line63
  have hs : sizeLine = 16777216 := sizeLine_eq
  cases x with
  | non =>
    cases rx
    have e' : k = false := e
    subst e'
    exact truthy_none ⟨H, I, q⟩
  | bl b =>
    cases rx
    have e' : k = b := e
    subst e'
    exact wpAny_truthy_bool ⟨H, I, q⟩
  | int i =>
    obtain ⟨t, rfl⟩ := rx
    have e' : k = (i != 0) := e
    subst e'
    exact PySem.P.truthy_int ⟨H, I, q⟩
  | str y =>
    obtain ⟨t, rfl⟩ := rx
    obtain ⟨hy, e'⟩ : y.length ≤ sizeLine ∧ k = ((y.length : Int) != 0) := e
    subst e'
    exact PySem.P.truthy_str (by omega) ⟨H, I.tok _, q⟩
  | byt y =>
    obtain ⟨t, rfl⟩ := rx
    obtain ⟨hy, e'⟩ : y.size ≤ sizeLine ∧ k = ((y.size : Int) != 0) := e
    subst e'
    exact PySem.W.truthy_bytes (by omega) ⟨H, I.tok _, q⟩
  | ref p =>
    cases rx
    have e' : (∃ xs, SqL X.K H p xs ∧ k = !xs.isEmpty) ∨ (∃ xs, SqT X.K H p xs ∧ k = !xs.isEmpty) ∨ ∃ kvs, H p = some (.dK kvs) ∧ k = !kvs.isEmpty := e
    rcases e' with ⟨xs, hx, e'⟩ | ⟨xs, hx, e'⟩ | ⟨kvs, hx, e'⟩
    · subst e'
      obtain ⟨its, r, pl, hz⟩ := I.list hx
      have hlen := r.length
      exact wpAny_truthy_list pl.isList (by simp only [List.size_toArray]; omega) ⟨H, I.tok _, by rw [isEmpty_of r]; exact q⟩
    · subst e'
      obtain ⟨its, r, pl, hz⟩ := I.tuple hx
      have hlen := r.length
      exact truthy_tuple pl (by simp only [List.size_toArray]; omega) ⟨H, I.tok _, by rw [isEmpty_of r]; exact q⟩
    · subst e'
      obtain ⟨hz, hS, vs, r, m⟩ : kvs.length ≤ sizeLine ∧ (p == sysModules) = false ∧ ∃ vs, KV kvs vs ∧ s.heap.DictOf (mixKind X.prog X.w) p vs := I.hok p _ hx
      have hlen : kvs.length = vs.length := Paired.length r
      exact wpAny_truthy_dict hS m (by omega) ⟨H, I.tok _, by rw [isEmpty_kv r]; exact q⟩
  | _ => exact (show False from e).elim
theorem pt_truth (ha : PE X a ta) (he : ∀ whole, isTrue a X.env whole = (do let v ← whole; standAt a.pos; holding [v] (truthy v))) :
    PT X a (fun σ H Q => ta σ H fun x H' => ∃ k, TruV X.K x H' k ∧ Q k H') := by
  intro pins s σ H Q I h
  exact isTrue_plain (thn (ha pins s σ H _ I h) fun v s1 ⟨x, H1, I1, r1, q1⟩ => tru_ok pins s1 σ H1 x v Q I1 r1 q1) (he _)
theorem vals1 {x : V} {us : List Value} (r : Vals [x] us) : ∃ u, us = [u] ∧ RelV x u := by
  cases r with
  | cons r1 r2 => cases r2; exact ⟨_, rfl, r1⟩
theorem vals2 {x y : V} {us : List Value} (r : Vals [x, y] us) : ∃ u w', us = [u, w'] ∧ RelV x u ∧ RelV y w' := by
  cases r with
  | cons r1 r2 =>
    cases r2 with
    | cons r3 r4 => cases r4; exact ⟨_, _, rfl, r1, r3⟩
theorem call_int1 : CallR X (.type "int") (fun xs H Q => (∃ i, xs = [.int i] ∧ Q (.int i) H) ∨ ∃ k, xs = [.bl k] ∧ Q (.int (if k then 1 else 0)) H) := by
  intro pins s σ H xs us Q I r h
  rcases h with ⟨i, rfl, q⟩ | ⟨k, rfl, q⟩
  · obtain ⟨u, rfl, t, rfl⟩ := vals1 r
    exact call_int_int ⟨.int i, H, I, ⟨_, rfl⟩, q⟩
  · obtain ⟨u, rfl, r1⟩ := vals1 r
    cases r1
    exact call_int_bool ⟨.int (if k then 1 else 0), H, I.tok _, ⟨_, rfl⟩, q⟩
end
end L2
namespace L2
open PySem PySem.Spec PyProof.Rows
structure ObjM (h : Heap) (x dx C : Addr) (mA : Str → Option Value) : Prop where
  obj : h.get? x = some (PySem.W.instObj C dx)
  ns : h.Ns1 dx mA
  ne : dx ≠ x
theorem lookIn_ns {h : Heap} {dx : Addr} {mA : Str → Option Value} (n : h.Ns1 dx mA) : ∃ od, h.get? dx = some od ∧ ∀ name, PySem.W.lookIn name od = some (mA name) := by
  obtain ⟨o, es, ep, ho, hd, hk, _, hm⟩ := n
  refine ⟨o, ho, fun name => ?_⟩
  have e := hm name
  unfold nsFind findBy at e
  rw [← Array.find?_toList] at e
  unfold PySem.W.lookIn
  rw [hd]
  dsimp only
  split
  · rename_i y q
    rw [q] at e
    exact congrArg some e
  · rename_i q
    rw [q] at e
    have a : es.toList.any (·.refKey) = false := by
      rw [List.any_eq_false]
      intro y hy
      obtain ⟨z, t, hkey⟩ := hk y (Array.mem_toList_iff.mp hy)
      simp [DictEntry.refKey, hkey]
    have a' : ¬ es.toList.any (·.refKey) = true := by rw [a]; exact Bool.false_ne_true
    rw [if_neg a']
    exact congrArg some e
theorem ObjM.look {h : Heap} {x dx C : Addr} {mA : Str → Option Value} (I : ObjM h x dx C mA) : ∃ od, PySem.W.InstAt h x (PySem.W.instObj C dx) C (some od) ∧ ∀ name, PySem.W.lookIn name od = some (mA name) :=
  let ⟨od, ho, hl⟩ := lookIn_ns I.ns
  ⟨od, ⟨I.obj, rfl, rfl, ho⟩, hl⟩
section
variable {prog : Program} {w : World} {A : Around} {E : Value → Shared → Prop} {s : Shared} {K : PySem.W.Frag} {x dx C f : Addr} {mA : Str → Option Value} {name : Str} {v : Value}
end
section
variable {P : Program} {w : World} {H H' : Hp} {h h' : Heap} {a C dx : Addr} {fs fs' : List (Str × V)}
theorem ins_get (hok : HOk P w H h) (e : H a = some (.ins C dx fs)) : ∃ mA, ObjM h a dx C mA ∧ (∀ f, RelO (fs.lookup f) (mA f)) ∧ PySem.Within mA (fs.map (·.1)) ∧ fs.length ≤ 1000 ∧ H dx = some (.own a) := by
  obtain ⟨d, z, ne, ob, mA, n, r, q⟩ := (show ObjOk P w H h a (.ins C dx fs) from hok a _ e)
  exact ⟨mA, ⟨ob, n, ne⟩, r, q, z, d⟩
end
structure Cls (K : PySem.W.Frag) (C : Addr) : Prop where
  pg : PySem.W.plainGet K C Str.empty = true
  hd : PySem.W.hasDictIn K C = true
  po : PySem.W.plainOver K C = true
  sa : PySem.W.findIn K (.ref C) "__setattr__" = some (some (.builtin "object.__setattr__"))
theorem Cls.get {K : PySem.W.Frag} {C : Addr} (c : Cls K C) (f : Str) : PySem.W.plainGet K C f = true := c.pg
section
variable {X : Cx} {pins : List (Addr × Obj)} {σ : St} {H : Hp} {s : Shared} {a C dx : Addr} {fs : List (Str × V)} {f : Str} {v : V} {A : Around} {E : Value → Shared → Prop}
theorem Inv.made (I : Inv X pins σ H s) : Inv X pins σ (upd (upd H s.heap.objs.size (.own (s.heap.objs.size + 1))) (s.heap.objs.size + 1) (.ins C s.heap.objs.size []))
    { s with heap := (s.heap.push PySem.W.emptyDict).push (PySem.W.instObj C s.heap.objs.size) } := by
  have e1 : (s.heap.push PySem.W.emptyDict).get? s.heap.objs.size = some PySem.W.emptyDict := Heap.get?_push_size s.heap rfl
  have e2 : ((s.heap.push PySem.W.emptyDict).push (PySem.W.instObj C s.heap.objs.size)).get? (s.heap.objs.size + 1) = some (PySem.W.instObj C s.heap.objs.size) := by
    have := Heap.get?_push_size (s.heap.push PySem.W.emptyDict) (o := PySem.W.instObj C s.heap.objs.size) rfl
    rwa [Heap.size_push] at this
  have e3 : (s.heap.push PySem.W.emptyDict).Ns s.heap.objs.size (fun _ => none) := ⟨PySem.W.emptyDict, #[], _, e1, rfl, (fun e he => absurd he (by simp)), fun _ => rfl⟩
  have I1 := I.laid (a := s.heap.objs.size) (o := .own (s.heap.objs.size + 1)) (h' := s.heap.push PySem.W.emptyDict) (t' := s.toks) (fun b u q => Heap.get?_push_of_some _ q) (Nat.le_refl _) ⟨_, e1⟩
  refine I1.laid (a := s.heap.objs.size + 1) (o := .ins C s.heap.objs.size []) (t' := s.toks) (fun b u q => Heap.get?_push_of_some _ q) (Nat.le_of_eq (Heap.size_push _ _)) ?_
  have ne : s.heap.objs.size ≠ s.heap.objs.size + 1 := Nat.ne_of_lt (Nat.lt_succ_self _)
  refine ⟨by rw [upd_ne ne, upd_same], Nat.zero_le _, ne, e2, fun _ => none, (Heap.Ns1.of_empty e3).at fun o q => Heap.get?_push_of_some _ q, fun _ => True.intro, fun y hy => absurd rfl hy⟩
end
section
variable {X : Cx} {o e value : Expr} {f : Str} {pos pos' tpos : Pos} {ta tv : TE}
end
section
variable {X : Cx} {pins : List (Addr × Obj)} {σ : St} {H : Hp} {s : Shared} {A : Around} {E : Value → Shared → Prop} {Q : Value → Shared → Prop} {c : Value} {b : Bool}
inductive TyOf (K : PySem.W.Frag) (H : Hp) : V → Value → Prop where
  | non : TyOf K H .non (.type "NoneType")
  | bl (x : Bool) : TyOf K H (.bl x) (.type "bool")
  | int (i : Int) : TyOf K H (.int i) (.type "int")
  | str (x : Str) : TyOf K H (.str x) (.type "str")
  | flt (x : UInt64) : TyOf K H (.flt x) (.type "float")
  | lst {a : Addr} {xs : List V} (e : H a = some (.lst xs)) : TyOf K H (.ref a) (.type "list")
  | frz {a : Addr} {o : Obj} {xs : List V} (e : H a = some (.frz o (.lst xs))) : TyOf K H (.ref a) (.type "list")
  | tup {a : Addr} {xs : List V} (e : H a = some (.tup xs)) : TyOf K H (.ref a) (.type "tuple")
  | dK {a : Addr} {kvs : List (Key × V)} (e : H a = some (.dK kvs)) : TyOf K H (.ref a) (.type "dict")
  | dT {a : Addr} {kvs : List (List Key × V)} (e : H a = some (.dT kvs)) : TyOf K H (.ref a) (.type "dict")
  | ins {a C dx : Addr} {fs : List (Str × V)} (e : H a = some (.ins C dx fs)) (cl : Cls K C) (ha : PySem.W.findIn K (.ref C) "__class__" = some (some (.builtin "object.__class__")))
      (hn : PySem.W.specialIn K (.builtin "object.__class__") "__get__" = some (some (.builtin "getset_descriptor.__get__"))) (htk : PySem.W.takesIn K (.builtin "object.__class__") = some true)
      (hm : PySem.W.mroIn K C (.type "object") = some true) : TyOf K H (.ref a) (.ref C)
theorem isinst_ok {x : V} {u t : Value} (I : Inv X pins σ H s) (rx : RelV x u) (ty : TyOf X.K H x t) (e : PySem.W.kitOne X.K t c = some b) (h : ∀ tk, Q (.bool b) { s with toks := tk }) :
    wpAny (model X.prog X.w) A (call (.builtin "isinstance") [u, c]) Q E s := by
  cases ty with
  | non => cases (show u = Value.none from rx); exact PySem.W.kia_one PySem.W.kitx_none I.kIn True.intro e (fun z => nomatch z) h
  | bl y => cases (show u = Value.bool y from rx); exact PySem.W.kia_one PySem.W.kitx_bool I.kIn True.intro e (fun z => nomatch z) h
  | int i => obtain ⟨t, q⟩ := (show ∃ t, u = Value.int i t from rx); cases q; exact PySem.W.kia_one PySem.W.kitx_int I.kIn True.intro e (fun z => nomatch z) h
  | str y => obtain ⟨t, q⟩ := (show ∃ t, u = Value.str y t from rx); cases q; exact PySem.W.kia_one PySem.W.kitx_str I.kIn True.intro e (fun z => nomatch z) h
  | flt y => obtain ⟨t, q⟩ := (show ∃ t, u = Value.float y t from rx); cases q; exact PySem.W.kia_one PySem.W.kitx_float I.kIn True.intro e (fun z => nomatch z) h
  | @lst a xs ea =>
    cases (show u = Value.ref a from rx)
    obtain ⟨_, _, n, _, h1⟩ := (show ObjOk X.prog X.w H s.heap a (.lst xs) from I.hok a _ ea)
    exact PySem.W.kia_one PySem.W.kitx_list I.kIn ⟨_, h1, rfl⟩ e (fun z => nomatch z) h
  | @frz a ob xs ea =>
    cases (show u = Value.ref a from rx)
    obtain ⟨_, _, _, n, _, h1⟩ := (show ObjOk X.prog X.w H s.heap a (.frz ob (.lst xs)) from I.hok a _ ea)
    exact PySem.W.kia_one PySem.W.kitx_list I.kIn ⟨_, h1, rfl⟩ e (fun z => nomatch z) h
  | @tup a xs ea =>
    cases (show u = Value.ref a from rx)
    obtain ⟨_, _, _, p⟩ := (show ObjOk X.prog X.w H s.heap a (.tup xs) from I.hok a _ ea)
    obtain ⟨o, h1, h2, _⟩ := p
    exact PySem.W.kia_one PySem.W.kitx_tuple I.kIn ⟨o, h1, h2⟩ e (fun z => nomatch z) h
  | @dK a kvs ea =>
    cases (show u = Value.ref a from rx)
    obtain ⟨_, _, vs, _, p⟩ := (show ObjOk X.prog X.w H s.heap a (.dK kvs) from I.hok a _ ea)
    obtain ⟨o, es, ep, h1, h2, _⟩ := p
    exact PySem.W.kia_one PySem.W.kitx_dict I.kIn ⟨o, h1, h2.1⟩ e (fun z => nomatch z) h
  | @dT a kvs ea =>
    cases (show u = Value.ref a from rx)
    obtain ⟨_, _, xs, _, o, es, ep, h1, h2, _⟩ := (show ObjOk X.prog X.w H s.heap a (.dT kvs) from I.hok a _ ea)
    exact PySem.W.kia_one PySem.W.kitx_dict I.kIn ⟨o, h1, h2.1⟩ e (fun z => nomatch z) h
  | @ins a C dx fs ea cl ha hn htk hm =>
    cases (show u = Value.ref a from rx)
    obtain ⟨mA, O, _⟩ := ins_get I.hok ea
    obtain ⟨od, J, _⟩ := O.look
    exact PySem.W.kia_one (PySem.W.kitx_own (cl.get _) cl.hd ha hn htk hm) I.kIn J e (fun z => nomatch z) h
end
end L2
namespace L2
open PySem PySem.Spec PyProof.Rows
structure Room (k : Nat) (A : Around) : Prop where
  hd : A.handled = none
  dp : A.depth + 3 * k + 5 < recursionLimit
  un : A.units + 16 * k + 200 < cLine
theorem Room.mono {j k : Nat} {A : Around} (r : Room k A) (h : j ≤ k) : Room j A := ⟨r.hd, by have := r.dp; omega, by have := r.un; omega⟩
theorem Room.deeper {k : Nat} {A : Around} (r : Room (k + 1) A) (env : Env) : Room k (A.deeper env) :=
  ⟨r.hd, by have := r.dp; show A.depth + 1 + 3 * k + 5 < _; omega, by have := r.un; show A.units + 3 + 16 * k + 200 < _; omega⟩
theorem Room.in1 {k : Nat} {A : Around} (r : Room (k + 1) A) : Room k A.in1 :=
  ⟨r.hd, by have := r.dp; show A.depth + 3 * k + 5 < _; omega, by have := r.un; show A.units + 1 + 16 * k + 200 < _; omega⟩
theorem Room.depth {k : Nat} {A : Around} (r : Room k A) : A.depth < recursionLimit := by have := r.dp; omega
theorem Room.units {k : Nat} {A : Around} (r : Room k A) : A.units + 64 < cLine := by have := r.un; omega
def tNil : TA := fun _ H Q => Q [] H
def tCons (ta : TE) (tr : TA) : TA := fun σ H Q => ta σ H fun x H1 => tr σ H1 fun xs H2 => Q (x :: xs) H2
section
variable {X : Cx} {e : Expr} {es : List Expr} {te : TE} {t : TA} {pos : Pos}
theorem pa_nil : PA X [] tNil := fun _ _ _ _ H Q I h => Calls.spliced_nil ⟨[], H, I, .nil, h⟩
theorem pa_cons (ha : PE X e te) (hr : PA X es t) (hs : starEach (e :: es) X.env = (false, eval e X.env) :: starEach es X.env := by rfl) : PA X (e :: es) (tCons te t) := by
  intro pos pins s σ H Q I h
  rw [hs]
  show wpAny _ _ (spliced ((false, eval e X.env) :: backTo pos (starEach es X.env))) _ _ s
  refine Calls.spliced_cons (thn (ha pins s σ H _ I h) fun u s1 ⟨x, H1, I1, r1, q1⟩ => ?_)
  exact thn (hr pos pins s1 σ H1 _ I1 q1) fun us s2 ⟨xs, H2, I2, r2, q2⟩ => ⟨x :: xs, H2, I2, .cons r1 r2, q2⟩
def tTup (t : TA) : TE := fun σ H Q => t σ H fun xs H1 => xs.length ≤ sizeLine ∧ ∀ p, H1 p = none → Q (.ref p) (upd H1 p (.tup xs))
def tLst (t : TA) : TE := fun σ H Q => t σ H fun xs H1 => xs.length ≤ sizeLine ∧ ∀ p, H1 p = none → Q (.ref p) (upd H1 p (.lst xs))
theorem pe_tup {x1} (h : PA X es t) : PE X (.Tuple es x1 pos) (tTup t) := by
  intro pins s σ H Q I hq
  refine wpAny_Tuple_spliced (thn (h pos pins s σ H _ I hq) fun us s1 ⟨xs, H1, I1, r, z, q⟩ => ⟨by rw [← r.length]; exact z, ?_⟩)
  have hf : H1 s1.heap.objs.size = none := I1.hok.fresh (Nat.le_refl _)
  refine ⟨.ref s1.heap.objs.size, upd H1 s1.heap.objs.size (.tup xs), I1.laid (t' := s1.toks) (fun b u e => Heap.get?_push_of_some _ e) (Nat.le_refl _) ?_, rfl, q _ hf⟩
  exact ⟨z, us, r, ⟨_, Heap.get?_push_size _ rfl, rfl, _, rfl⟩⟩
theorem pe_lst (h : PA X es t) : PE X (.List es pos) (tLst t) := by
  intro pins s σ H Q I hq
  refine wpAny_List_spliced (thn (h pos pins s σ H _ I hq) fun us s1 ⟨xs, H1, I1, r, z, q⟩ => ⟨by rw [← r.length]; exact z, ?_⟩)
  have hf : H1 s1.heap.objs.size = none := I1.hok.fresh (Nat.le_refl _)
  refine ⟨.ref s1.heap.objs.size, upd H1 s1.heap.objs.size (.lst xs), I1.laid (t' := s1.toks) (fun b u e => Heap.get?_push_of_some _ e) (Nat.le_refl _) ?_, rfl, q _ hf⟩
  exact ⟨z, us, 0, r, Heap.get?_push_size _ rfl⟩
end
abbrev Sp := List V → Hp → VK → XK → Prop
abbrev CXT := List Env → Hp → Shared → XK → Value → Shared → Prop
structure Env0 (P : Program) (w : World) (K : PySem.W.Frag) (mg : Str → Option Value) (base : Heap) (A : Around) (outer : List Env) (s : Shared) (H : Hp) : Prop where
  frames : A.frames = some outer
  mod : Mod K mg base
  bs : ∀ b o, base.get? b = some o → s.heap.get? b = some o ∧ H b = none
  bsz : base.objs.size ≤ s.heap.objs.size
  funs : s.heap.FunFrames base outer
  frf : ∀ b ∈ frs outer, H b = none
  hok : HOk P w H s.heap
  bare : AllBare s.gens
def CE (outer : List Env) (P : Program) (w : World) (H : Hp) (s : Shared) (Q : VK) (u : Value) (s' : Shared) : Prop :=
  ∃ v H', s'.os = s.os ∧ AllBare s'.gens ∧ Un (frs outer) [] H H' s.heap s'.heap ∧ HOk P w H' s'.heap ∧ RelV v u ∧ Q v H'
def CR (CX : CXT) (outer : List Env) (P : Program) (w : World) (H : Hp) (s : Shared) (Q : VK) (E : XK) (r : Result) (s' : Shared) : Prop :=
  match r with
  | .ok (.ret u) => CE outer P w H s Q u s'
  | .ok _ => False
  | .error e => CX outer H s E e s'
structure FnOk (P : Program) (w : World) (K : PySem.W.Frag) (mg : Str → Option Value) (base : Heap) (CX : CXT) (k : Nat) (f : Addr) (fd : FuncData) (ps : List Str) (sp : Sp) : Prop where
  len : ∀ vs H Q E, sp vs H Q E → vs.length = ps.length
  run : ∀ (A : Around) (outer : List Env) (s : Shared) (H : Hp) (args : Args) (us : List Value) (vs : List V) (Q : VK) (E : XK), Room k A → Env0 P w K mg base A outer s H → BindsTo s fd args (ps.zip us) → Vals vs us → sp vs H Q E →
    codeAny (model P w) A (.call (.ref f) args) (CR CX outer P w H s Q E) s
theorem FnOk.mono {P : Program} {w : World} {K : PySem.W.Frag} {mg : Str → Option Value} {base : Heap} {CX : CXT} {j k : Nat} {f : Addr} {fd : FuncData} {ps : List Str} {sp : Sp} (F : FnOk P w K mg base CX j f fd ps sp) (h : j ≤ k) :
    FnOk P w K mg base CX k f fd ps sp := ⟨F.len, fun A outer s H args us vs Q E hr => F.run A outer s H args us vs Q E (hr.mono h)⟩
theorem FnOk.imp {P : Program} {w : World} {K : PySem.W.Frag} {mg : Str → Option Value} {base : Heap} {CX : CXT} {k : Nat} {f : Addr} {fd : FuncData} {ps : List Str} {sp sp' : Sp} (F : FnOk P w K mg base CX k f fd ps sp)
    (h : ∀ vs H Q E, sp' vs H Q E → sp vs H Q E) : FnOk P w K mg base CX k f fd ps sp' :=
  ⟨fun vs H Q E q => F.len vs H Q E (h _ _ _ _ q), fun A outer s H args us vs Q E hr he hb hv hs => F.run A outer s H args us vs Q E hr he hb hv (h _ _ _ _ hs)⟩
theorem Env0.in1 {P : Program} {w : World} {K : PySem.W.Frag} {mg : Str → Option Value} {base : Heap} {A : Around} {outer : List Env} {s : Shared} {H : Hp} (e : Env0 P w K mg base A outer s H) :
    Env0 P w K mg base A.in1 outer s H := ⟨e.frames, e.mod, e.bs, e.bsz, e.funs, e.frf, e.hok, e.bare⟩
section
variable {X : Cx} {pins : List (Addr × Obj)} {σ : St} {H : Hp} {s s' : Shared}
theorem Inv.env0 (I : Inv X pins σ H s) : Env0 X.prog X.w X.K X.mg X.base X.A X.stack s H :=
  ⟨I.ok.frames, I.ok.mod, I.bs, Nat.le_trans I.ok.bsz I.sz, I.stack, I.stkFree, I.hok, I.bare⟩
theorem Inv.after {Q : VK} {u : Value} (I : Inv X pins σ H s) (h : CE X.stack X.prog X.w H s Q u s') : EP X pins σ Q u s' := by
  obtain ⟨v, H', os, bare, un, hok, r, q⟩ := h
  obtain ⟨hh, g, d, t, os'⟩ := s'
  obtain rfl : os' = s.os := os
  exact ⟨v, H', I.call (h' := hh) (g' := g) (d' := d) (t' := t) (ch := []) un hok bare (fun b z => absurd z (by simp)), r, q⟩
end
def tCall (sp : Sp) (dvs : List V) (E : XK) (t : TA) : TE := fun σ H Q => t σ H fun vs H1 => sp (vs ++ dvs) H1 Q E
def Binds (K : PySem.W.Frag) (fd : FuncData) (ps : List Str) (ds : List Value) : Prop :=
  ∀ (s : Shared) (us : List Value), K.In s.heap → (us ++ ds).length = ps.length → BindsTo s fd ⟨us, []⟩ (ps.zip (us ++ ds))
theorem Binds.all {K : PySem.W.Frag} {fd : FuncData} {ps : List Str} (h : ∀ us : List Value, us.length = ps.length → bindArgs fd ⟨us, []⟩ = pure (ps.zip us)) : Binds K fd ps [] := fun s us _ hl => by
  rw [List.append_nil] at hl ⊢
  exact .of_eq (h us hl)
def Passes (CX : CXT) (X : Cx) (E : XK) : Prop := ∀ (pins : List (Addr × Obj)) (σ : St) (H : Hp) (s : Shared) (e : Value) (s' : Shared), Inv X pins σ H s → CX X.stack H s E e s' → X.xe e s'
section
variable {X : Cx} {CX : CXT} {k : Nat} {f C : Addr} {fd : FuncData} {ps : List Str} {sp : Sp} {dvs : List V} {ds : List Value} {E : XK} {x m : Str} {p pos apos : Pos} {e o : Expr} {es : List Expr} {ta : TE} {t : TA}
theorem run_fn {pins : List (Addr × Obj)} {σ : St} {H : Hp} {s : Shared} {Q : VK} {us : List Value} {vs : List V} (F : FnOk X.prog X.w X.K X.mg X.base CX k f fd ps sp) (hr : Room k X.A) (hb : Binds X.K fd ps ds) (hd : Vals dvs ds) (hx : Passes CX X E)
    (I : Inv X pins σ H s) (r : Vals vs us) (h : sp (vs ++ dvs) H Q E) : wpAny (model X.prog X.w) X.A (call (.ref f) us) (EP X pins σ Q) X.xe s := by
  have r2 : Vals (vs ++ dvs) (us ++ ds) := r.append hd
  have hl : (us ++ ds).length = ps.length := by rw [← r2.length]; exact F.len _ _ _ _ h
  refine wpAny_call (codeAny_mono (F.run X.A X.stack s H ⟨us, []⟩ (us ++ ds) (vs ++ dvs) Q E hr I.env0 (hb s us I.kIn hl) r2 h) fun r s' hq => ?_)
  cases r with
  | error e => exact hx pins σ H s e s' I hq
  | ok fl =>
    cases fl with
    | ret u => exact I.after hq
    | next => exact False.elim hq
    | brk => exact False.elim hq
    | cont => exact False.elim hq
theorem pe_call (F : FnOk X.prog X.w X.K X.mg X.base CX k f fd ps sp) (hr : Room k X.A) (hg : Gl X x) (hm : X.mg x = some (.ref f)) (hk : PySem.W.keepIn X.K (.ref f) = true) (hb : Binds X.K fd ps ds) (hd : Vals dvs ds) (hx : Passes CX X E)
    (ha : PA X (e :: es) t) (hdb : (x == ("__debug__" : Str)) = false := by decide) (he : starEach (e :: es) X.env = (false, eval e X.env) :: starEach es X.env := by rfl) (hpl : (backTo pos (starEach es X.env)).any (·.1) = false := by rfl) :
    PE X (.Call (.Name x p) (e :: es) [] pos) (tCall sp dvs E t) := by
  intro pins s σ H Q I h
  refine wpAny_Call_Name_kw (ld_glob I hg hm ?_ hdb)
  refine PySem.W.callWith_K (h₀ := X.base) I.ok.mod.kin hk (thn (ha pos pins s σ H _ I h) fun us s1 ⟨vs, H1, I1, r, q⟩ => ⟨I1.kIn, ?_⟩) he hpl
  exact run_fn F hr hb hd hx I1 r q
end
section
variable {X : Cx} {CX : CXT} {k : Nat} {f C : Addr} {fd : FuncData} {ps ks : List Str} {sp : Sp} {E : XK} {x m : Str} {p pos apos kpos : Pos} {e o : Expr} {es : List Expr} {kws : List Keyword} {te ta : TE} {t tk : TA} {nm : Option Str}
variable {g : List Value → List Value → List Value} {gV : List V → List V → List V}
end
structure FnScope (N P : List Str) (sc : Scope) : Prop where
  kind : sc.kind = .function
  co : sc.isCoroutine = false
  gen : sc.isGenerator = false
  nd : N.Nodup
  pre : N.take P.length = P
  par : ∀ x ∈ P, sc.names.lookup x = some .local ∨ sc.names.lookup x = some .cell
  nofree : ∀ y ∈ sc.names, y.2 ≠ .free
theorem bindL_out {kindOf : Str → Option NameKind} {x : Str} : ∀ {binds : List (Str × Value)} {m : Str → Option Value}, (∀ v, (x, v) ∉ binds) → bindL kindOf binds m x = m x
  | [], _, _ => rfl
  | (n, v) :: r, m, h => by
    unfold bindL
    rw [bindL_out fun w hw => h w (List.mem_cons_of_mem _ hw)]
    split
    · have : x ≠ n := by rintro rfl; exact h v List.mem_cons_self
      simp [this]
    · rfl
theorem bindC_out {kindOf : Str → Option NameKind} {x : Str} : ∀ {binds : List (Str × Value)} {m : Str → Option Value}, (∀ v, (x, v) ∉ binds) → bindC kindOf binds m x = m x
  | [], _, _ => rfl
  | (n, v) :: r, m, h => by
    unfold bindC
    rw [bindC_out fun w hw => h w (List.mem_cons_of_mem _ hw)]
    split
    · rfl
    · have : x ≠ n := by rintro rfl; exact h v List.mem_cons_self
      simp [this]
theorem bindL_get {kindOf : Str → Option NameKind} {x : Str} {v : Value} : ∀ {P : List Str} {vs : List Value} {i : Nat} {m : Str → Option Value}, P.Nodup → P[i]? = some x → vs[i]? = some v → kindOf x = some .local →
    bindL kindOf (P.zip vs) m x = some v
  | [], _, _, _, _, h, _, _ => by simp at h
  | _ :: _, [], _, _, _, _, h, _ => by simp at h
  | p :: P, w :: vs, 0, m, nd, h1, h2, hk => by
    simp at h1 h2; subst h1; subst h2
    show bindL kindOf ((p, w) :: P.zip vs) m p = _
    unfold bindL
    rw [bindL_out fun v hv => (List.nodup_cons.mp nd).1 (List.of_mem_zip hv).1, if_pos hk]
    simp
  | p :: P, w :: vs, i + 1, m, nd, h1, h2, hk => by
    show bindL kindOf ((p, w) :: P.zip vs) m x = _
    unfold bindL
    exact bindL_get (i := i) (List.nodup_cons.mp nd).2 (by simpa using h1) (by simpa using h2) hk
theorem bindC_get {kindOf : Str → Option NameKind} {x : Str} {v : Value} : ∀ {P : List Str} {vs : List Value} {i : Nat} {m : Str → Option Value}, P.Nodup → P[i]? = some x → vs[i]? = some v → kindOf x ≠ some .local →
    bindC kindOf (P.zip vs) m x = some v
  | [], _, _, _, _, h, _, _ => by simp at h
  | _ :: _, [], _, _, _, _, h, _ => by simp at h
  | p :: P, w :: vs, 0, m, nd, h1, h2, hk => by
    simp at h1 h2; subst h1; subst h2
    show bindC kindOf ((p, w) :: P.zip vs) m p = _
    unfold bindC
    rw [bindC_out fun v hv => (List.nodup_cons.mp nd).1 (List.of_mem_zip hv).1, if_neg hk]
    simp
  | p :: P, w :: vs, i + 1, m, nd, h1, h2, hk => by
    show bindC kindOf ((p, w) :: P.zip vs) m x = _
    unfold bindC
    exact bindC_get (i := i) (List.nodup_cons.mp nd).2 (by simpa using h1) (by simpa using h2) hk
def start (N : List Str) (vs : List V) : St := vs.map some ++ List.replicate (N.length - vs.length) none
def cxOf (CX : CXT) (P : Program) (w : World) (K : PySem.W.Frag) (mg : Str → Option Value) (base : Heap) (N : List Str) (qual : Str) (scope : Scope) (f : Addr) (cd : Value) (A : Around) (outer : List Env) (s : Shared) (H : Hp) (E : XK) : Cx where
  prog := P
  w := w
  K := K
  mg := mg
  base := base
  A := A.deeper (envOfC qual scope s.heap.objs.size f cd)
  N := N
  s₀ := s
  H₀ := H
  env := envOfC qual scope s.heap.objs.size f cd
  outer := outer
  stack := envOfC qual scope s.heap.objs.size f cd :: outer
  ex := []
  calm := true
  fn := fun _ => true
  pn := []
  xe := fun e s' => wpAny (model P w) (A.deeper (envOfC qual scope s.heap.objs.size f cd)) (leaving (envOfC qual scope s.heap.objs.size f cd) e) (fun _ s'' => CX outer H s E e s'') (fun e' s'' => CX outer H s E e' s'') s'
theorem cell_has {sc : Scope} {n : Nat} {x : Str} (h : sc.names.lookup x = some .cell) : ∃ c, (cellsFrom n sc.names []).lookup x = some c := by
  have q := PySem.W.cellsFrom_some sc.names n [] (.inl h)
  exact Option.isSome_iff_exists.mp q
theorem inv_start {CX : CXT} {P : Program} {w : World} {K : PySem.W.Frag} {mg : Str → Option Value} {base : Heap} {N ps : List Str} {qual : Str} {scope : Scope} {f : Addr} {cd : Value} {A : Around} {outer : List Env} {s s1 : Shared} {H : Hp} {E : XK} {us : List Value} {vs : List V}
    (S : FnScope N ps scope) (hd : A.handled = none) (e0 : Env0 P w K mg base A outer s H) (hl : vs.length = ps.length) (r : Vals vs us)
    (x : InCallC s s.heap.objs.size (bindL (envOfC qual scope s.heap.objs.size f cd).kindOf (ps.zip us) fun _ => none) (cellsFrom (s.heap.objs.size + 1) scope.names []) (bindC (envOfC qual scope s.heap.objs.size f cd).kindOf (ps.zip us) fun _ => none) s1) :
    Inv (cxOf CX P w K mg base N qual scope f cd A outer s H E) [] (start N vs) H s1 := by
  have hpl : ps.length ≤ N.length := by have := congrArg List.length S.pre; rw [List.length_take] at this; omega
  obtain ⟨h1, tk, rfl, hk⟩ := x.done
  have noA : ∀ b : Addr, b ∉ (cxOf CX P w K mg base N qual scope f cd A outer s H E).ex := fun b z => absurd (show b ∈ ([] : List Addr) from z) (by simp)
  refine ⟨⟨e0.mod, S.kind, rfl, rfl, Nat.le_refl _, fun y z c h1 h2 => ?_, fun y hy => ?_, fun y c _ h => ?_, fun _ => hd, Around.frames_deeper e0.frames, .inr ⟨rfl, rfl⟩, fun b z => absurd z (noA b), e0.bs, e0.bsz, fun b _ _ => noA b, fun b z => absurd z (noA b), e0.funs, e0.frf⟩,
    rfl, e0.bare, Un.kept hk, ⟨_, x.toInCall.ns, fun i y v h1 h2 h3 => ?_⟩, fun y c h => ⟨_, x.cell y c h⟩, e0.hok.fresh (Nat.le_refl _), fun y c h => ?_, fun p hp => absurd (show p ∈ ([] : List (Addr × Obj)) from hp) (by simp), e0.hok.kept hk, ?_⟩
  · exact name_of_addr x.apart (PySem.mem_of_lookup h1) (PySem.mem_of_lookup h2)
  · have hy : scope.names.lookup y = some .cell ∨ scope.names.lookup y = some .free := hy
    rcases hy with hy | hy
    · exact cell_has hy
    · exact absurd rfl (S.nofree _ (PySem.mem_of_lookup hy))
  · exact Nat.le_of_lt (x.above y c (PySem.mem_of_lookup h))
  · have hi : i < vs.length := by
      unfold start at h2
      by_cases hi : i < vs.length
      · exact hi
      · rw [List.getElem?_append_right (by simpa using hi)] at h2
        rw [List.getElem?_replicate] at h2
        split at h2 <;> cases h2
    have ha : vs[i]? = some v := by
      unfold start at h2
      rw [List.getElem?_append_left (by simpa using hi), List.getElem?_map] at h2
      cases e : vs[i]? with
      | none => rw [e] at h2; cases h2
      | some a => rw [e] at h2; cases h2; rfl
    obtain ⟨u, hu, rv⟩ := r.get ha
    have hp : ps[i]? = some y := by
      rw [← S.pre, List.getElem?_take_of_lt (by omega)]; exact h1
    have ndP : ps.Nodup := by rw [← S.pre]; exact S.nd.sublist (List.take_sublist _ _)
    refine ⟨u, rv, ?_⟩
    rcases S.par y (List.mem_of_getElem? hp) with k | k
    · exact .inl ⟨k, bindL_get ndP hp hu k⟩
    · obtain ⟨c, e⟩ := cell_has (n := s.heap.objs.size + 1) k
      refine .inr ⟨.inl k, c, e, ?_⟩
      have q := x.cell y c e
      rw [bindC_get ndP hp hu (by show scope.names.lookup y ≠ _; rw [k]; decide)] at q
      exact q
  · exact e0.hok.fresh (Nat.le_of_lt (x.above y c (PySem.mem_of_lookup h)))
  · unfold start
    show _ = N.length
    rw [List.length_append, List.length_map, List.length_replicate]
    omega
theorem fn_of {CX : CXT} {P : Program} {w : World} {K : PySem.W.Frag} {mg : Str → Option Value} {base : Heap} {k : Nat} {f : Addr} {name qual : Str} {params : Arguments} {body : List Stmt} {scope : Scope} {dV kV doc pm cdv ct oc : Value} {an od : Option Addr}
    {osl : Array (Option Value)} {N ps : List Str} {sp : Sp} (lk : K.lookup f = some ⟨oc, od, .func (PySem.W.fnOf name qual params body scope dV kV doc pm an cdv ct), osl⟩) (hcd : PySem.W.codeIn K cdv qual = true) (S : FnScope N ps scope)
    (len : ∀ vs H Q E, sp vs H Q E → vs.length = ps.length)
    (hbody : ∀ (A : Around) (outer : List Env) (s : Shared) (H : Hp) (vs : List V) (Q : VK) (E : XK), Room k (A.deeper (envOfC qual scope s.heap.objs.size f cdv)) → sp vs H Q E →
      ∃ t, PSs (cxOf CX P w K mg base N qual scope f cdv A outer s H E) body t ∧ t { nx := fun _ H' => Q .non H', rt := Q } (start N vs) H) :
    FnOk P w K mg base CX (k + 1) f (PySem.W.fnOf name qual params body scope dV kV doc pm an cdv ct) ps sp := by
  refine ⟨len, fun A outer s H args us vs Q E hr e0 hb r hsp => ?_⟩
  have hl := len _ _ _ _ hsp
  have KX : K.In s.heap := e0.mod.kin.keeps fun b o e => (e0.bs b o e).1
  have lim : s.heap.NoLimit := e0.mod.nolimit.keeps fun b o e => (e0.bs b o e).1
  have hkind : ∀ y ∈ ps.zip us, scope.names.lookup y.1 = some .local ∨ (scope.names.lookup y.1 = some .cell ∧ ((cellsFrom (s.heap.objs.size + 1) scope.names []).lookup y.1).isSome = true) := fun ⟨n, v⟩ hy => by
    rcases S.par n (List.of_mem_zip hy).1 with q | q
    · exact .inl q
    · exact .inr ⟨q, PySem.W.cellsFrom_some _ _ _ (.inl q)⟩
  refine codeAny_call_function hr.depth (KX _ _ lk) rfl S.co S.gen rfl (PySem.W.codeRec_of KX hcd) (hb _ _ _ _ ?_)
  refine wpAny_newFunctionEnv_cells S.kind hkind fun env he s1 x => ?_
  subst he
  refine ⟨lim.keeps x.toInCall.keep, codeAny_func ?_⟩
  obtain ⟨t, ht, hq⟩ := hbody A outer s H vs Q E (hr.deeper _) hsp
  have I : Inv (cxOf CX P w K mg base N qual scope f cdv A outer s H E) [] (start N vs) H s1 := inv_start S hr.hd e0 hl r x
  refine wpAny_mono (ht [] s1 (start N vs) H _ I hq) (fun fl s' hs => ?_) fun e s' hs => hs
  have fin : ∀ {σ' : St} {H' : Hp} {v : V} {u : Value}, Inv (cxOf CX P w K mg base N qual scope f cdv A outer s H E) [] σ' H' s' → RelV v u → Q v H' → CE outer P w H s Q u s' :=
    fun {σ' H' v u} J rv q => ⟨v, H', J.os, J.bare, J.base, J.hok, rv, q⟩
  cases fl with
  | ret u =>
    obtain ⟨v, σ', H', J, rv, q⟩ := hs
    exact fin J rv q
  | next =>
    obtain ⟨σ', H', J, q⟩ := hs
    exact fin (v := V.non) (u := Value.none) J rfl q
  | brk =>
    obtain ⟨_, _, _, q⟩ := hs
    exact False.elim q
  | cont =>
    obtain ⟨_, _, _, q⟩ := hs
    exact False.elim q
end L2
namespace L2
open PySem PySem.Spec PyProof.Rows
section
variable {X : Cx} {x : Str} {p pos : Pos} {e : Expr} {es : List Expr} {t : TA} {id T : String} {r : List V → Hp → VK → Prop}
def tCB (r : List V → Hp → VK → Prop) (t : TA) : TE := fun σ H Q => t σ H fun vs H1 => r vs H1 Q
theorem pe_callB (hc : CallR X (.builtin id) r) (hg : Gl X x) (hm : X.mg x = none) (hv : bootBuiltins x = some (.builtin id)) (ha : PA X (e :: es) t) (hn : x ≠ "__name__" := by decide) (hdb : (x == ("__debug__" : Str)) = false := by decide)
    (he : starEach (e :: es) X.env = (false, eval e X.env) :: starEach es X.env := by rfl) (hpl : (backTo pos (starEach es X.env)).any (·.1) = false := by rfl) : PE X (.Call (.Name x p) (e :: es) [] pos) (tCB r t) := by
  intro pins s σ H Q I h
  refine wpAny_Call_Name_kw (ld_blt I hg hm hv ?_ hn hdb)
  exact PyProof.Rows.callWith_builtin1 (thn (ha pos pins s σ H _ I h) fun us s1 ⟨vs, H1, I1, r1, q1⟩ => hc pins s1 σ H1 vs us Q I1 r1 q1) he hpl
theorem pe_callTy (hc : CallR X (.type T) r) (hg : Gl X x) (hm : X.mg x = none) (hv : bootBuiltins x = some (.type T)) (ha : PA X (e :: es) t) (hn : x ≠ "__name__" := by decide) (hdb : (x == ("__debug__" : Str)) = false := by decide)
    (he : starEach (e :: es) X.env = (false, eval e X.env) :: starEach es X.env := by rfl) (hpl : (backTo pos (starEach es X.env)).any (·.1) = false := by rfl) : PE X (.Call (.Name x p) (e :: es) [] pos) (tCB r t) := by
  intro pins s σ H Q I h
  refine wpAny_Call_Name_kw (ld_blt I hg hm hv ?_ hn hdb)
  exact PyProof.Rows.callWith_type1 (thn (ha pos pins s σ H _ I h) fun us s1 ⟨vs, H1, I1, r1, q1⟩ => hc pins s1 σ H1 vs us Q I1 r1 q1) he hpl
end
end L2
namespace HT
open PySem PyProof.Rows
section
open PySem.SeqAt
open PySem.AutoSeq1 (wpAny_loadPart')
open PySem.MeetsSeq PySem.MeetsSeq2 PySem.MeetsSeq3
end
section
variable {prog : Program} {w : World} {A : Around} {E : Value → Shared → Prop} {s : Shared}
def sIx (n d : Nat) : Option Int → Nat
  | none => d
  | some v => if v < 0 then (v + (n : Int)).toNat else min v.toNat n
theorem sIx_none (n d : Nat) : sIx n d none = d := rfl
theorem sIx_nat (n d k : Nat) : sIx n d (some (k : Int)) = min k n := by
  show (if (k : Int) < 0 then ((k : Int) + (n : Int)).toNat else min (k : Int).toNat n) = min k n
  rw [if_neg (by omega), Int.toNat_natCast]
end
end HT
namespace L2
open PySem PySem.Spec PyProof.Rows
abbrev TO := St → Hp → (Option Int → Hp → Prop) → Prop
def PO (X : Cx) (e : Option Expr) (t : TO) : Prop :=
  ∀ (pins : List (Addr × Obj)) (s : Shared) (σ : St) (H : Hp) (Q : Option Int → Hp → Prop), Inv X pins σ H s → t σ H Q →
    wpAny (model X.prog X.w) X.A (evalPart e X.env) (fun u s' => ∃ o H', Inv X pins σ H' s' ∧ IsPart u o ∧ Q o H') X.xe s
def tNoPart : TO := fun _ H Q => Q none H
def tPart (t : TE) : TO := fun σ H Q => t σ H fun x H1 => ∃ i, x = .int i ∧ Q (some i) H1
theorem intsAre_of {ns : List Int} : ∀ {us : List Value}, Vals (ns.map V.int) us → IntsAre us ns := by
  induction ns with
  | nil => intro us r; rw [List.map_nil] at r; cases r; exact .nil
  | cons n ns ih =>
    intro us r
    rw [List.map_cons] at r
    cases r with
    | cons r1 r2 =>
      obtain ⟨t, e⟩ := r1
      subst e
      exact .cons n t (ih r2)
section
variable {X : Cx} {e : Expr} {te : TE} {lo hi : Option Expr} {tl th : TO} {pos p2 : Pos}
theorem po_none : PO X none tNoPart := by
  intro pins s σ H Q I h
  rw [evalPart_none]
  exact wpAny_pure ⟨none, H, I, .none, h⟩
theorem po_some (h : PE X e te) : PO X (some e) (tPart te) := by
  intro pins s σ H Q I hw
  rw [evalPart_some]
  refine thn (h pins s σ H _ I hw) fun u s1 ⟨x, H1, I1, r1, q1⟩ => ?_
  obtain ⟨i, rfl, q⟩ := q1
  obtain ⟨t, rfl⟩ := r1
  exact ⟨some i, H1, I1, .int i t, q⟩
def SlR (X : Cx) (r : V → Option Int → Option Int → Hp → VK → Prop) : Prop :=
  ∀ (pins : List (Addr × Obj)) (s : Shared) (σ : St) (H : Hp) (x : V) (v vl vu : Value) (lo hi : Option Int) (sl : Addr) (Q : VK), Inv X pins σ H s → RelV x v → s.heap.IsSliceOf sl vl vu .none → IsPart vl lo → IsPart vu hi → r x lo hi H Q →
    ∃ T id, typeLookup (.type T) "__getitem__" = pure (some (.builtin id)) ∧ s.TypeIs v T ∧ wpAny (model X.prog X.w) X.A (getItem v (.ref sl)) (EP X pins σ Q) X.xe s
def tSl (r : V → Option Int → Option Int → Hp → VK → Prop) (te : TE) (tl th : TO) : TE := fun σ H Q => te σ H fun x H1 => tl σ H1 fun l H2 => th σ H2 fun u H3 => r x l u H3 Q
theorem pe_slice {r : V → Option Int → Option Int → Hp → VK → Prop} (hr : SlR X r) (he : PE X e te) (hl : PO X lo tl) (hu : PO X hi th) : PE X (.Subscript e (.Slice lo hi none p2) pos) (tSl r te tl th) := by
  intro pins s σ H Q I h
  refine Subscript_ (thn (he pins s σ H _ I h) fun v s1 ⟨x, H1, I1, r1, q1⟩ => ?_)
  refine wpAny_Slice (thn (hl pins s1 σ H1 _ I1 q1) fun vl s2 ⟨l, H2, I2, pl, q2⟩ => thn (hu pins s2 σ H2 _ I2 q2) fun vu s3 ⟨u, H3, I3, pu, q3⟩ => ?_)
  rw [evalPart_none]
  refine wpAny_pure ?_
  have I4 : Inv X pins σ H3 { s3 with heap := s3.heap.push { cls := .type "slice", data := .fields #[vl, vu, .none] } } := I3.kept (t' := s3.toks) fun b ob q => Heap.get?_push_of_some _ q
  obtain ⟨T, id, hT, ht, hg⟩ := hr pins { s3 with heap := s3.heap.push { cls := .type "slice", data := .fields #[vl, vu, .none] } } σ H3 x v vl vu l u s3.heap.objs.size Q I4 r1 (Heap.IsSliceOf.new ..) pl pu q3
  show wpAny (model X.prog X.w) X.A (subscriptTail e (.Slice lo hi none p2) v (.ref s3.heap.objs.size)) (EP X pins σ Q) X.xe { s3 with heap := s3.heap.push { cls := .type "slice", data := .fields #[vl, vu, .none] } }
  exact tail_any (ops := [.ref s3.heap.objs.size, v]) ht hT hg (by with_unfolding_all rfl)
def cutV (xs : List V) (lo hi : Option Int) : List V := (xs.drop (HT.sIx xs.length 0 lo)).take (HT.sIx xs.length xs.length hi - HT.sIx xs.length 0 lo)
theorem cutV_length (xs : List V) (lo hi : Option Int) : (cutV xs lo hi).length ≤ xs.length := by
  unfold cutV
  rw [List.length_take, List.length_drop]
  omega
end
end L2
namespace L2
open PySem PySem.Spec PyProof.Rows
def ixN (n : Nat) (i : Int) : Option Nat := if 0 ≤ i then (if i < n then some i.toNat else none) else if -(n : Int) ≤ i then some (i + n).toNat else none
def atI {α : Type} (xs : List α) (i : Int) : Option α := (ixN xs.length i).bind fun j => xs[j]?
theorem ixN_seq {n : Nat} {i : Int} {j : Nat} (h : ixN n i = some j) : seqIndex? i n = some j ∧ j < n ∧ -(n : Int) ≤ i ∧ i < n := by
  unfold ixN at h
  by_cases h0 : 0 ≤ i
  · rw [if_pos h0] at h
    by_cases h1 : i < n
    · rw [if_pos h1] at h
      have e : i.toNat = j := Option.some.inj h
      exact ⟨by rw [seqIndex_of h0 h1, e], by omega, by omega, h1⟩
    · rw [if_neg h1] at h; cases h
  · rw [if_neg h0] at h
    by_cases h1 : -(n : Int) ≤ i
    · rw [if_pos h1] at h
      have e : (i + n).toNat = j := Option.some.inj h
      exact ⟨by rw [seqIndex_neg (by omega) h1, e], by omega, h1, by omega⟩
    · rw [if_neg h1] at h; cases h
theorem atI_get {α : Type} {xs : List α} {i : Int} {v : α} (h : atI xs i = some v) : ∃ j, seqIndex? i xs.length = some j ∧ xs[j]? = some v ∧ j < xs.length ∧ -(xs.length : Int) ≤ i ∧ i < xs.length := by
  unfold atI at h
  cases e : ixN xs.length i with
  | none => rw [e] at h; cases h
  | some j =>
    rw [e] at h
    obtain ⟨h1, h2, h3, h4⟩ := ixN_seq e
    exact ⟨j, h1, h, h2, h3, h4⟩
theorem atI_nat {α : Type} {xs : List α} {j : Nat} {v : α} (h : xs[j]? = some v) : atI xs (j : Int) = some v := by
  have hj : j < xs.length := (List.getElem?_eq_some_iff.mp h).1
  have e : ixN xs.length (j : Int) = some j := by
    unfold ixN
    rw [if_pos (by omega), if_pos (by omega)]; simp
  unfold atI; rw [e]; exact h
def PlainIx (b : Expr) : Prop := ∀ o i, subscripted b false o i = operate [o, i] (getItem o i)
def IxR (X : Cx) (r : R2) : Prop :=
  ∀ (value slice : Expr) (pins : List (Addr × Obj)) (s : Shared) (σ : St) (H : Hp) (x y : V) (v u : Value) (Q : VK), Inv X pins σ H s → RelV x v → RelV y u → r x y H Q →
    subscripted slice false v u = operate [v, u] (getItem v u) → wpAny (model X.prog X.w) X.A (subscriptTail value slice v u) (EP X pins σ Q) X.xe s
def MtR (X : Cx) (id : String) (r : V → List V → Hp → VK → Prop) : Prop :=
  ∀ (pins : List (Addr × Obj)) (s : Shared) (σ : St) (H : Hp) (x : V) (xs : List V) (v : Value) (us : List Value) (Q : VK), Inv X pins σ H s → RelV x v → Vals xs us → r x xs H Q →
    wpAny (model X.prog X.w) X.A (call (.builtin id) (v :: us)) (EP X pins σ Q) X.xe s
section
variable {X : Cx} {a b : Expr} {ta tb : TE} {pos : Pos}
theorem pe_ix {r : R2} (hr : IxR X r) (ha : PE X a ta) (hb : PE X b tb) (hs : PlainIx b) : PE X (.Subscript a b pos) (tOp r ta tb) := by
  intro pins s σ H Q I h
  exact Subscript_ (binT ha hb I h fun v u s2 x y H2 I2 rx ry q => hr a b pins s2 σ H2 x y v u Q I2 rx ry q (hs _ _))
def rIxL (K : PySem.W.Frag) : R2 := fun x y H Q => ∃ p xs i v, x = .ref p ∧ y = .int i ∧ SqL K H p xs ∧ atI xs i = some v ∧ Q v H
def rIxT (K : PySem.W.Frag) : R2 := fun x y H Q => ∃ p xs i v, x = .ref p ∧ y = .int i ∧ SqT K H p xs ∧ atI xs i = some v ∧ Q v H
theorem ix_list : IxR X (rIxL X.K) := by
  intro value slice pins s σ H x y v u Q I rx ry h hs
  obtain ⟨p, xs, i, z, rfl, rfl, hq, he, q⟩ := h
  cases rx
  obtain ⟨t, rfl⟩ := ry
  obtain ⟨its, r, pl, hz⟩ := I.list hq
  obtain ⟨j, h1, h2, h3, h4, h5⟩ := atI_get he
  obtain ⟨w, ew, rw'⟩ := r.get h2
  have hl := r.length
  have hn := line63
  have fin : EP X pins σ Q w s := ⟨z, H, I, rw', q⟩
  by_cases h0 : 0 ≤ i
  · have hj : i.toNat = j := by
      rw [seqIndex_of h0 h5] at h1
      exact Option.some.inj h1
    exact item_listR pl.isList h0 (by omega) (by rw [hj]; simpa using ew) fin hs
  · have hj : (i + (its.toArray.size : Int)).toNat = j := by
      rw [seqIndex_neg (by omega) h4] at h1
      rw [List.size_toArray, ← hl]
      exact Option.some.inj h1
    exact subscriptTail_builtinR (x := w) pl.isList.typeIs slot_list_getitem.lookup
      (wpAny_getItem_list_neg (Q := fun r s' => r = w ∧ EP X pins σ Q r s') pl.isList (by omega) (by rw [List.size_toArray] <;> omega) (by omega) (by rw [hj]; simpa using ew) ⟨rfl, fin⟩) hs
theorem ix_tup : IxR X (rIxT X.K) := by
  intro value slice pins s σ H x y v u Q I rx ry h hs
  obtain ⟨p, xs, i, z, rfl, rfl, hq, he, q⟩ := h
  cases rx
  obtain ⟨t, rfl⟩ := ry
  obtain ⟨its, r, pl, hz⟩ := I.tuple hq
  obtain ⟨j, h1, h2, h3, h4, h5⟩ := atI_get he
  obtain ⟨w, ew, rw'⟩ := r.get h2
  have hl := r.length
  have hn := line63
  have fin : EP X pins σ Q w s := ⟨z, H, I, rw', q⟩
  exact subscriptTail_builtinR (x := w) pl.typeIs slot_tuple_getitem.lookup
    (getItem_tuple (j := j) (Q := fun r s' => r = w ∧ EP X pins σ Q r s') pl (by omega) (by omega) (by rw [List.size_toArray, ← hl]; exact h1) (by simpa using ew) ⟨rfl, fin⟩) hs
theorem mapSeq_set (its : List Value) (n j : Nat) (u : Value) : Obj.mapSeq (·.setIfInBounds j u) { cls := .type "list", data := .seq its.toArray n } = { cls := .type "list", data := .seq (its.set j u).toArray n } := by
  simp [Obj.mapSeq]
theorem Inv.lst {pins : List (Addr × Obj)} {σ : St} {H : Hp} {s : Shared} {p : Addr} {xs : List V} (I : Inv X pins σ H s) (h : H p = some (.lst xs)) :
    ∃ (its : List Value) (n : Nat), Vals xs its ∧ s.heap.get? p = some { cls := .type "list", data := .seq its.toArray n } ∧ xs.length ≤ sizeLine := by
  obtain ⟨z, its, n, r, e⟩ := I.hok p _ h
  exact ⟨its, n, r, e, z⟩
theorem Inv.lstUpd {pins : List (Addr × Obj)} {σ : St} {H : Hp} {s : Shared} {p : Addr} {xs ys : List V} {its its' : List Value} {n n' : Nat} {f : Obj → Obj} (I : Inv X pins σ H s) (h : H p = some (.lst xs))
    (ho : s.heap.get? p = some { cls := .type "list", data := .seq its.toArray n }) (hf : f { cls := .type "list", data := .seq its.toArray n } = { cls := .type "list", data := .seq its'.toArray n' }) (r : Vals ys its') (hz : ys.length ≤ sizeLine) (t : Nat) :
    Inv X pins σ (upd H p (.lst ys)) { s with heap := s.heap.update p f, toks := t } := by
  have e : (s.heap.update p f).get? p = some { cls := .type "list", data := .seq its'.toArray n' } := by
    rw [Heap.get?_update_self f ho (by rw [hf] <;> rfl), hf]
  refine I.write (x := p) (e := p) (by rw [h]; trivial) (.inl rfl) (fun b u hb q => (Heap.get?_update_other _ _ (Ne.symm hb)).trans q) ⟨_, e⟩ ?_
  exact ⟨hz, its', n', r, e⟩
def rSetL : V → V → V → Hp → (Hp → Prop) → Prop := fun o i v H Q => ∃ p xs k j, o = .ref p ∧ i = .int k ∧ H p = some (.lst xs) ∧ ixN xs.length k = some j ∧ Q (upd H p (.lst (xs.set j v)))
theorem set_list : PSet X rSetL := by
  intro pins s σ H o i v ov iv u Q I ro ri rv h
  obtain ⟨p, xs, k, j, rfl, rfl, hp, hj, q⟩ := h
  cases ro
  obtain ⟨t, rfl⟩ := ri
  obtain ⟨its, n, r, ho, hz⟩ := I.lst hp
  obtain ⟨h1, h2, h3, h4⟩ := ixN_seq hj
  have hl := r.length
  have hn := line63
  have I' : Inv X pins σ (upd H p (.lst (xs.set j v))) { s with heap := s.heap.update p (Obj.mapSeq (·.setIfInBounds j u)) } :=
    I.lstUpd hp ho (mapSeq_set its n j u) (r.set rv j) (by rw [List.length_set]; exact hz) s.toks
  by_cases h0 : 0 ≤ k
  · have hk : k.toNat = j := by
      rw [seqIndex_of h0 h4] at h1
      exact Option.some.inj h1
    exact PySem.W.ki_setAt ho h0 (by omega) (by rw [List.size_toArray, ← hl]; exact h4) (by rw [hk]; exact ⟨_, I', q⟩)
  · have hk : (k + (its.toArray.size : Int)).toNat = j := by
      rw [seqIndex_neg (by omega) h3] at h1
      rw [List.size_toArray, ← hl]
      exact Option.some.inj h1
    exact PySem.W.ki_setBack ho (by omega) (by rw [List.size_toArray, ← hl]; exact h3) (by omega) (by rw [hk]; exact ⟨_, I', q⟩)
theorem slice_bounds (lo hi : Option Int) (n : Nat) : (sliceBounds lo hi none n).1 = ((HT.sIx n 0 lo : Nat) : Int) ∧ (sliceBounds lo hi none n).2.1 = ((HT.sIx n n hi : Nat) : Int) ∧ (sliceBounds lo hi none n).2.2 = 1 := by
  refine ⟨?_, ?_, rfl⟩
  · cases lo with
    | none => simp [sliceBounds, HT.sIx]
    | some i =>
      simp only [sliceBounds, HT.sIx, Option.getD_none, show (1 : Int) > 0 by decide, if_true]
      by_cases h : i < 0
      · simp only [h, if_true] <;> omega
      · simp only [h, if_false] <;> omega
  · cases hi with
    | none => simp [sliceBounds, HT.sIx]
    | some i =>
      simp only [sliceBounds, HT.sIx, Option.getD_none, show (1 : Int) > 0 by decide, if_true]
      by_cases h : i < 0
      · simp only [h, if_true] <;> omega
      · simp only [h, if_false] <;> omega
theorem slicePick_cut (its : List Value) (lo hi : Option Int) : slicePick its.toArray lo hi none = ((its.drop (HT.sIx its.length 0 lo)).take (HT.sIx its.length its.length hi - HT.sIx its.length 0 lo)).toArray := by
  obtain ⟨h1, h2, h3⟩ := slice_bounds lo hi its.toArray.size
  unfold slicePick
  rw [h1, h2, h3]
  simp only [sliceRange_one, pick_run, List.size_toArray] <;> rfl
def rSlL (K : PySem.W.Frag) : V → Option Int → Option Int → Hp → VK → Prop := fun x lo hi H Q => ∃ a xs, x = .ref a ∧ SqL K H a xs ∧ ∀ p, H p = none → Q (.ref p) (upd H p (.lst (cutV xs lo hi)))
theorem sl_list : SlR X (rSlL X.K) := by
  intro pins s σ H x v vl vu lo hi sl Q I rx hs pl pu h
  obtain ⟨a, xs, rfl, hx, q⟩ := h
  cases rx
  obtain ⟨its, r, ht, hz⟩ := I.list hx
  have hlen := r.length
  refine ⟨"list", _, slot_list_getitem.lookup, ht.isList.typeIs, ?_⟩
  refine wpAny_getItem_list_slice ht.isList hs pl pu .none (by simp) ?_ (by rw [List.size_toArray] <;> omega)
  rw [slicePick_cut, ← hlen]
  refine ⟨.ref s.heap.objs.size, _, I.laid (t' := s.toks) (o := .lst (cutV xs lo hi)) (fun b ob q => Heap.get?_push_of_some _ q) (Nat.le_refl _) ?_, rfl, q _ (I.hok.fresh (Nat.le_refl _))⟩
  exact ⟨Nat.le_trans (cutV_length xs lo hi) hz, _, 0, (r.drop (HT.sIx xs.length 0 lo)).take (HT.sIx xs.length xs.length hi - HT.sIx xs.length 0 lo), Heap.get?_push_size _ rfl⟩
def flatV : V → Bool
  | .non => true
  | .bl _ => true
  | .int _ => true
  | .str _ => true
  | _ => false
def eqV : V → V → Bool
  | .non, .non => true
  | .bl a, .bl b => a == b
  | .bl a, .int b => (if a then 1 else 0) == b
  | .int a, .bl b => a == (if b then 1 else 0)
  | .int a, .int b => a == b
  | .str a, .str b => a == b
  | _, _ => false
theorem eqAt_V {A : Around} {s : Shared} {y x : V} {u v : Value} (ry : RelV y u) (rx : RelV x v) (fy : flatV y = true) (fx : flatV x = true) : SeqAt.EqAt A s u v (eqV y x) := by
  cases y with
  | non =>
    cases ry
    cases x with
    | non => cases rx; exact SeqAt.EqAt.same _
    | bl b => cases rx; exact SeqAt.EqAt.none_bool b
    | int b => obtain ⟨t, rfl⟩ := rx; exact SeqAt.EqAt.none_int b t
    | str b => obtain ⟨t, rfl⟩ := rx; exact SeqAt.EqAt.none_str b t
    | _ => exact absurd (show false = true from fx) Bool.false_ne_true
  | bl a =>
    cases ry
    cases x with
    | non => cases rx; exact SeqAt.EqAt.bool_none a
    | bl b => cases rx; exact SeqAt.EqAt.bool_bool a b
    | int b => obtain ⟨t, rfl⟩ := rx; exact SeqAt.EqAt.bool_int a b t
    | str b => obtain ⟨t, rfl⟩ := rx; exact SeqAt.EqAt.bool_str a b t
    | _ => exact absurd (show false = true from fx) Bool.false_ne_true
  | int a =>
    obtain ⟨t', rfl⟩ := ry
    cases x with
    | non => cases rx; exact SeqAt.EqAt.int_none a t'
    | bl b => cases rx; exact SeqAt.EqAt.int_bool a t' b
    | int b => obtain ⟨t, rfl⟩ := rx; exact SeqAt.EqAt.int_int a t' b t
    | str b => obtain ⟨t, rfl⟩ := rx; exact SeqAt.EqAt.int_str a t' b t
    | _ => exact absurd (show false = true from fx) Bool.false_ne_true
  | str a =>
    obtain ⟨t', rfl⟩ := ry
    cases x with
    | non => cases rx; exact SeqAt.EqAt.str_none a t'
    | bl b => cases rx; exact SeqAt.EqAt.str_bool a t' b
    | int b => obtain ⟨t, rfl⟩ := rx; exact SeqAt.EqAt.str_int a t' b t
    | str b => obtain ⟨t, rfl⟩ := rx; exact SeqAt.EqAt.str_str a t' b t
    | _ => exact absurd (show false = true from fx) Bool.false_ne_true
  | _ => exact absurd (show false = true from fy) Bool.false_ne_true
def eqU (x : V) (u : Value) : Bool := match u with
  | .none => eqV .non x
  | .bool b => eqV (.bl b) x
  | .int i _ => eqV (.int i) x
  | .str z _ => eqV (.str z) x
  | _ => false
theorem eqU_of {x y : V} {u : Value} (r : RelV y u) (f : flatV y = true) : eqU x u = eqV y x := by
  cases y with
  | non => cases r; rfl
  | bl b => cases r; rfl
  | int i => obtain ⟨t, rfl⟩ := r; rfl
  | str z => obtain ⟨t, rfl⟩ := r; rfl
  | _ => exact absurd (show false = true from f) Bool.false_ne_true
theorem any_eqU {x : V} : ∀ {xs : List V} {us : List Value}, Vals xs us → xs.all flatV = true → us.any (eqU x) = xs.any fun y => eqV y x
  | _, _, .nil, _ => rfl
  | y :: xs, u :: us, .cons r t, f => by
    rw [List.all_cons, Bool.and_eq_true] at f
    rw [List.any_cons, List.any_cons, eqU_of r f.1, any_eqU t f.2]
theorem mem_eqAt {A : Around} {s : Shared} {x : V} {v : Value} (rx : RelV x v) (fx : flatV x = true) : ∀ {xs : List V} {us : List Value}, Vals xs us → xs.all flatV = true → ∀ u ∈ us, SeqAt.EqAt A s u v (eqU x u)
  | _, _, .nil, _ => fun u hu => by cases hu
  | y :: xs, u :: us, .cons r t, f => fun u' hu => by
    rw [List.all_cons, Bool.and_eq_true] at f
    rcases List.mem_cons.mp hu with rfl | hu
    · rw [eqU_of r f.1]; exact eqAt_V r rx f.1 fx
    · exact mem_eqAt rx fx t f.2 u' hu
def inV (x : V) (xs : List V) : Bool := xs.any fun y => eqV y x
def rIn (K : PySem.W.Frag) (neg : Bool) : R2 := fun x y H Q => ∃ p xs, y = .ref p ∧ (SqL K H p xs ∨ SqT K H p xs) ∧ flatV x = true ∧ xs.all flatV = true ∧ Q (.bl (if neg then !inV x xs else inV x xs)) H
theorem op_in_seq : OpR X (compareOp .In) (rIn X.K false) := by
  intro pins s σ H x y v u Q I rx ry h
  obtain ⟨p, xs, rfl, hq, fx, fs, q⟩ := h
  cases ry
  rcases hq with hq | hq
  · obtain ⟨its, r, pl, hz⟩ := I.list hq
    refine SeqAt.in_listAt (eqU x) pl.isList (fun w hw => mem_eqAt rx fx r fs w (by simpa using hw)) ⟨.bl _, H, I, rfl, ?_⟩
    rw [show its.toArray.any (eqU x) = its.any (eqU x) by simp, any_eqU r fs]
    exact q
  · obtain ⟨its, r, pl, hz⟩ := I.tuple hq
    refine SeqAt.in_tupleAt (eqU x) pl (fun w hw => mem_eqAt rx fx r fs w (by simpa using hw)) ⟨.bl _, H, I, rfl, ?_⟩
    rw [show its.toArray.any (eqU x) = its.any (eqU x) by simp, any_eqU r fs]
    exact q
theorem op_notIn_seq : OpR X (compareOp .NotIn) (rIn X.K true) := by
  intro pins s σ H x y v u Q I rx ry h
  obtain ⟨p, xs, rfl, hq, fx, fs, q⟩ := h
  cases ry
  rcases hq with hq | hq
  · obtain ⟨its, r, pl, hz⟩ := I.list hq
    refine SeqAt.notIn_listAt (eqU x) pl.isList (fun w hw => mem_eqAt rx fx r fs w (by simpa using hw)) ⟨.bl _, H, I, rfl, ?_⟩
    rw [show its.toArray.any (eqU x) = its.any (eqU x) by simp, any_eqU r fs]
    exact q
  · obtain ⟨its, r, pl, hz⟩ := I.tuple hq
    refine SeqAt.notIn_tupleAt (eqU x) pl (fun w hw => mem_eqAt rx fx r fs w (by simpa using hw)) ⟨.bl _, H, I, rfl, ?_⟩
    rw [show its.toArray.any (eqU x) = its.any (eqU x) by simp, any_eqU r fs]
    exact q
theorem call_len_seq : CallR X (.builtin "len") (fun xs H Q => ∃ p ys, xs = [.ref p] ∧ (SqL X.K H p ys ∨ SqT X.K H p ys) ∧ Q (.int ys.length) H) := by
  intro pins s σ H xs us Q I r h
  obtain ⟨p, ys, rfl, hq, q⟩ := h
  obtain ⟨u, rfl, rx⟩ := vals1 r
  cases rx
  have hn := line63
  rcases hq with hq | hq
  · obtain ⟨its, r', pl, hz⟩ := I.list hq
    have hlen := r'.length
    exact Calls.call_len_list pl.isList (by simp only [List.size_toArray] <;> omega) ⟨.int ys.length, H, I.tok _, ⟨s.toks + 1, by rw [List.size_toArray, hlen]⟩, q⟩
  · obtain ⟨its, r', pl, hz⟩ := I.tuple hq
    have hlen := r'.length
    exact len_tuple pl (by simp only [List.size_toArray] <;> omega) ⟨.int ys.length, H, I.tok _, ⟨s.toks + 1, by rw [List.size_toArray, hlen]⟩, q⟩
theorem call_list_of : CallR X (.type "list") (fun xs H Q => ∃ p ys, xs = [.ref p] ∧ (SqL X.K H p ys ∨ SqT X.K H p ys) ∧ ∀ l, H l = none → Q (.ref l) (upd H l (.lst ys))) := by
  intro pins s σ H xs us Q I r h
  obtain ⟨p, ys, rfl, hq, q⟩ := h
  obtain ⟨u, rfl, rx⟩ := vals1 r
  cases rx
  have fin : ∀ (its : List Value), Vals ys its → ys.length ≤ sizeLine → ∀ (h' : Heap) (c' : Nat), (∀ b o', s.heap.get? b = some o' → h'.get? b = some o') →
      h'.get? s.heap.objs.size = some { cls := .type "list", dict := none, data := .seq its.toArray c', slots := #[] } → EP X pins σ Q (.ref s.heap.objs.size) { s with heap := h' } := fun its r' hz h' c' kp e =>
    ⟨.ref s.heap.objs.size, _, I.laid (t' := s.toks) kp (Nat.le_refl _) (show ObjOk X.prog X.w _ h' _ (.lst ys) from ⟨hz, its, c', r', e⟩), rfl, q _ (I.hok.fresh (Nat.le_refl _))⟩
  rcases hq with hq | hq
  · obtain ⟨its, r', pl, hz⟩ := I.list hq
    have hlen := r'.length
    obtain ⟨o, ho, hc, n, hd⟩ := pl.isList
    exact call_list_seq p (.inl rfl) ho hc hd (fun h' c' kp e => fin its r' hz h' c' kp e) (by simp only [List.size_toArray] <;> omega)
  · obtain ⟨its, r', pl, hz⟩ := I.tuple hq
    have hlen := r'.length
    obtain ⟨o, ho, hc, n, hd⟩ := pl
    exact call_list_seq p (.inr rfl) ho hc hd (fun h' c' kp e => fin its r' hz h' c' kp e) (by simp only [List.size_toArray] <;> omega)
def tyV (K : PySem.W.Frag) (T : String) (x : V) (H : Hp) : Prop := match x with
  | .str _ => T = "str"
  | .int _ => T = "int"
  | .ref p => (T = "list" ∧ ∃ xs, SqL K H p xs) ∨ (T = "tuple" ∧ ∃ o, K.lookup p = some o ∧ o.cls = .type "tuple" ∧ o.dict = none) ∨
      (T = "dict" ∧ ((∃ kvs, H p = some (.dK kvs)) ∨ ∃ kvs, H p = some (.dT kvs))) ∨ (T = "set" ∧ ∃ S n, H p = some (.set S n))
  | _ => False
theorem tyV_is {pins : List (Addr × Obj)} {σ : St} {H : Hp} {s : Shared} {T : String} {x : V} {v : Value} (I : Inv X pins σ H s) (r : RelV x v) (ty : tyV X.K T x H) :
    s.TypeIs v T ∧ ∀ a, v = .ref a → ∃ ob, s.heap.get? a = some ob ∧ ob.dict = none := by
  cases x with
  | str z =>
    obtain ⟨t, rfl⟩ := r
    cases (show T = "str" from ty)
    exact ⟨typeIs_str s z t, fun _ e => nomatch e⟩
  | int i =>
    obtain ⟨t, rfl⟩ := r
    cases (show T = "int" from ty)
    exact ⟨typeIs_int s i t, fun _ e => nomatch e⟩
  | ref p =>
    cases r
    rcases ty with ⟨rfl, xs, hq⟩ | ⟨rfl, o, hk, hc, hd⟩ | ⟨rfl, hk⟩ | ⟨rfl, S, n, hk⟩
    · obtain ⟨its, _, pl, _⟩ := I.list hq
      refine ⟨pl.isList.typeIs, fun a e => ?_⟩
      cases e
      obtain ⟨o, n, e, c, hd, _⟩ := pl
      exact ⟨o, e, hd⟩
    · refine ⟨⟨o, I.kIn p o hk, hc⟩, fun a e => ?_⟩
      cases e
      exact ⟨o, I.kIn _ o hk, hd⟩
    · have z : ∃ o, s.heap.get? p = some o ∧ o.ExactDict := by
        rcases hk with ⟨kvs, hk⟩ | ⟨kvs, hk⟩
        · obtain ⟨_, _, _, _, o, _, _, e, ex, _⟩ := I.hok p _ hk
          exact ⟨o, e, ex⟩
        · obtain ⟨_, _, _, _, o, _, _, e, ex, _⟩ := I.hok p _ hk
          exact ⟨o, e, ex⟩
      obtain ⟨o, e, ex⟩ := z
      refine ⟨⟨o, e, ex.1⟩, fun a e2 => ?_⟩
      cases e2
      exact ⟨o, e, ex.2.1⟩
    · obtain ⟨o, _, _, _, e, ex, _⟩ := I.hok p _ hk
      refine ⟨⟨o, e, ex.1⟩, fun a e2 => ?_⟩
      cases e2
      exact ⟨o, e, ex.2.1⟩
  | _ => exact False.elim ty
def tBM (K : PySem.W.Frag) (T : String) (r : V → List V → Hp → VK → Prop) (to : TE) (t : TA) : TE := fun σ H Q => to σ H fun x H1 => tyV K T x H1 ∧ t σ H1 fun xs H2 => r x xs H2 Q
variable {o e : Expr} {es : List Expr} {to : TE} {t : TA} {name : Str} {apos cpos : Pos} {T id : String} {r : V → List V → Hp → VK → Prop}
theorem pe_bm (pa : PlainAttrs T) (slot : Slot T name id) (hty : typeOf (.builtin id) = pure (.type "method_descriptor")) (hm : MtR X id r) (ho : PE X o to) (ha : PA X (e :: es) t)
    (hbase : attributeBase o name X.env (eval o X.env) = eval o X.env := by rfl)
    (hfew : ((backTo cpos (starEach (e :: es) X.env)).all (fun x => !x.1) && (backToKw cpos (keywordEach [] X.env)).all (fun x => x.1.isSome)
      && decide ((e :: es).length + ([] : List Keyword).length + (if ([] : List Keyword).isEmpty then 0 else 1) < 30)) = true := by rfl)
    (hline : (apos.endLine == cpos.line) = true := by rfl) (hs : starEach (e :: es) X.env = (false, eval e X.env) :: starEach es X.env := by rfl) (hplain : (backTo cpos (starEach es X.env)).any (·.1) = false := by rfl) :
    PE X (.Call (.Attribute o name apos) (e :: es) [] cpos) (tBM X.K T r to t) := by
  intro pins s σ H Q I h
  refine wpAny_Call_method_late hbase hfew hline rfl (thn (ho pins s σ H _ I h) fun v s1 ⟨x, H1, I1, r1, ty, q1⟩ => ?_)
  obtain ⟨h1, h2⟩ := tyV_is I1 r1 ty
  refine ⟨T, id, pa, slot, hty, h1, h2, ?_⟩
  have hA := ha cpos pins s1 σ H1 _ I1 q1
  rw [hs] at hA ⊢
  refine Calls.callWith_builtin (by show (false || (backTo cpos (starEach es X.env)).any (·.1)) = false; rw [hplain] <;> rfl) (Calls.evalArgs_plain ?_)
  exact thn hA fun us s2 ⟨vs, H2, I2, r2, q2⟩ => hm pins s2 σ H2 x vs v us Q I2 r1 r2 q2
end
end L2
namespace L2
open PySem PySem.Spec PyProof.Rows
def MtM (X : Cx) (id : String) (r : V → List V → Hp → VK → Prop) : Prop :=
  ∀ (pins : List (Addr × Obj)) (s : Shared) (σ : St) (H : Hp) (x : V) (xs : List V) (v : Value) (us : List Value) (Q : VK), Inv X pins σ H s → RelV x v → Vals xs us → r x xs H Q →
    wpAny (model X.prog X.w) X.A (call (.builtin id) (v :: us)) (EP X pins σ Q) X.xe s
theorem Vals.one : ∀ {x : V} {us : List Value}, Vals [x] us → ∃ u, us = [u] ∧ RelV x u
  | _, _, .cons r .nil => ⟨_, rfl, r⟩
theorem Vals.two : ∀ {x y : V} {us : List Value}, Vals [x, y] us → ∃ u v, us = [u, v] ∧ RelV x u ∧ RelV y v
  | _, _, _, .cons r (.cons q .nil) => ⟨_, _, rfl, r, q⟩
theorem Vals.zero : ∀ {us : List Value}, Vals [] us → us = []
  | _, .nil => rfl
theorem Vals.dropLast {xs : List V} {us : List Value} (h : Vals xs us) : Vals xs.dropLast us.dropLast := by
  induction h with
  | nil => exact .nil
  | cons r t ih =>
    cases t with
    | nil => exact .nil
    | cons q t' => exact .cons r ih
theorem Vals.eraseIdx : ∀ {xs : List V} {us : List Value} (i : Nat), Vals xs us → Vals (xs.eraseIdx i) (us.eraseIdx i)
  | _, _, _, .nil => .nil
  | _, _, 0, .cons _ t => t
  | _, _, i + 1, .cons r t => .cons r (Vals.eraseIdx i t)
theorem Vals.reverse {xs : List V} {us : List Value} (h : Vals xs us) : Vals xs.reverse us.reverse := by
  induction h with
  | nil => exact .nil
  | cons r t ih => rw [List.reverse_cons, List.reverse_cons]; exact Vals.append ih (.cons r .nil)
theorem len_erase {α : Type} : ∀ (l : List α) (i : Nat), (l.eraseIdx i).length ≤ l.length
  | [], _ => Nat.le_refl _
  | _ :: _, 0 => Nat.le_succ _
  | _ :: r, i + 1 => Nat.succ_le_succ (len_erase r i)
section
variable {X : Cx} {pins : List (Addr × Obj)} {σ : St} {H : Hp} {s : Shared} {l b : Addr} {xs ys zs : List V}
theorem Inv.lset {its its' : List Value} {n : Nat} {f : Array Value → Array Value} {t' : Nat} (I : Inv X pins σ H s) (hH : H l = some (.lst xs))
    (e : s.heap.get? l = some { cls := .type "list", data := .seq its.toArray n }) (hf : f its.toArray = its'.toArray) (hv : Vals ys its') (hz : ys.length ≤ sizeLine) :
    Inv X pins σ (upd H l (.lst ys)) { s with heap := s.heap.update l (Obj.mapSeq f), toks := t' } := by
  have q := PySem.IsL.update e f
  rw [hf] at q
  refine I.write (x := l) (e := l) (by rw [hH]; exact trivial) (.inl rfl) (fun b' u hb hu => (Heap.get?_update_other s.heap (Obj.mapSeq f) (Ne.symm hb)).trans hu) ⟨_, q⟩ ?_
  exact ⟨hz, its', _, hv, q⟩
theorem Inv.lnew {its : List Value} {t' : Nat} (I : Inv X pins σ H s) (hv : Vals ys its) (hz : ys.length ≤ sizeLine) :
    Inv X pins σ (upd H s.heap.objs.size (.lst ys)) { s with heap := s.heap.push { cls := .type "list", data := .seq its.toArray }, toks := t' } :=
  I.laid (fun _ _ q => Heap.get?_push_of_some _ q) (Nat.le_refl _) ⟨hz, its, 0, hv, Heap.get?_push_size _ rfl⟩
theorem Inv.fresh (I : Inv X pins σ H s) : H s.heap.objs.size = none := I.hok.fresh (Nat.le_refl _)
theorem Inv.lstM (I : Inv X pins σ H s) (hH : H l = some (.lst xs)) : xs.length ≤ sizeLine ∧ ∃ (its : List Value) (n : Nat), Vals xs its ∧ xs.length = its.length ∧ s.heap.get? l = some { cls := .type "list", data := .seq its.toArray n } := by
  obtain ⟨z, its, n, r, e⟩ := I.hok l _ hH
  exact ⟨z, its, n, r, r.length, e⟩
theorem notLongL {n : Nat} (h : n ≤ sizeLine) : Builtin.List.listTooLong n = false := by
  unfold Builtin.List.listTooLong
  exact decide_eq_false (by omega)
end
section
variable {X : Cx}
def rAppend : V → List V → Hp → VK → Prop := fun x vs H Q => ∃ l xs y, x = .ref l ∧ vs = [y] ∧ H l = some (.lst xs) ∧ xs.length < sizeLine ∧ Q .non (upd H l (.lst (xs ++ [y])))
theorem mt_append : MtM X "list.append" rAppend := by
  intro pins s σ H x vs v us Q I rx rv h
  obtain ⟨l, xs, y, rfl, rfl, hH, hz, q⟩ := h
  cases rx
  obtain ⟨u, rfl, ru⟩ := rv.one
  obtain ⟨z, its, n, r, hl, e⟩ := I.lstM hH
  refine call_meets F.slot_list_append ⟨_, e, rfl⟩ F.entry_list_append (F.args_list_append_2 _ _) (PySem.list_append l its.toArray n u (by rw [List.size_toArray]; omega)) ⟨e, ?_⟩
  refine ⟨.non, _, I.lset (its' := its ++ [u]) hH e (by simp) (r.append (.cons ru .nil)) ?_, rfl, q⟩
  rw [List.length_append, List.length_singleton]
  omega
def rExtend : V → List V → Hp → VK → Prop := fun x vs H Q => ∃ l b xs zs, x = .ref l ∧ vs = [.ref b] ∧ H l = some (.lst xs) ∧ H b = some (.lst zs) ∧ xs.length + zs.length ≤ sizeLine ∧ Q .non (upd H l (.lst (xs ++ zs)))
theorem mt_extend : MtM X "list.extend" rExtend := by
  intro pins s σ H x vs v us Q I rx rv h
  obtain ⟨l, b, xs, zs, rfl, rfl, hH, hB, hz, q⟩ := h
  cases rx
  obtain ⟨u, rfl, ru⟩ := rv.one
  cases ru
  obtain ⟨z, its, n, r, hl, e⟩ := I.lstM hH
  obtain ⟨z2, its2, n2, r2, hl2, e2⟩ := I.lstM hB
  have hsz : its.toArray.size + its2.toArray.size ≤ sizeLine := by rw [List.size_toArray, List.size_toArray]; omega
  have hlong : ¬ (!its.toArray.isEmpty && Builtin.List.listTooLong (its.toArray.size + its2.toArray.size)) = true := by
    rw [notLongL hsz, Bool.and_false]
    exact Bool.false_ne_true
  refine call_meets F.slot_list_extend ⟨_, e, rfl⟩ F.entry_list_extend (F.args_list_extend_2 _ _)
    (AutoSeq1.list_extend_list_list_0 l its.toArray n b its2.toArray n2 hlong (by rw [List.size_toArray]; omega) (by omega)) ⟨e, e2, ?_⟩
  refine ⟨.non, _, I.lset (its' := its ++ its2) hH e (by simp) (r.append r2) ?_, rfl, q⟩
  rw [List.length_append]
  omega
def rCat : R2 := fun x y H Q => ∃ l b xs zs, x = .ref l ∧ y = .ref b ∧ H l = some (.lst xs) ∧ H b = some (.lst zs) ∧ xs.length + zs.length ≤ sizeLine ∧ ∀ p, H p = none → Q (.ref p) (upd H p (.lst (xs ++ zs)))
theorem op_cat : OpR X (binaryOp .Add) rCat := by
  intro pins s σ H x y v u Q I rx ry h
  obtain ⟨l, b, xs, zs, rfl, rfl, hH, hB, hz, q⟩ := h
  cases rx
  cases ry
  obtain ⟨z, its, n, r, hl, e⟩ := I.lstM hH
  obtain ⟨z2, its2, n2, r2, hl2, e2⟩ := I.lstM hB
  refine PySem.P.add_list e e2 ?_ (by rw [List.size_toArray, List.size_toArray]; omega)
  have ea : its.toArray ++ its2.toArray = (its ++ its2).toArray := by simp
  rw [ea]
  exact ⟨.ref _, _, I.lnew (t' := s.toks) (r.append r2) (by rw [List.length_append]; omega), rfl, q _ I.fresh⟩
end
section
variable {prog : Program} {w : World} {A : Around} {E : Value → Shared → Prop} {s : Shared}
end
section
variable {X : Cx}
end
end L2
namespace Att
open PySem PySem.W PySem.Calls PyProof.Rows
theorem ints_of_wellAll {P : Params} {h : Heap} : ∀ (ns : List Int) (vs : List Value), WellAll P h vs (ns.map WData.int) → IntsAre vs ns := by
  intro ns
  induction ns with
  | nil =>
    intro vs w
    rw [List.map_nil] at w
    cases w
    exact .nil
  | cons n ns ih =>
    intro vs w
    rw [List.map_cons] at w
    cases w with
    | cons a b =>
      cases a
      exact .cons _ _ (ih _ b)
theorem script_of {l : OpenLaw} {n : Nat} (hn : l.most = some n) {P : Params} {h : Heap} {args : List WData} {vals : List Value}
    (hpre : l.row.toRowW.claim.pre args = true) (hwl : WellAll P h vals args) :
    ∃ a vs ns, vals = [Value.ref a] ∧ args = [WData.list (ns.map WData.int)] ∧ h.get? a = some { cls := .type "list", data := .seq vs.toArray } ∧ IntsAre vs ns ∧ ns.length ≤ n := by
  have hsh : WShape.hasAll [] args [.list .int] = true := (pre_splitW hpre).1
  have hc : l.pre.holds [] { args := args } = true := (pre_splitW hpre).2
  obtain ⟨d, r, rfl, h1, h2⟩ := hasAllW_cons hsh
  obtain rfl := hasAllW_nil h2
  obtain ⟨xs, rfl, h3⟩ := hasW_list h1
  obtain ⟨ns, rfl⟩ := items_int h3
  have hlen : ns.length ≤ n := by
    unfold OpenLaw.pre at hc
    have h4 : (WTm.not (.lt (.lit (.int (n : Int))) (.len (.arg 0)))).holds [] { args := [.list (ns.map .int)] } = true := by
      have h4 := (holds_andW hc).1
      rw [hn] at h4
      exact h4
    have h5 := condW_of h4 (w_not (w_lt w_lit (w_len_list (w_arg rfl))))
    rw [List.length_map] at h5
    refine Nat.le_of_not_lt fun q => ?_
    have q' : (n : Int) < ((ns.length : Nat) : Int) := by omega
    first
      | (rw [decide_eq_true q'] at h5; exact absurd h5 (by decide))
      | (simp at h5; omega)
  cases hwl with
  | cons w1 w2 =>
    cases w2
    cases w1 with
    | list ho hall => exact ⟨_, _, ns, rfl, rfl, ho, ints_of_wellAll ns _ hall, hlen⟩
theorem post_true (l : OpenLaw) (args : List WData) : l.row.toRowW.claim.post args (.bool true) args = true :=
  postW_of (r := l.row.toRowW) (X := (true == true))
    (show WShape.has [] (.bool true) .bool = true by first | rfl | decide | simp [WShape.has, WShape.arms, WShape.armsAll])
    (show (WTm.eq .res (.lit (.bool true))).value [] { args := args, res := some (.bool true), after := args } = some (.bool (true == true)) from w_eq_bool (w_res rfl) w_lit) rfl
theorem attach_call {l : OpenLaw} {n : Nat} {q : Program} {loose : List Str} {XP : (Str → Option Value) → Heap → Prop} {YP : World → Heap → Prop} {d : DefRec}
    (hn : l.most = some n) (hdf : d.params.defaults = [])
    (call : ∀ (w : World) (s₀ s₁ : Shared) (mg mb : Str → Option Value) (fa : Addr) (o : Obj) (pm cd doc : Value) (a : Addr) (vs : List Value) (ns : List Int),
      Ground q loose [] XP w s₀ mg mb s₁.heap → YP w s₁.heap →
      s₁.heap.get? fa = some o → o.data = .func (docDef d.name d.params d.body d.scope pm cd doc) → s₁.heap.CodeRec cd d.name → mg d.name = some (.ref fa) →
      s₁.heap.get? a = some { cls := .type "list", data := .seq vs.toArray } → IntsAre vs ns → ns.length ≤ n → s₁.gens = #[] →
      codeAny (model l.prog w) callerA (.call (.ref fa) ⟨[.ref a], []⟩) (fun r s' => r = .ok (.ret (.bool true)) ∧ OldK s₁.heap s'.heap ∧ s'.os = s₁.os ∧ AllBare s'.gens) s₁) :
    WalkO q loose XP YP l.row.toRowW d [] (fun f vs => PySem.call f vs) := by
  intro w s₀ s₁ mg mb G Y fa o pm cd doc dV kV ho hd hcd hD hmg hg args vals as hpre hlay hrd hwl hlo
  obtain rfl : dV = .none := Dflts.none hD hdf
  obtain rfl : kV = .none := Dflts.noKw hD
  obtain ⟨a, vs, ns, rfl, rfl, hobj, hints, hlen⟩ := script_of hn hpre hwl
  refine enter_call (codeAny_mono (call w s₀ s₁ mg mb fa o pm cd doc a vs ns G Y ho (fd_plain hd) hcd hmg hobj hints hlen hg) fun r s' hq => ?_)
  obtain ⟨rfl, h2, h3, h4⟩ := hq
  exact ⟨.inl ⟨.bool true, .bool true, [], rfl, fun _ => rfl, .bool true, post_true l _, fun _ => ⟨List.Pairwise.nil, fun _ hm => (nomatch hm)⟩⟩, h2, h3, h4⟩
section
variable {prog : Program} {w : World} {A : Around} {E : Value → Shared → Prop} {s : Shared} {K : Frag}
end
end Att
namespace L2
open PySem PySem.Spec PyProof.Rows
theorem vals_ints : ∀ {vs : List Value} {ns : List Int}, IntsAre vs ns → Vals (ns.map V.int) vs
  | _, _, .nil => .nil
  | _, _, .cons n t h => .cons ⟨t, rfl⟩ (vals_ints h)
end L2
namespace L2
open PySem PySem.Spec PyProof.Rows
end L2
namespace L2
open PySem PySem.Spec PyProof.Rows
def defArgs (s : Stmt) : Arguments := match s with
  | .FunctionDef _ a _ _ _ _ _ _ _ _ => a
  | _ => { posonlyargs := [], args := [], vararg := none, kwonlyargs := [], kw_defaults := [], kwarg := none, defaults := [] }
def defBody (s : Stmt) : List Stmt := match s with
  | .FunctionDef _ _ b _ _ _ _ _ _ _ => b
  | _ => []
def defScope (s : Stmt) : Scope := match s with
  | .FunctionDef _ _ _ _ _ _ sc _ _ _ => sc
  | _ => { kind := .function, names := [], isGenerator := false, isCoroutine := false }
abbrev CX0 : CXT := fun _ _ _ _ _ _ => False
abbrev E0 : XK := fun _ _ _ => False
theorem pass0 {X : Cx} : Passes CX0 X E0 := fun _ _ _ _ _ _ _ h => h.elim
structure Fun (K : PySem.W.Frag) (x qual : Str) (st : Stmt) (f : Addr) (fd : FuncData) : Prop where
  ex : ∃ (oc : Value) (od : Option Addr) (kV doc pm : Value) (an : Option Addr) (cdv ct : Value) (osl : Array (Option Value)),
    fd = PySem.W.fnOf x qual (defArgs st) (defBody st) (defScope st) .none kV doc pm an cdv ct ∧ K.lookup f = some ⟨oc, od, .func fd, osl⟩ ∧ PySem.W.codeIn K cdv qual = true
  kp : PySem.W.keepIn K (.ref f) = true
section
variable {P : Program} {w : World} {K : PySem.W.Frag} {mg : Str → Option Value} {base : Heap}
theorem Fun.ok {x qual : Str} {st : Stmt} {f : Addr} {fd : FuncData} {N ps : List Str} {k : Nat} {sp : Sp} (F : Fun K x qual st f fd) (S : FnScope N ps (defScope st)) (len : ∀ vs H Q E, sp vs H Q E → vs.length = ps.length)
    (hbody : ∀ (cdv : Value) (A : Around) (outer : List Env) (s : Shared) (H : Hp) (vs : List V) (Q : VK) (E : XK), Room k (A.deeper (envOfC qual (defScope st) s.heap.objs.size f cdv)) → sp vs H Q E →
      ∃ t, PSs (cxOf CX0 P w K mg base N qual (defScope st) f cdv A outer s H E).nox (defBody st) t ∧ t { nx := fun _ H' => Q .non H', rt := Q } (start N vs) H) : FnOk P w K mg base CX0 (k + 1) f fd ps sp := by
  obtain ⟨oc, od, kV, doc, pm, an, cdv, ct, osl, rfl, lk, hcd⟩ := F.ex
  refine fn_of lk hcd S len fun A outer s H vs Q E hr hsp => ?_
  obtain ⟨t, h, q⟩ := hbody cdv A outer s H vs Q E hr hsp
  exact ⟨t, h.nox, q⟩
theorem Fun.binds {x qual : Str} {st : Stmt} {f : Addr} {fd : FuncData} {ps : List Str} (F : Fun K x qual st f fd)
    (h : ∀ (kV doc pm : Value) (an : Option Addr) (cdv ct : Value) (us : List Value), us.length = ps.length → bindArgs (PySem.W.fnOf x qual (defArgs st) (defBody st) (defScope st) .none kV doc pm an cdv ct) ⟨us, []⟩ = pure (ps.zip us)) : Binds K fd ps [] := by
  obtain ⟨oc, od, kV, doc, pm, an, cdv, ct, osl, rfl, lk, hcd⟩ := F.ex
  exact .all (h kV doc pm an cdv ct)
theorem fun_mk {x qual : Str} {st : Stmt} {f : Addr} {oc : Value} {od an : Option Addr} {osl : Array (Option Value)} {kV doc pm cdv ct : Value} (l : K.lookup f = some ⟨oc, od, .func (PySem.W.fnOf x qual (defArgs st) (defBody st) (defScope st) .none kV doc pm an cdv ct), osl⟩)
    (c : PySem.W.codeIn K cdv qual = true) (k : PySem.W.keepIn K (.ref f) = true) : Fun K x qual st f (PySem.W.fnOf x qual (defArgs st) (defBody st) (defScope st) .none kV doc pm an cdv ct) := ⟨⟨oc, od, kV, doc, pm, an, cdv, ct, osl, rfl, l, c⟩, k⟩
end
theorem hu_of {A : Around} {k : Nat} (hr : Room k A) : A.units + 1 < cLine := Nat.lt_of_le_of_lt (Nat.add_le_add_left (by decide : 1 ≤ 64) _) hr.units
theorem small1000 {n : Nat} (h : n ≤ 1000) : n < sizeLine := Nat.lt_of_le_of_lt h (by decide)
section
variable {X : Cx}
theorem pv (i : Nat) {x : Str} {pos : Pos} (hN : X.N[i]? = some x := by rfl) (hv : Vis X.env.scope x := by first | exact Or.inl rfl | exact Or.inr (Or.inl rfl) | exact Or.inr (Or.inr rfl)) (hd : (x == ("__debug__" : Str)) = false := by decide)
    (hcd : (x == ("__classdict__" : Str)) = false := by decide) : PE X (.Name x pos) (tVar i) := pe_var hN hv hd hcd
end
theorem iteF {A B : Prop} (h : B) : if false = true then A else B := by
  rw [if_neg Bool.false_ne_true]
  exact h
theorem iteT {A B : Prop} (h : A) : if true = true then A else B := by
  rw [if_pos rfl]
  exact h
theorem ite2 {c A B : Prop} [Decidable c] (h1 : c → A) (h2 : ¬ c → B) : if c then A else B := by
  by_cases h : c
  · rw [if_pos h]
    exact h1 h
  · rw [if_neg h]
    exact h2 h
theorem iteNS {c A B : Prop} [Decidable c] (hc : c) (h : B) : if (!decide c) = true then A else B := by
  rw [decide_eq_true hc]
  exact iteF h
def Same (H H' : Hp) : Prop := ∀ b o, H b = some o → H' b = some o
theorem Same.refl (H : Hp) : Same H H := fun _ _ h => h
theorem Same.trans {H H1 H2 : Hp} (a : Same H H1) (b : Same H1 H2) : Same H H2 := fun c o h => b c o (a c o h)
theorem Same.free {H H' : Hp} (e : Same H H') {l : Addr} (h : H' l = Option.none) : H l = Option.none := by
  cases q : H l with
  | none => rfl
  | some o =>
    rw [e l o q] at h
    cases h
theorem Same.seq {K : PySem.W.Frag} {H H' : Hp} {a : Addr} {xs : List V} (e : Same H H') (h : SqL K H a xs) : SqL K H' a xs := by
  rcases h with (h | ⟨o, h⟩) | h
  · exact .inl (.inl (e _ _ h))
  · exact .inl (.inr ⟨o, e _ _ h⟩)
  · exact .inr h
end L2
namespace L2
open PySem PySem.Spec PyProof.Rows
def clFor (cells : List (Str × Addr)) : List (Str × NameKind) → List (Str × Addr) → List (Str × Addr)
  | [], acc => acc
  | (n, k) :: r, acc => if k == .free then (match cells.lookup n with | some a => clFor cells r ((n, a) :: acc) | none => clFor cells r acc) else clFor cells r acc
theorem closureFor_eq {scope : Scope} {env : Env} (h : ∀ x ∈ scope.names, x.2 = .free → ∃ c, env.cells.lookup x.1 = some c) :
    closureFor scope env = pure (clFor env.cells scope.names []) := by
  have key : ∀ (f : Str × NameKind → List (Str × Addr) → Sem (ForInStep (List (Str × Addr)))),
      (∀ n k cs, f (n, k) cs = if k == .free then (do let a ← cellOf env n; pure (ForInStep.yield ((n, a) :: cs))) else pure (ForInStep.yield cs)) →
      ∀ (names : List (Str × NameKind)) (acc : List (Str × Addr)), (∀ x ∈ names, x.2 = .free → ∃ c, env.cells.lookup x.1 = some c) →
      forIn names acc f = (pure (clFor env.cells names acc) : Sem (List (Str × Addr))) := by
    intro f hf names
    induction names with
    | nil => intro acc _; rfl
    | cons x r ih =>
      intro acc hx
      obtain ⟨n, k⟩ := x
      rw [List.forIn_cons, hf]
      have hr : ∀ y ∈ r, y.2 = .free → ∃ c, env.cells.lookup y.1 = some c := fun y hy => hx y (List.mem_cons_of_mem _ hy)
      by_cases hk : k = .free
      · obtain ⟨c, hc⟩ := hx (n, k) List.mem_cons_self hk
        have hc' : env.cells.lookup n = some c := hc
        subst hk
        have e : clFor env.cells ((n, NameKind.free) :: r) acc = clFor env.cells r ((n, c) :: acc) := by
          simp only [clFor, beq_self_eq_true, if_true, hc']
        rw [e]
        simp only [beq_self_eq_true, if_true, cellOf, hc', pure_bind]
        exact ih _ hr
      · have hb : (k == NameKind.free) = false := by simpa using hk
        have e : clFor env.cells ((n, k) :: r) acc = clFor env.cells r acc := by
          simp only [clFor, hb, Bool.false_eq_true, if_false]
        rw [e]
        simp only [hb, Bool.false_eq_true, if_false, pure_bind]
        exact ih _ hr
  have q := key (fun x cs => match x with | (name, kind) => if (kind == NameKind.free) = true then (do let a ← cellOf env name; pure (ForInStep.yield ((name, a) :: cs))) else pure (ForInStep.yield cs)) (fun _ _ _ => rfl) scope.names [] h
  exact (congrArg (fun m : Sem (List (Str × Addr)) => m >>= fun cs => pure cs) q).trans (pure_bind _ _)
theorem clFor_of (cells : List (Str × Addr)) {x : Str} {c : Addr} : ∀ (names : List (Str × NameKind)) (acc : List (Str × Addr)),
    (clFor cells names acc).lookup x = some c → acc.lookup x = some c ∨ ((x, NameKind.free) ∈ names ∧ cells.lookup x = some c)
  | [], acc, h => .inl h
  | (n, k) :: r, acc, h => by
    unfold clFor at h
    split at h
    · rename_i hk
      have hk' : k = .free := by simpa using hk
      split at h
      · rename_i a ha
        rcases clFor_of cells r _ h with q | ⟨q, q2⟩
        · rw [List.lookup_cons] at q
          cases hb : x == n with
          | true =>
            rw [hb] at q
            have e : x = n := by simpa using hb
            subst e hk'
            exact .inr ⟨List.mem_cons_self, by rw [ha]; exact q⟩
          | false => rw [hb] at q; exact .inl q
        · exact .inr ⟨List.mem_cons_of_mem _ q, q2⟩
      · rcases clFor_of cells r _ h with q | ⟨q, q2⟩
        · exact .inl q
        · exact .inr ⟨List.mem_cons_of_mem _ q, q2⟩
    · rcases clFor_of cells r _ h with q | ⟨q, q2⟩
      · exact .inl q
      · exact .inr ⟨List.mem_cons_of_mem _ q, q2⟩
theorem clFor_keep (cells : List (Str × Addr)) {x : Str} {c : Addr} (hc : cells.lookup x = some c) : ∀ (names : List (Str × NameKind)) (acc : List (Str × Addr)),
    acc.lookup x = some c → (clFor cells names acc).lookup x = some c
  | [], acc, h => h
  | (n, k) :: r, acc, h => by
    unfold clFor
    split
    · split
      · rename_i a ha
        refine clFor_keep cells hc r _ ?_
        rw [List.lookup_cons]
        cases hb : x == n with
        | true =>
          have e : x = n := by simpa using hb
          subst e
          rw [hc] at ha
          exact ha ▸ rfl
        | false => exact h
      · exact clFor_keep cells hc r _ h
    · exact clFor_keep cells hc r _ h
theorem clFor_has (cells : List (Str × Addr)) {x : Str} {c : Addr} (hc : cells.lookup x = some c) : ∀ (names : List (Str × NameKind)) (acc : List (Str × Addr)),
    (x, NameKind.free) ∈ names → (clFor cells names acc).lookup x = some c
  | [], acc, h => by cases h
  | (n, k) :: r, acc, h => by
    unfold clFor
    rcases List.mem_cons.mp h with e | h
    · cases e
      simp only [beq_self_eq_true, if_true, hc]
      exact clFor_keep cells hc r _ (by rw [List.lookup_cons]; simp)
    · split
      · split
        · exact clFor_has cells hc r _ h
        · exact clFor_has cells hc r _ h
      · exact clFor_has cells hc r _ h
theorem cellsFrom_of {x : Str} {c : Addr} : ∀ (names : List (Str × NameKind)) (n : Nat) (acc : List (Str × Addr)),
    (cellsFrom n names acc).lookup x = some c → acc.lookup x = some c ∨ ((x, NameKind.cell) ∈ names ∧ n ≤ c)
  | [], n, acc, h => .inl h
  | (nm, k) :: r, n, acc, h => by
    unfold cellsFrom at h
    split at h
    · rename_i hk
      have hk' : k = .cell := by simpa using hk
      rcases cellsFrom_of r _ _ h with q | ⟨q, q2⟩
      · rw [List.lookup_cons] at q
        cases hb : x == nm with
        | true =>
          rw [hb] at q
          have e : x = nm := by simpa using hb
          subst e hk'
          have q' : n = c := Option.some.inj q
          exact .inr ⟨List.mem_cons_self, by omega⟩
        | false => rw [hb] at q; exact .inl q
      · exact .inr ⟨List.mem_cons_of_mem _ q, by omega⟩
    · rcases cellsFrom_of r _ _ h with q | ⟨q, q2⟩
      · exact .inl q
      · exact .inr ⟨List.mem_cons_of_mem _ q, q2⟩
theorem cellsFrom_out {x : Str} : ∀ (names : List (Str × NameKind)) (n : Nat) (acc : List (Str × Addr)),
    (x, NameKind.cell) ∉ names → (cellsFrom n names acc).lookup x = acc.lookup x
  | [], n, acc, h => rfl
  | (nm, k) :: r, n, acc, h => by
    unfold cellsFrom
    have hr : (x, NameKind.cell) ∉ r := fun z => h (List.mem_cons_of_mem _ z)
    split
    · rename_i hk
      have hk' : k = .cell := by simpa using hk
      rw [cellsFrom_out r _ _ hr, List.lookup_cons]
      have : (x == nm) = false := by
        rw [beq_eq_false_iff_ne]
        rintro rfl
        exact h (by rw [hk']; exact List.mem_cons_self)
      rw [this]
    · exact cellsFrom_out r _ _ hr
theorem cellsFrom_inj : ∀ (names : List (Str × NameKind)) (n : Nat) (acc : List (Str × Addr)), (∀ x c, acc.lookup x = some c → c < n) → (∀ x y c, acc.lookup x = some c → acc.lookup y = some c → x = y) →
    ∀ x y c, (cellsFrom n names acc).lookup x = some c → (cellsFrom n names acc).lookup y = some c → x = y
  | [], n, acc, h1, h2 => h2
  | (nm, k) :: r, n, acc, h1, h2 => by
    unfold cellsFrom
    split
    · refine cellsFrom_inj r _ _ (fun x c e => ?_) (fun x y c e1 e2 => ?_)
      · rw [List.lookup_cons] at e
        cases hb : x == nm with
        | true => rw [hb] at e; have q : n = c := Option.some.inj e; exact q ▸ Nat.lt_succ_self n
        | false => rw [hb] at e; exact Nat.lt_succ_of_lt (h1 x c e)
      · rw [List.lookup_cons] at e1 e2
        cases hx : x == nm with
        | true =>
          rw [hx] at e1
          have q : n = c := Option.some.inj e1
          cases hy : y == nm with
          | true => rw [show x = nm by simpa using hx, show y = nm by simpa using hy]
          | false => rw [hy] at e2; exact absurd (h1 y c e2) (q ▸ Nat.lt_irrefl n)
        | false =>
          rw [hx] at e1
          cases hy : y == nm with
          | true =>
            rw [hy] at e2
            have q : n = c := Option.some.inj e2
            exact absurd (h1 x c e1) (q ▸ Nat.lt_irrefl n)
          | false => rw [hy] at e2; exact h2 x y c e1 e2
    · exact cellsFrom_inj r _ _ h1 h2
theorem pushCells_cell {x : Str} {c : Addr} : ∀ (names : List (Str × NameKind)) (h : Heap) (acc : List (Str × Addr)),
    (cellsFrom h.objs.size names acc).lookup x = some c → acc.lookup x = some c ∨ (pushCells h names).IsCell c none
  | [], h, acc, e => .inl e
  | (nm, k) :: r, h, acc, e => by
    unfold cellsFrom at e
    unfold pushCells
    split at e
    · rename_i hk
      rw [if_pos hk]
      have e' : (cellsFrom (h.push { cls := .type "cell", data := .cell none }).objs.size r ((nm, h.objs.size) :: acc)).lookup x = some c := by
        rw [Heap.size_push]; exact e
      rcases pushCells_cell r _ _ e' with q | q
      · rw [List.lookup_cons] at q
        cases hb : x == nm with
        | true =>
          rw [hb] at q
          have q' : h.objs.size = c := Option.some.inj q
          subst q'
          exact .inr ⟨_, pushCells_keeps r _ _ _ (Heap.get?_push_size _ rfl), rfl⟩
        | false => rw [hb] at q; exact .inl q
      · exact .inr q
    · rename_i hk
      rw [if_neg hk]
      exact pushCells_cell r h acc e
theorem lookup_relabel {env : Env} {x : Str} : ∀ (names : List (Str × NameKind)),
    (names.map fun (n, k) => if (k == NameKind.free && env.scope.kind == .function && env.kindOf n == some .cell) then (n, NameKind.cell) else (n, k)).lookup x =
      (names.lookup x).map fun k => if (k == NameKind.free && env.scope.kind == .function && env.kindOf x == some .cell) then NameKind.cell else k
  | [] => rfl
  | (nm, k) :: r => by
    have ih := lookup_relabel (env := env) (x := x) r
    rw [List.map_cons]
    show List.lookup x ((if (k == NameKind.free && env.scope.kind == .function && env.kindOf nm == some .cell) = true then (nm, NameKind.cell) else (nm, k)) :: _) = _
    cases hx : x == nm with
    | true =>
      have e : x = nm := by simpa using hx
      subst e
      by_cases hc : (k == NameKind.free && env.scope.kind == .function && env.kindOf x == some .cell) = true
      · rw [if_pos hc, List.lookup_cons, List.lookup_cons, beq_self_eq_true]
        show some NameKind.cell = some (if (k == NameKind.free && env.scope.kind == .function && env.kindOf x == some .cell) = true then NameKind.cell else k)
        rw [if_pos hc]
      · rw [if_neg hc, List.lookup_cons, List.lookup_cons, beq_self_eq_true]
        show some k = some (if (k == NameKind.free && env.scope.kind == .function && env.kindOf x == some .cell) = true then NameKind.cell else k)
        rw [if_neg hc]
    | false =>
      by_cases hc : (k == NameKind.free && env.scope.kind == .function && env.kindOf nm == some .cell) = true
      · rw [if_pos hc]; simp only [List.lookup_cons, hx]; exact ih
      · rw [if_neg hc]; simp only [List.lookup_cons, hx]; exact ih
end L2
namespace L2
open PySem PySem.Spec PyProof.Rows
def cxC (X : Cx) (scope : Scope) (N' : List Str) (s : Shared) (H : Hp) (fp : List Addr) : Cx where
  prog := X.prog
  w := X.w
  K := X.K
  mg := X.mg
  base := X.base
  A := X.A
  N := N'
  s₀ := s
  H₀ := H
  env := compEnvC scope (cellsFrom (s.heap.objs.size + 1) scope.names (clFor X.env.cells scope.names [])) s.heap.objs.size X.env
  outer := X.stack
  stack := X.stack
  ex := fp
  fn := fun x => decide (scope.names.lookup x = some .cell)
  calm := X.calm
  pn := []
  xe := fun _ _ => False
def startC (caps : List (Option Nat)) (σ : St) : St := caps.map fun o => o.bind fun i => (σ[i]?).bind fun v => v
structure CScope (X : Cx) (scope : Scope) (N' : List Str) (caps : List (Option Nat)) : Prop where
  kind : scope.kind = .function
  uniq : (scope.names.map (·.1)).Nodup
  free : ∀ x ∈ scope.names, x.2 = .free → X.env.kindOf x.1 = some .cell ∨ X.env.kindOf x.1 = some .free
  len : caps.length = N'.length
  cap : ∀ (j i : Nat) (x : Str), caps[j]? = some (some i) → N'[j]? = some x → X.N[i]? = some x ∧ (x, NameKind.free) ∈ scope.names
theorem lookup_of_mem {α : Type} : ∀ {l : List (Str × α)} {x : Str} {k : α}, (l.map (·.1)).Nodup → (x, k) ∈ l → l.lookup x = some k
  | [], _, _, _, h => by cases h
  | (y, j) :: r, x, k, nd, h => by
    rw [List.map_cons, List.nodup_cons] at nd
    rw [List.lookup_cons]
    rcases List.mem_cons.mp h with e | h
    · cases e; simp
    · have : (x == y) = false := by
        rw [beq_eq_false_iff_ne]
        intro e
        exact nd.1 (e ▸ List.mem_map.mpr ⟨(x, k), h, rfl⟩)
      rw [this]
      exact lookup_of_mem nd.2 h
section
variable {X : Cx} {pins : List (Addr × Obj)} {σ : St} {H : Hp} {s : Shared} {scope : Scope} {N' : List Str} {caps : List (Option Nat)} {fp : List Addr}
theorem CScope.names (S : CScope X scope N' caps) : ∀ x ∈ scope.names, x.2 = .local → scope.names.lookup x.1 = some .local := fun x hx hl => by
  obtain ⟨n, k⟩ := x
  cases hl
  exact lookup_of_mem S.uniq hx
theorem CScope.clos (S : CScope X scope N' caps) (ok : X.Ok) : closureFor scope X.env = pure (clFor X.env.cells scope.names []) :=
  closureFor_eq fun x hx hf => ok.has x.1 (S.free x hx hf)
theorem inv_comp (I : Inv X pins σ H s) (S : CScope X scope N' caps) (hfp : ∀ b ∈ fp, FpOk X pins H b) (hfo : ∀ b ∈ fp, ∃ o, s.heap.get? b = some o) :
    Inv (cxC X scope N' s H fp) [] (startC caps σ) H { s with heap := pushCells (s.heap.push { cls := .type "dict", data := .dict #[] }) scope.names } := by
  have keep : ∀ b o, s.heap.get? b = some o → (pushCells (s.heap.push { cls := .type "dict", data := .dict #[] }) scope.names).get? b = some o :=
    fun b o e => pushCells_keeps _ _ b o (Heap.get?_push_of_some _ e)
  have accLt : ∀ x c, (clFor X.env.cells scope.names []).lookup x = some c → (x, NameKind.free) ∈ scope.names ∧ X.env.cells.lookup x = some c := fun x c e => by
    rcases clFor_of _ _ _ e with q | q
    · cases q
    · exact q
  have cellLt : ∀ x c, X.env.cells.lookup x = some c → c < s.heap.objs.size := fun x c e => by
    obtain ⟨v, q⟩ := I.cell x c e
    exact q.lt
  have kf : ∀ x, (cxC X scope N' s H fp).env.kindOf x = (scope.names.lookup x).map fun k => if (k == NameKind.free && X.env.scope.kind == .function && X.env.kindOf x == some .cell) then NameKind.cell else k := fun x => lookup_relabel scope.names
  have ofCells : ∀ x c, (cxC X scope N' s H fp).env.cells.lookup x = some c → ((x, NameKind.free) ∈ scope.names ∧ X.env.cells.lookup x = some c) ∨ ((x, NameKind.cell) ∈ scope.names ∧ s.heap.objs.size + 1 ≤ c) := fun x c e => by
    rcases cellsFrom_of _ _ _ e with q | q
    · exact .inl (accLt x c q)
    · exact .inr q
  have notC : ∀ x, (x, NameKind.free) ∈ scope.names → (x, NameKind.cell) ∉ scope.names := fun x h1 h2 => by
    have a := lookup_of_mem S.uniq h1
    rw [lookup_of_mem S.uniq h2] at a
    cases a
  have freeCell : ∀ x c, (x, NameKind.free) ∈ scope.names → X.env.cells.lookup x = some c → (cxC X scope N' s H fp).env.cells.lookup x = some c := fun x c hx e => by
    have q : (cellsFrom (s.heap.objs.size + 1) scope.names (clFor X.env.cells scope.names [])).lookup x = some c := by
      rw [cellsFrom_out _ _ _ (notC x hx)]
      exact clFor_has _ e _ _ hx
    exact q
  have bigCell : ∀ x c, (cxC X scope N' s H fp).env.cells.lookup x = some c → s.heap.objs.size + 1 ≤ c → (pushCells (s.heap.push { cls := .type "dict", data := .dict #[] }) scope.names).IsCell c none := fun x c e hc => by
    have e' : (cellsFrom (s.heap.push { cls := .type "dict", data := .dict #[] }).objs.size scope.names (clFor X.env.cells scope.names [])).lookup x = some c := by
      rw [Heap.size_push]; exact e
    rcases pushCells_cell _ _ _ e' with q | q
    · exact absurd (Nat.lt_of_lt_of_le (cellLt x c (accLt x c q).2) (Nat.le_of_succ_le hc)) (Nat.lt_irrefl _)
    · exact q
  refine ⟨⟨I.mod, S.kind, I.ok.glob, I.ok.blt, Nat.le_refl _, ?inj, ?has, ?cab, I.ok.hd, I.ok.frames, .inl rfl, ?exf, I.bs, Nat.le_trans I.ok.bsz I.sz, ?noex, ?exfs, I.stack, I.stkFree⟩,
    rfl, I.bare, Un.kept keep, ⟨fun _ => none, (Heap.Ns.new s.heap (.type "dict")).keeps (pushCells_keeps _ _), ?loc⟩, ?cell, I.hok.fresh (Nat.le_refl _), ?freeC, fun p hp => absurd (show p ∈ ([] : List (Addr × Obj)) from hp) (by simp), I.hok.kept keep, ?len⟩
  case inj =>
    refine cellsFrom_inj scope.names _ _ (fun x c e => ?_) (fun x y c e1 e2 => I.ok.inj x y c (accLt x c e1).2 (accLt y c e2).2)
    exact Nat.lt_succ_of_lt (cellLt x c (accLt x c e).2)
  case has =>
    intro x hx
    rw [kf] at hx
    cases hl : scope.names.lookup x with
    | none => rw [hl] at hx; rcases hx with hx | hx <;> cases hx
    | some k =>
      have hm := PySem.mem_of_lookup hl
      by_cases hk : k = .free
      · subst hk
        obtain ⟨c, hc⟩ := I.ok.has x (S.free _ hm rfl)
        exact ⟨c, freeCell x c hm hc⟩
      · have hb : (k == NameKind.free) = false := by simpa using hk
        rw [hl] at hx
        simp only [Option.map_some, hb, Bool.false_and, Bool.false_eq_true, if_false, Option.some.injEq] at hx
        have hk2 : k = .cell := by
          rcases hx with z | z
          · exact z
          · exact absurd z hk
        subst hk2
        exact Option.isSome_iff_exists.mp (PySem.W.cellsFrom_some scope.names (s.heap.objs.size + 1) (clFor X.env.cells scope.names []) (.inl hl))
  case cab =>
    intro x c hf e
    have hf' : scope.names.lookup x = some .cell := of_decide_eq_true hf
    rcases ofCells x c e with ⟨q, _⟩ | ⟨_, q⟩
    · exact absurd (PySem.mem_of_lookup hf') (notC x q)
    · show s.heap.objs.size ≤ c
      omega
  case exf =>
    intro b hb
    obtain ⟨o, ho⟩ := hfo b hb
    have hlt := Heap.lt_size ho
    obtain ⟨f0, f1, f2, f3, f4, f5⟩ := hfp b hb
    refine ⟨Nat.ne_of_lt hlt, fun x c e => ?_⟩
    rcases ofCells x c e with ⟨_, q⟩ | ⟨_, q⟩
    · exact f4 x c q
    · exact (Nat.ne_of_lt (Nat.lt_of_lt_of_le hlt (Nat.le_of_succ_le q))).symm
  case noex =>
    intro b o e hb
    obtain ⟨f0, f1, f2, f3, f4, f5⟩ := hfp b hb
    rcases f3 with z | z
    · exact I.ok.noex b o e z
    · exact absurd (Nat.lt_of_lt_of_le (Heap.lt_size e) (Nat.le_trans I.ok.bsz z)) (Nat.lt_irrefl _)
  case exfs =>
    intro b hb z
    obtain ⟨f0, f1, f2, f3, f4, f5⟩ := hfp b hb
    rcases List.mem_cons.mp (I.stkSub b z) with q | q
    · exact f1 q
    · exact f2 q
  case loc =>
    intro i x v h1 h2 h3
    unfold startC at h2
    rw [List.getElem?_map] at h2
    cases hc : caps[i]? with
    | none => rw [hc] at h2; cases h2
    | some o =>
      rw [hc] at h2
      cases o with
      | none => cases h2
      | some k =>
        have h2' : ((σ[k]?).bind fun v => v) = some v := by simpa using h2
        obtain ⟨e1, e2⟩ := S.cap i k x hc h1
        have hσ : σ[k]? = some (some v) := by
          cases hq : σ[k]? with
          | none => rw [hq] at h2'; cases h2'
          | some y => rw [hq] at h2'; simp at h2'; rw [h2']
        have hkd := S.free _ e2 rfl
        obtain ⟨m, hn, hl⟩ := I.loc
        obtain ⟨u, r, lk⟩ := hl k x v e1 hσ (by rcases hkd with q | q; exact .inr (.inl q); exact .inr (.inr q))
        refine ⟨u, r, ?_⟩
        rcases lk with ⟨q, _⟩ | ⟨q, c, e, z⟩
        · rcases hkd with z | z
          · rw [q] at z; cases z
          · rw [q] at z; cases z
        · refine .inr ⟨?_, c, freeCell x c e2 e, z.keeps keep⟩
          rw [kf, lookup_of_mem S.uniq e2]
          simp only [Option.map_some, beq_self_eq_true, Bool.true_and]
          split
          · exact .inl rfl
          · exact .inr rfl
  case cell =>
    intro x c e
    rcases ofCells x c e with ⟨_, q⟩ | ⟨_, q⟩
    · obtain ⟨v, z⟩ := I.cell x c q
      exact ⟨v, z.keeps keep⟩
    · exact ⟨none, bigCell x c e q⟩
  case freeC =>
    intro x c e
    rcases ofCells x c e with ⟨_, q⟩ | ⟨_, q⟩
    · exact I.freeC x c q
    · exact I.hok.fresh (by omega)
  case len =>
    show (startC caps σ).length = N'.length
    unfold startC
    rw [List.length_map, S.len]
theorem Inv.comp_end {H3 H' : Hp} {s3 s' : Shared} {pins' : List (Addr × Obj)} {σ' : St} (I : Inv X pins σ H s) (hos : s3.os = s.os) (u3 : Un (frs X.stack) fp H H3 s.heap s3.heap) (hfp : ∀ b ∈ fp, FpOk X pins H b)
    (J : Inv (cxC X scope N' s3 H3 fp) pins' σ' H' s') : Inv X pins σ H' s' := by
  refine I.call' (ch := fp) (J.os.trans hos) (u3.trans J.base) J.hok J.bare fun b hb => ?_
  obtain ⟨f0, f1, f2, f3, f4, f5⟩ := hfp b hb
  exact ⟨f3, f1, f4, f5⟩
theorem wpAny_newFunctionEnv_comp {M : Model} {A : Around} {E : Value → Shared → Prop} {globals : Addr} {cl : List (Str × Addr)} {qual : Str} {env : Env} {Q : Env → Shared → Prop}
    (hQ : Q (newEnv scope s.heap.objs.size globals (cellsFrom (s.heap.objs.size + 1) scope.names cl) qual none .none (some env) builtinsNs) { s with heap := pushCells (s.heap.push { cls := .type "dict", data := .dict #[] }) scope.names }) :
    wpAny M A (newFunctionEnv scope globals cl [] qual none .none (some env)) Q E s := by
  simp only [newFunctionEnv, Option.isSome_some, if_true]
  refine wpAny_bind (wpAny_alloc ?_)
  refine wpAny_bind (wpAny_layCells _ (fun nm kd cs => by cases hkd : kd == NameKind.cell <;> simp [hkd]) _ _ _ _ ?_)
  rw [show ({ s with heap := s.heap.push { cls := .type "dict", data := .dict #[] } } : Shared).heap.objs.size = s.heap.objs.size + 1 from Heap.size_push ..]
  rw [List.forIn_nil]
  exact wpAny_bind (wpAny_pure (wpAny_pure hQ))
end
section
variable {pg : Program} {wd : World} {Ar : Around} {Rz : Result → Shared → Prop} {s0 : Shared}
theorem codeAny_compLoop_tgt {elt tg it0 : Expr} {cs : List Expr} {sco : Scope} {ps : Pos} {itv ac : Value} {ev : Env} (J : Nat → Shared → Prop)
    (hturn : ∀ m t, J m t → wpAny (model pg wd) Ar (pyNext itv) (fun rr t₁ => match rr with
      | none => Rz (.ok .next) t₁
      | some v => wpAny (model pg wd) Ar (letOwnedTupleGo tg itv v) (fun _ t₁ => wpAny (model pg wd) Ar (assign tg ev v) (fun _ t₂ =>
          wpAny (model pg wd) Ar (forIn cs true fun c r => if r = true then do let ok ← isTrue c ev (eval c ev); pure (ForInStep.yield ok) else pure (ForInStep.yield r)) (fun good t₃ =>
            if good = true then wpAny (model pg wd) Ar (eval elt ev) (fun y t₄ =>
              wpAny (model pg wd) Ar (call (.builtin "list.append") [ac, y]) (fun _ t₅ => ∃ k, k < m ∧ J k t₅) (fun _ _ => False) t₄) (fun _ _ => False) t₃
            else ∃ k, k < m ∧ J k t₃) (fun _ _ => False) t₂) (fun _ _ => False) t₁) (fun _ _ => False) t₁) (fun _ _ => False) t)
    (m0 : Nat) (h0 : J m0 s0) : codeAny (model pg wd) Ar (.compLoop (.ListComp elt [⟨tg, it0, cs, 0⟩] sco ps) 0 itv ac ev) Rz s0 := by
  have no : ∀ {α : Type} {tr : Sem α} {Q : α → Shared → Prop} {E : Value → Shared → Prop} {t : Shared}, wpAny (model pg wd) Ar tr Q (fun _ _ => False) t → wpAny (model pg wd) Ar tr Q E t :=
    fun z => wpAny_mono z (fun _ _ x => x) fun _ _ x => x.elim
  refine codeAny_loop rfl J (fun m t hJ => wpAny_noted ?_) m0 h0
  show wpAny _ Ar (compTurn (.ListComp elt [⟨tg, it0, cs, 0⟩] sco ps) 0 itv ac ev) _ _ t
  rw [compTurn_list]
  refine wpAny_bind (wpAny_standAt (wpAny_bind (wpAny_mono (no (hturn m t hJ)) (fun rr t₁ q₁ => ?_) fun _ _ z => z)))
  cases rr with
  | none => exact wpAny_pure q₁
  | some v =>
    refine wpAny_bind (wpAny_mono (no q₁) (fun _ t₁ q₂ => ?_) fun _ _ z => z)
    refine wpAny_bind (wpAny_mono (no q₂) (fun _ t₂ q₃ => wpAny_bind (wpAny_mono (no q₃) (fun good t₃ q₄ => ?_) fun _ _ z => z)) fun _ _ z => z)
    cases good with
    | false => exact wpAny_pure (And.intro rfl q₄)
    | true =>
      refine wpAny_bind (wpAny_bind (wpAny_mono (no q₄) (fun y t₄ q₅ => wpAny_bind (wpAny_mono (no q₅)
        (fun _ t₅ q₆ => wpAny_pure (wpAny_pure (And.intro rfl q₆))) fun _ _ z => z)) fun _ _ z => z))
end
end L2
namespace L2
open PySem PySem.Spec PyProof.Rows
def PIf (X : Cx) (ifs : List Expr) (t : TT) : Prop :=
  ∀ (pins : List (Addr × Obj)) (s : Shared) (σ : St) (H : Hp) (Q : Bool → Hp → Prop), Inv X pins σ H s → t σ H Q →
    wpAny (model X.prog X.w) X.A (forIn ifs true fun c r => if r = true then do let ok ← isTrue c X.env (eval c X.env); pure (ForInStep.yield ok) else pure (ForInStep.yield r)) (TP X pins σ Q) X.xe s
def tTrue : TT := fun _ H Q => Q true H
theorem tt_intro {σ : St} {H : Hp} {A B : Hp → Prop} (h : A H) : tTrue σ H (fun b H5 => if b = true then A H5 else B H5) := by
  show if true = true then A H else B H
  exact iteT h
theorem pif_nil {X : Cx} : PIf X [] tTrue := fun _ _ _ H _ I h => wpAny_tests_nil ⟨H, I, h⟩
theorem pif_one {X : Cx} {c : Expr} {t : TT} (h : PT X c t) : PIf X [c] t := fun pins s σ H Q I q => wpAny_tests_one (h pins s σ H Q I q)
def CapKeep (a b : St) : Prop := b.length = a.length ∧ ∀ (k : Nat) v, a[k]? = some (some v) → b[k]? = some (some v)
theorem CapKeep.set {a : St} {i : Nat} {v : Option V} (h : a[i]? = some none) : CapKeep a (a.set i v) :=
  ⟨List.length_set, fun k u e => by
    by_cases hk : i = k
    · subst hk; rw [h] at e; cases e
    · rw [List.getElem?_set_ne hk]; exact e⟩
theorem CapKeep.trans {a b c : St} (h : CapKeep a b) (g : CapKeep b c) : CapKeep a c := ⟨g.1.trans h.1, fun k v e => g.2 k v (h.2 k v e)⟩
theorem CapKeep.refl (a : St) : CapKeep a a := ⟨rfl, fun _ _ e => e⟩
def LCw (σ0 : St) (g : TG) (tc : TT) (te : TE) (Q : VK) (J : It) (H1 : Hp) : Prop :=
  ∀ D, H1 D = none → ∃ W : Nat → Nat → List V → Hp → Prop, (∃ m, W 0 m [] (upd H1 D (.lst []))) ∧ ∀ i m acc H2, W i m acc H2 →
    (J.stop i H2 ∧ Q (.ref D) H2) ∨ (J.go i H2 ∧ ∃ N : List V → Hp → Prop, (∀ acc' H', N acc' H' → ∃ m', m' < m ∧ W (i + 1) m' acc' H') ∧
      ∀ x H3, J.yld i H2 x H3 → g x σ0 H3 fun σ4 H4 => CapKeep σ0 σ4 ∧ tc σ4 H4 fun b H5 =>
        if b = true then te σ4 H5 fun y H6 => H6 D = some (.lst acc) ∧ acc.length < sizeLine ∧ N (acc ++ [y]) (upd H6 D (.lst (acc ++ [y]))) else N acc H5)
def tLC (caps : List (Option Nat)) (wi : TI) (g : TG) (tc : TT) (te : TE) : TE := fun σ H Q => wi σ H (LCw (startC caps σ) g tc te Q)
section
variable {X : Cx} {scope : Scope} {N' : List Str} {caps : List (Option Nat)} {elt tg iter : Expr} {ifs : List Expr} {pos : Pos} {wi : TI} {g : TG} {tc : TT} {te : TE}
theorem comp_block (hc : X.calm = true) (S : CScope X scope N' caps)
    (hb : ∀ (s : Shared) (H : Hp) (fp : List Addr), PG (cxC X scope N' s H fp) tg g ∧ PIf (cxC X scope N' s H fp) ifs tc ∧ PE (cxC X scope N' s H fp) elt te)
    {pins : List (Addr × Obj)} {s : Shared} {σ : St} {H : Hp} {J : It} {it : Addr} {fp : List Addr} {tn : Nat → Heap → Prop} {Q : VK} {E : Value → Shared → Prop} {RR : Value → Addr → Result → Shared → Prop}
    (I : Inv X pins σ H s) (T : Turn X.prog X.w X.K tg J fp it tn) (st : tn 0 s.heap) (hf : ∀ b ∈ fp, FpOk X pins H b) (hw : LCw (startC caps σ) g tc te Q J H)
    (hRR : ∀ D C s' H', Inv X pins σ H' s' → (∃ m, s'.heap.Ns C m) → FpOk X pins H' C → Q (.ref D) H' → RR (.ref D) C (.ok .next) s') :
    wpAny (model X.prog X.w) X.A (newList []) (fun acc s₃ => wpAny (model X.prog X.w) X.A (newFunctionEnv scope X.env.globals (clFor X.env.cells scope.names []) [] X.env.qual none .none (some X.env)) (fun cenv s₄ =>
      codeAny (model X.prog X.w) X.A (.compStart (.ListComp elt [⟨tg, iter, ifs, 0⟩] scope pos) 0 (.ref it) acc { cenv with scope := relabel scope X.env }) (RR acc cenv.locals) s₄) E s₃) E s := by
  refine wpAny_newObj_type ?_
  have hDn : H s.heap.objs.size = none := I.fresh
  have I3 : Inv X pins σ (upd H s.heap.objs.size (.lst [])) { s with heap := s.heap.push { cls := .type "list", data := .seq ([] : List Value).toArray } } := I.lnew (t' := s.toks) .nil (Nat.zero_le _)
  have fo : ∀ b ∈ fp, ∃ o, s.heap.get? b = some o := fun b hb => let ⟨o, e, _⟩ := T.obj _ _ st b hb; ⟨o, e⟩
  have fne : ∀ b ∈ fp, b ≠ s.heap.objs.size := fun b hb => let ⟨o, e⟩ := fo b hb; Nat.ne_of_lt (Heap.lt_size e)
  have f3 : ∀ b ∈ fp, FpOk X pins (upd H s.heap.objs.size (.lst [])) b := fun b hb => ⟨by rw [upd_ne (fne b hb)]; exact (hf b hb).1, (hf b hb).2⟩
  have push3 : ∀ b o, s.heap.get? b = some o → (s.heap.push { cls := .type "list", data := .seq ([] : List Value).toArray }).get? b = some o := fun b o e => Heap.get?_push_of_some _ e
  have fo3 : ∀ b ∈ fp, ∃ o, (s.heap.push { cls := .type "list", data := .seq ([] : List Value).toArray }).get? b = some o := fun b hb => let ⟨o, e⟩ := fo b hb; ⟨o, push3 b o e⟩
  have st3 : tn 0 (s.heap.push { cls := .type "list", data := .seq ([] : List Value).toArray }) := T.keep _ _ _ st fun b _ o e => push3 b o e
  have u3 : Un (frs X.stack) fp H (upd H s.heap.objs.size (.lst [])) s.heap (s.heap.push { cls := .type "list", data := .seq ([] : List Value).toArray }) := Un.laid push3 (Nat.le_refl _) hDn
  generalize hD : s.heap.objs.size = D at *
  generalize hs3 : ({ s with heap := s.heap.push { cls := .type "list", data := .seq ([] : List Value).toArray } } : Shared) = s3 at *
  have os3 : s3.os = s.os := by rw [← hs3]
  have hp3 : s.heap.push { cls := .type "list", data := .seq ([] : List Value).toArray } = s3.heap := by rw [← hs3]
  rw [hp3] at st3 u3 fo3
  have sz3 : s.heap.objs.size ≤ s3.heap.objs.size := by rw [← hp3, Heap.size_push]; exact Nat.le_succ _
  refine wpAny_newFunctionEnv_comp ?_
  have J0 := inv_comp I3 S f3 fo3
  have st4 : tn 0 (pushCells (s3.heap.push { cls := .type "dict", data := .dict #[] }) scope.names) := T.keep _ _ _ st3 fun b _ o e => pushCells_keeps _ _ b o (Heap.get?_push_of_some _ e)
  generalize hs4 : ({ s3 with heap := pushCells (s3.heap.push { cls := .type "dict", data := .dict #[] }) scope.names } : Shared) = s4 at *
  have st4' : tn 0 s4.heap := by rw [← hs4]; exact st4
  obtain ⟨W, ⟨m0, w0⟩, turn⟩ := hw D hDn
  obtain ⟨hPG, hPI, hPE⟩ := hb s3 (upd H D (.lst [])) fp
  have stat : ∀ {σ' : St} {H' : Hp} {s' : Shared}, Inv (cxC X scope N' s3 (upd H D (.lst [])) fp) [] σ' H' s' → (∀ b ∈ fp, H' b = none) → ∀ b ∈ fp, FpOk (cxC X scope N' s3 (upd H D (.lst [])) fp) [] H' b := fun K hn b hb =>
    ⟨hn b hb, (K.ok.exf b hb).1, K.ok.exfs b hb, .inl hb, (K.ok.exf b hb).2, fun p hp => absurd (show p ∈ ([] : List (Addr × Obj)) from hp) (by simp)⟩
  have loop : codeAny (model X.prog X.w) X.A (.compLoop (.ListComp elt [⟨tg, iter, ifs, 0⟩] scope pos) 0 (.ref it) (.ref D) (cxC X scope N' s3 (upd H D (.lst [])) fp).env) (RR (.ref D) s3.heap.objs.size) s4 := by
    refine codeAny_compLoop_tgt (fun n s' => ∃ i acc H', Inv (cxC X scope N' s3 (upd H D (.lst [])) fp) [] (startC caps σ) H' s' ∧ tn i s'.heap ∧ (∀ b ∈ fp, H' b = none) ∧ W i n acc H') ?_ m0
      ⟨0, [], _, J0, st4', fun b hb => (f3 b hb).1, w0⟩
    rintro n s5 ⟨i, acc, H5, J5, st5, fr5, w5⟩
    rcases turn i n acc H5 w5 with ⟨stop, q⟩ | ⟨go, N, hN, step⟩
    · refine thn (T.done (cxC X scope N' s3 (upd H D (.lst [])) fp) rfl rfl rfl hc i [] s5 _ H5 (fun _ _ => False) J5 (stat J5 fr5) st5 stop) fun r s6 ⟨hr, J6⟩ => ?_
      subst hr
      refine hRR D s3.heap.objs.size s6 H5 (I.comp_end os3 u3 hf J6) ?_ (I.fpOk sz3 J6.free) q
      obtain ⟨m, hn, _⟩ := J6.loc
      exact ⟨m, hn⟩
    · refine thn (T.item (cxC X scope N' s3 (upd H D (.lst [])) fp) rfl rfl rfl hc i [] s5 _ H5 (fun _ _ => False) J5 (stat J5 fr5) st5 go) fun r s6 ⟨u, hr, h6⟩ => ?_
      subst hr
      refine thn h6 fun _ s7 ⟨x, H7, J7, r7, y7, st7, fr7⟩ => ?_
      have J7' := J7.pinned (stat J7 fr7) (T.obj _ _ st7)
      have again : ∀ {σ9 : St} {H9 : Hp} {s9 : Shared} {acc9 : List V}, CapKeep (startC caps σ) σ9 → Inv (cxC X scope N' s3 (upd H D (.lst [])) fp) ([] ++ pinsAt fp s7.heap) σ9 H9 s9 → N acc9 H9 →
          ∃ m, m < n ∧ ∃ i acc H', Inv (cxC X scope N' s3 (upd H D (.lst [])) fp) [] (startC caps σ) H' s9 ∧ tn i s9.heap ∧ (∀ b ∈ fp, H' b = none) ∧ W i m acc H' := fun {σ9 H9 s9 acc9} ck J9 n9 => by
        obtain ⟨m', hm, w9⟩ := hN acc9 H9 n9
        refine ⟨m', hm, i + 1, acc9, H9, J9.unpinned.weak ck.1.symm ck.2, T.keep _ _ _ st7 fun b hb o e => (J9.pin (b, o) (List.mem_append_right _ (List.mem_append_right _ (mem_pinsAt hb e)))).1, fun b hb => ?_, w9⟩
        obtain ⟨o, e, d⟩ := T.obj _ _ st7 b hb
        exact (J9.pin (b, o) (List.mem_append_right _ (List.mem_append_right _ (mem_pinsAt hb e)))).2.1
      refine thn (hPG _ s7 _ H7 x u _ J7' r7 (step x H7 y7)) fun _ s8 ⟨σ8, H8, J8, ck, q8⟩ => ?_
      refine thn (hPI _ s8 σ8 H8 _ J8 q8) fun b s9 ⟨H9, J9, q9⟩ => ?_
      cases b with
      | false => exact again ck J9 q9
      | true =>
        refine thn (hPE _ s9 σ8 H9 _ J9 q9) fun y s10 ⟨yv, H10, J10, r10, hD10, hz, q10⟩ => ?_
        refine thn (mt_append _ s10 σ8 H10 (.ref D) [yv] (.ref D) [y] (fun _ H11 => N (acc ++ [yv]) H11) J10 rfl (.cons r10 .nil) ⟨D, acc, yv, rfl, rfl, hD10, hz, q10⟩) fun _ s11 ⟨_, H11, J11, _, q11⟩ => ?_
        exact again ck J11 q11
  exact codeAny_compStart_list loop (T.self _ 0 _ _ _ st4' loop)
theorem pe_lc (hc : X.calm = true) (S : CScope X scope N' caps) (hi : PI X tg iter wi)
    (hb : ∀ (s : Shared) (H : Hp) (fp : List Addr), PG (cxC X scope N' s H fp) tg g ∧ PIf (cxC X scope N' s H fp) ifs tc ∧ PE (cxC X scope N' s H fp) elt te)
    (hs : ∀ x, foldedSetIterable iter X.env x = pure x := by intro _; rfl) : PE X (.ListComp elt [⟨tg, iter, ifs, 0⟩] scope pos) (tLC caps wi g tc te) := by
  intro pins s σ H Q I h
  rw [eval_ListComp]
  refine wpAny_comprehension_free (use := none) rfl hs (S.clos I.ok) S.kind S.names (thn (hi pins s σ H _ I h) fun v s1 h1 => thn h1 fun itv s2 h2 => ?_)
  obtain ⟨it, fp, tn, J, H2, e, I2, T, st2, f2, hw⟩ := h2
  subst e
  refine comp_block (RR := fun acc C => compPost (model X.prog X.w) X.A X.xe none (EP X pins σ Q) acc C) hc S hb I2 T st2 f2 hw ?_
  intro D C s' H' I' ns fC q
  obtain ⟨m, hn⟩ := ns
  refine ⟨m, hn, fun h' hsb => ⟨.ref D, H', ?_, rfl, q⟩⟩
  obtain ⟨c0, c1, c2, c3, c4, c5⟩ := fC
  exact I'.turned (t' := s'.toks) (fun b o hb e => (hsb.2 b hb).trans e) c0 c1 c3 c4 c5
theorem ps_setLC {i : Nat} {y : Str} {pos' spos : Pos} (hN : X.N.Nodup) (hiy : X.N[i]? = some y) (hy : Loc X.env.scope y) (hc : X.calm = true) (S : CScope X scope N' caps) (hi : PI X tg iter wi)
    (hb : ∀ (s : Shared) (H : Hp) (fp : List Addr), PG (cxC X scope N' s H fp) tg g ∧ PIf (cxC X scope N' s H fp) ifs tc ∧ PE (cxC X scope N' s H fp) elt te)
    (hsw : swapsWith (.ListComp elt [⟨tg, iter, ifs, 0⟩] scope pos) (some (.Name y pos')) spos.line X.env = pure true := by rfl)
    (hs : ∀ x, foldedSetIterable iter X.env x = pure x := by intro _; rfl)
    (hfn : X.fn y = true ∨ X.env.scope.names.lookup y = some .local := by first | exact .inl rfl | exact .inr rfl | assumption) :
    PS X (.Assign [.Name y pos'] (.ListComp elt [⟨tg, iter, ifs, 0⟩] scope pos) spos) (tAsg (tLC caps wi g tc te) (gName i)) := by
  intro pins s σ H D I h
  rw [exec_Assign_Name_used _ _ _ _ hsw]; refine wpAny_bind (wpAny_standAt (wpAny_bind ?_))
  show wpAny _ X.A (do let _ ← comprehension (.ListComp elt [⟨tg, iter, ifs, 0⟩] scope pos) scope X.env _ (newList []) false (eval iter X.env) (some (assign (.Name y pos') X.env))) _ _ s
  refine wpAny_bind (wpAny_mono (wpAny_comprehension_free (use := some (assign (.Name y pos') X.env)) (Q := fun _ s' => SP X pins D .next s') rfl hs (S.clos I.ok) S.kind S.names
    (thn (hi pins s σ H _ I h) fun v s1 h1 => thn h1 fun itv s2 h2 => ?_)) (fun _ s' hq => wpAny_pure (wpAny_pure hq)) fun _ _ e => e)
  obtain ⟨it, fp, tn, J, H2, e, I2, T, st2, f2, hw⟩ := h2
  subst e
  refine comp_block (RR := fun acc C => compPost (model X.prog X.w) X.A X.xe (some (assign (.Name y pos') X.env)) (fun _ s' => SP X pins D .next s') acc C) hc S hb I2 T st2 f2 hw ?_
  intro Da C s' H' I' ns fC q
  obtain ⟨m, hn⟩ := ns
  obtain ⟨c0, c1, c2, c3, c4, c5⟩ := fC
  refine wpAny_assign_Name (store_ok2 I' hN hiy hy (v := .ref Da) (u := .ref Da) rfl (fun s'' I'' ch => ?_) hfn)
  obtain ⟨a, sb, ha⟩ := ch
  have haC : C ≠ a := by
    rcases ha with z | z
    · rw [z]; exact c1.symm.symm
    · exact (c4 y a z).symm
  refine ⟨m, hn.sameBut sb haC, fun h' hsb => ⟨_, H', ?_, q⟩⟩
  exact I''.turned (t' := s''.toks) (fun b o hb e => (hsb.2 b hb).trans e) c0 c1 c3 c4 c5
end
theorem lc_range {lo : Int} {n : Nat} {σ0 : St} {g : TG} {tc : TT} {te : TE} {Q : VK} {H1 : Hp} (Pv : Addr → Nat → List V → Hp → Prop)
    (h0 : ∀ D, H1 D = none → Pv D 0 [] (upd H1 D (.lst [])))
    (hs : ∀ D i acc H2, i < n → Pv D i acc H2 → g (.int (lo + i)) σ0 H2 fun σ4 H4 => CapKeep σ0 σ4 ∧ tc σ4 H4 fun b H5 =>
      if b = true then te σ4 H5 fun y H6 => H6 D = some (.lst acc) ∧ acc.length < sizeLine ∧ Pv D (i + 1) (acc ++ [y]) (upd H6 D (.lst (acc ++ [y]))) else Pv D (i + 1) acc H5)
    (hd : ∀ D acc H2, Pv D n acc H2 → Q (.ref D) H2) : LCw σ0 g tc te Q (Itr lo n) H1 := by
  intro D hD
  refine ⟨fun i m acc H => m = n - i ∧ i ≤ n ∧ Pv D i acc H, ⟨n, by simp, Nat.zero_le _, h0 D hD⟩, ?_⟩
  rintro i m acc H2 ⟨rfl, hi, p⟩
  by_cases hlt : i < n
  · refine .inr ⟨hlt, Pv D (i + 1), fun acc' H' p' => ⟨n - (i + 1), by omega, rfl, hlt, p'⟩, fun x H' y => ?_⟩
    obtain ⟨e, y⟩ := y
    subst e y
    exact hs D i acc _ hlt p
  · have e : i = n := by omega
    subst e
    exact .inl ⟨Nat.le_refl _, hd D acc H2 p⟩
theorem lc_list {K : PySem.W.Frag} {a : Addr} {xs : List V} {σ0 : St} {g : TG} {tc : TT} {te : TE} {Q : VK} {H1 : Hp} (Pv : Addr → Nat → List V → Hp → Prop)
    (h0 : ∀ D, H1 D = none → Pv D 0 [] (upd H1 D (.lst []))) (hl : ∀ D i acc H, i ≤ xs.length → Pv D i acc H → SqL K H a xs)
    (hs : ∀ D i x acc H2, xs[i]? = some x → Pv D i acc H2 → g x σ0 H2 fun σ4 H4 => CapKeep σ0 σ4 ∧ tc σ4 H4 fun b H5 =>
      if b = true then te σ4 H5 fun y H6 => H6 D = some (.lst acc) ∧ acc.length < sizeLine ∧ Pv D (i + 1) (acc ++ [y]) (upd H6 D (.lst (acc ++ [y]))) else Pv D (i + 1) acc H5)
    (hd : ∀ D acc H2, Pv D xs.length acc H2 → Q (.ref D) H2) : LCw σ0 g tc te Q (Itl K a) H1 := by
  intro D hD
  refine ⟨fun i m acc H => m = xs.length - i ∧ i ≤ xs.length ∧ Pv D i acc H, ⟨xs.length, by simp, Nat.zero_le _, h0 D hD⟩, ?_⟩
  rintro i m acc H2 ⟨rfl, hi, p⟩
  have q := hl D i acc H2 hi p
  by_cases hlt : i < xs.length
  · refine .inr ⟨⟨xs, xs[i], q, by simp [hlt]⟩, Pv D (i + 1), fun acc' H' p' => ⟨xs.length - (i + 1), by omega, rfl, hlt, p'⟩, fun x H' y => ?_⟩
    obtain ⟨e, y⟩ := y
    subst e
    exact hs D i x acc _ (y xs q) p
  · have e : i = xs.length := by omega
    subst e
    exact .inl ⟨⟨xs, q, Nat.le_refl _⟩, hd D acc H2 p⟩
end L2
namespace L2
open PySem PySem.Spec PyProof.Rows
theorem Vals.insertAt {x : V} {u : Value} (r : RelV x u) {xs : List V} {us : List Value} (k : Nat) (h : Vals xs us) : Vals (xs.take k ++ x :: xs.drop k) (us.take k ++ u :: us.drop k) :=
  (h.take k).append (.cons r (h.drop k))
section
variable {X : Cx}
def rInsert : V → List V → Hp → VK → Prop := fun x vs H Q => ∃ l xs i y, x = .ref l ∧ vs = [.int i, y] ∧ H l = some (.lst xs) ∧ 0 ≤ i ∧ i ≤ xs.length ∧ xs.length < sizeLine ∧ Q .non (upd H l (.lst (xs.take i.toNat ++ y :: xs.drop i.toNat)))
theorem mt_insert : MtM X "list.insert" rInsert := by
  intro pins s σ H x vs v us Q I rx rv h
  obtain ⟨l, xs, i, y, rfl, rfl, hH, h0, h1, hz, q⟩ := h
  cases rx
  obtain ⟨u, u2, rfl, ru, ru2⟩ := rv.two
  obtain ⟨t, rfl⟩ := ru
  obtain ⟨z, its, n, r, hl, e⟩ := I.lstM hH
  have hn := line63
  refine call_meets F.slot_list_insert ⟨_, e, rfl⟩ F.entry_list_insert (F.args_list_insert_3 _ _ _)
    (AutoSeq1.list_insert_list_int_val_1 l its.toArray n i t u2 (by rw [fitsIndex_both (by omega) (by omega)]; decide) (by rw [List.size_toArray]; omega)) ⟨e, ?_⟩
  refine ⟨.non, _, I.lset (its' := its.take i.toNat ++ u2 :: its.drop i.toNat) hH e ?_ (r.insertAt ru2 i.toNat) ?_, rfl, q⟩
  · have hk : min i.toNat its.toArray.size = i.toNat := by rw [List.size_toArray]; omega
    have hneg : ¬ i < 0 := by omega
    show (its.toArray.extract 0 (if i < 0 then _ else min i.toNat its.toArray.size)).push u2 ++ its.toArray.extract (if i < 0 then _ else min i.toNat its.toArray.size) its.toArray.size = _
    rw [if_neg hneg, hk]
    apply Array.toList_inj.mp
    simp [Array.toList_extract, List.extract_eq_drop_take]
    exact List.take_of_length_le (by rw [List.length_drop]; exact Nat.le_refl _)
  · rw [List.length_append, List.length_cons, List.length_take, List.length_drop]
    omega
def rSorted (K : PySem.W.Frag) : List V → Hp → VK → Prop := fun xs H Q => ∃ (p : Addr) (ns : List Int), xs = [.ref p] ∧ SqL K H p (ns.map V.int) ∧ ns.length < 64 ∧
  ∀ (l : Addr) (ns' : List Int), H l = none → ns'.Perm ns → ns'.Pairwise (· ≤ ·) → Q (.ref l) (upd H l (.lst (ns'.map V.int)))
theorem call_sorted : CallR X (.builtin "sorted") (rSorted X.K) := by
  intro pins s σ H xs us Q I r h
  obtain ⟨p, ns, rfl, hq, h64, q⟩ := h
  obtain ⟨u, rfl, rx⟩ := vals1 r
  cases rx
  obtain ⟨its, r', pl, hz⟩ := I.list hq
  have hlen := r'.length
  rw [List.length_map] at hlen hz
  refine sorted_ints pl.isList (intsAre_of r') (by omega) fun out ns' a1 a2 a3 => ?_
  obtain ⟨e, he⟩ := sortedAll_at s.heap its out
  have hl' : ns'.length = ns.length := a2.length_eq
  refine ⟨.ref (s.heap.objs.size + 1), _, I.laid (t' := s.toks) (fun b o => sortedAll_old) (Nat.le_succ _) (show ObjOk X.prog X.w _ _ _ (.lst (ns'.map V.int)) from ⟨?_, out.toList, e, vals_ints a1, ?_⟩), rfl, q _ _ (I.hok.fresh (Nat.le_succ _)) a2 a3⟩
  · rw [List.length_map]; omega
  · exact he
theorem call_isinst : CallR X (.builtin "isinstance") (fun xs H Q => ∃ x t T b, xs = [x, .ty T] ∧ TyOf X.K H x t ∧ PySem.W.kitOne X.K t (.type T) = some b ∧ Q (.bl b) H) := by
  intro pins s σ H xs us Q I r h
  obtain ⟨x, t, T, b, rfl, ty, e, q⟩ := h
  obtain ⟨u, u2, rfl, rx, ry⟩ := vals2 r
  cases ry
  exact isinst_ok I rx ty e fun tk => ⟨.bl b, H, I.tok _, rfl, q⟩
theorem range_all_eq : ∀ (xs ys : List Int), xs.length = ys.length → ((List.range xs.length).all fun j => xs.getD j 0 == ys.getD j 0) = decide (xs = ys) := by
  intro xs ys h
  rw [Bool.eq_iff_iff, List.all_eq_true, decide_eq_true_iff]
  constructor
  · intro q
    apply List.ext_getElem h
    intro i h1 h2
    have := q i (List.mem_range.mpr h1)
    simpa [List.getD_eq_getElem?_getD, List.getElem?_eq_getElem h1, List.getElem?_eq_getElem h2] using this
  · rintro rfl j _
    simp
theorem eqAt_ints {pins : List (Addr × Obj)} {σ : St} {H : Hp} {s : Shared} {A : Around} {a b : Addr} {ns ms : List Int} (I : Inv X pins σ H s) (ha : SqL X.K H a (ns.map V.int)) (hb : SqL X.K H b (ms.map V.int)) (hu : A.units < cLine) :
    SeqAt.RcAt A s (.ref a) (.ref b) (decide (ns = ms)) := by
  obtain ⟨its, r1, p1, z1⟩ := I.list ha
  obtain ⟨its2, r2, p2, z2⟩ := I.list hb
  have l1 := r1.length
  have l2 := r2.length
  rw [List.length_map] at l1 l2
  by_cases hl : ns.length = ms.length
  · have hsz : its.toArray.size = its2.toArray.size := by simp only [List.size_toArray]; omega
    have q := SeqAt.RcAt.lists (A := A) (e := fun j => ns.getD j 0 == ms.getD j 0) p1.isList p2.isList hsz hu (fun j h1 h2 => by
      have h1' : j < its.length := by simpa using h1
      have h2' : j < its2.length := by simpa using h2
      have g1 : (ns.map V.int)[j]? = some (.int (ns.getD j 0)) := by
        rw [List.getElem?_map, List.getElem?_eq_getElem (by omega : j < ns.length)]
        simp [List.getD_eq_getElem?_getD, List.getElem?_eq_getElem (by omega : j < ns.length)]
      have g2 : (ms.map V.int)[j]? = some (.int (ms.getD j 0)) := by
        rw [List.getElem?_map, List.getElem?_eq_getElem (by omega : j < ms.length)]
        simp [List.getD_eq_getElem?_getD, List.getElem?_eq_getElem (by omega : j < ms.length)]
      obtain ⟨u1, e1, t1, rfl⟩ := r1.get g1
      obtain ⟨u2, e2, t2, rfl⟩ := r2.get g2
      have f1 : its.toArray[j] = Value.int (ns.getD j 0) t1 := by
        rw [List.getElem?_eq_getElem h1'] at e1; simpa using e1
      have f2 : its2.toArray[j] = Value.int (ms.getD j 0) t2 := by
        rw [List.getElem?_eq_getElem h2'] at e2; simpa using e2
      rw [f1, f2]
      exact SeqAt.EqAt.int_int _ _ _ _)
    rw [List.size_toArray, ← l1, range_all_eq ns ms hl] at q
    exact q
  · rw [decide_eq_false (fun e => hl (by rw [e]))]
    exact SeqAt.RcAt.lists_lengths p1.isList p2.isList (by simp only [List.size_toArray, bne_iff_ne]; omega) hu
def rEqInts (K : PySem.W.Frag) : R2 := fun x y H Q => ∃ (a b : Addr) (ns ms : List Int), x = .ref a ∧ y = .ref b ∧ SqL K H a (ns.map V.int) ∧ SqL K H b (ms.map V.int) ∧ Q (.bl (decide (ns = ms))) H
theorem op_eq_ints (hu : X.A.units < cLine) : OpR X (compareOp .Eq) (rEqInts X.K) := by
  intro pins s σ H x y v u Q I rx ry h
  obtain ⟨a, b, ns, ms, rfl, rfl, ha, hb, q⟩ := h
  cases rx; cases ry
  exact eqAt_ints I ha hb hu X.prog X.w X.xe _ ⟨.bl _, H, I, rfl, q⟩
def RowsAt (K : PySem.W.Frag) (H : Hp) (as : List Addr) (rows : List (List Int)) : Prop := Paired (fun a (r : List Int) => SqL K H a (r.map V.int)) as rows
theorem RowsAt.length {K : PySem.W.Frag} {H : Hp} {as : List Addr} {rows : List (List Int)} (r : RowsAt K H as rows) : as.length = rows.length := Paired.length r
theorem RowsAt.get {K : PySem.W.Frag} {H : Hp} : ∀ {as : List Addr} {rows : List (List Int)} {i : Nat} {r : List Int}, RowsAt K H as rows → rows[i]? = some r → ∃ a, as[i]? = some a ∧ SqL K H a (r.map V.int)
  | _, _, _, _, .nil, e => by simp at e
  | _, _, 0, _, .cons r _, e => by simp at e; subst e; exact ⟨_, rfl, r⟩
  | _, _, i + 1, x, .cons _ t, e => by
    obtain ⟨u, h1, h2⟩ := RowsAt.get (i := i) (r := x) t (by simpa using e)
    exact ⟨u, by simpa using h1, h2⟩
theorem RowsAt.getA {K : PySem.W.Frag} {H : Hp} : ∀ {as : List Addr} {rows : List (List Int)} {i : Nat} {a : Addr}, RowsAt K H as rows → as[i]? = some a → ∃ r, rows[i]? = some r ∧ SqL K H a (r.map V.int)
  | _, _, _, _, .nil, e => by simp at e
  | _, _, 0, _, .cons r _, e => by simp at e; subst e; exact ⟨_, rfl, r⟩
  | _, _, i + 1, x, .cons _ t, e => by
    obtain ⟨u, h1, h2⟩ := RowsAt.getA (i := i) (a := x) t (by simpa using e)
    exact ⟨u, by simpa using h1, h2⟩
theorem range_all_rows : ∀ (xs ys : List (List Int)), xs.length = ys.length → ((List.range xs.length).all fun j => decide (xs.getD j [] = ys.getD j [])) = decide (xs = ys) := by
  intro xs ys h
  rw [Bool.eq_iff_iff, List.all_eq_true, decide_eq_true_iff]
  constructor
  · intro q
    apply List.ext_getElem h
    intro i h1 h2
    have := q i (List.mem_range.mpr h1)
    simpa [List.getD_eq_getElem?_getD, List.getElem?_eq_getElem h1, List.getElem?_eq_getElem h2] using this
  · rintro rfl j _
    simp
def rEqRows (K : PySem.W.Frag) : R2 := fun x y H Q => ∃ (p q : Addr) (as bs : List Addr) (ns ms : List (List Int)), x = .ref p ∧ y = .ref q ∧ SqL K H p (as.map V.ref) ∧ SqL K H q (bs.map V.ref) ∧ RowsAt K H as ns ∧ RowsAt K H bs ms ∧ Q (.bl (decide (ns = ms))) H
theorem op_eq_rows (hu : X.A.units + 1 < cLine) : OpR X (compareOp .Eq) (rEqRows X.K) := by
  intro pins s σ H x y v u Q I rx ry h
  obtain ⟨p, q, as, bs, ns, ms, rfl, rfl, ha, hb, rn, rm, qq⟩ := h
  cases rx; cases ry
  obtain ⟨its, r1, p1, z1⟩ := I.list ha
  obtain ⟨its2, r2, p2, z2⟩ := I.list hb
  have l1 := r1.length
  have l2 := r2.length
  rw [List.length_map] at l1 l2
  have ln := rn.length
  have lm := rm.length
  have hu1 : X.A.in1.units < cLine := by
    have : X.A.in1.units ≤ X.A.units + 1 := by first | exact Nat.le_refl _ | simp [Around.in1]
    omega
  by_cases hl : ns.length = ms.length
  · have hsz : its.toArray.size = its2.toArray.size := by simp only [List.size_toArray]; omega
    refine SeqAt.eq_listAt (e := fun j => decide (ns.getD j [] = ms.getD j [])) p1.isList p2.isList hsz (by omega) (fun j h1 h2 => ?_) ?_
    · have h1' : j < its.length := by simpa using h1
      have h2' : j < its2.length := by simpa using h2
      obtain ⟨a, ea, sa⟩ := rn.get (i := j) (r := ns.getD j []) (by rw [List.getElem?_eq_getElem (by omega : j < ns.length)]; simp [List.getD_eq_getElem?_getD, List.getElem?_eq_getElem (by omega : j < ns.length)])
      obtain ⟨b, eb, sb⟩ := rm.get (i := j) (r := ms.getD j []) (by rw [List.getElem?_eq_getElem (by omega : j < ms.length)]; simp [List.getD_eq_getElem?_getD, List.getElem?_eq_getElem (by omega : j < ms.length)])
      have g1 : (as.map V.ref)[j]? = some (.ref a) := by rw [List.getElem?_map, ea]; rfl
      have g2 : (bs.map V.ref)[j]? = some (.ref b) := by rw [List.getElem?_map, eb]; rfl
      obtain ⟨u1, e1, q1⟩ := r1.get g1
      obtain ⟨u2, e2, q2⟩ := r2.get g2
      cases q1; cases q2
      have f1 : its.toArray[j] = Value.ref a := by
        rw [List.getElem?_eq_getElem h1'] at e1; simpa using e1
      have f2 : its2.toArray[j] = Value.ref b := by
        rw [List.getElem?_eq_getElem h2'] at e2; simpa using e2
      rw [f1, f2]
      by_cases hab : a = b
      · subst hab
        have hm : (ns.getD j []).map V.int = (ms.getD j []).map V.int := I.list_inj sa sb
        have hm' : ns.getD j [] = ms.getD j [] := (List.map_inj_right (fun x y h => by injection h)).mp hm
        rw [decide_eq_true hm']
        exact SeqAt.EqAt.same _
      · exact SeqAt.EqAt.of_refs hab (eqAt_ints I sa sb hu1)
    · rw [List.size_toArray, ← l1, ln, range_all_rows ns ms hl]
      exact ⟨.bl _, H, I, rfl, qq⟩
  · refine SeqAt.eq_list_lengthsAt p1.isList p2.isList (by simp only [List.size_toArray, bne_iff_ne]; omega) (by omega) ?_
    rw [decide_eq_false (fun e => hl (by rw [e]))] at qq
    exact ⟨.bl _, H, I, rfl, qq⟩
def Ite (K : PySem.W.Frag) (a : Addr) : It :=
  ⟨fun i H => ∃ xs x, SqL K H a xs ∧ xs[i]? = some x, fun i H x H' => ∃ p v, H p = none ∧ x = .ref p ∧ H' = upd H p (.tup [.int i, v]) ∧ ∀ xs, SqL K H a xs → xs[i]? = some v, fun i H => ∃ xs, SqL K H a xs ∧ xs.length ≤ i⟩
theorem turn_enum {P : Program} {w : World} {K : PySem.W.Frag} {es : List Expr} {k : Nat} {pos : Pos} (a e it : Addr) (hne : e ≠ it) : Turn P w K (.Tuple es k pos) (Ite K a) [e, it] e (fun i h => ∃ old, IsEnum h e it i old ∧ h.IsListIter it a i) where
  mem := by simp
  obj := fun i h st b hb => by
    obtain ⟨old, s1, o, s2, c, d⟩ := st
    rcases List.mem_cons.mp hb with rfl | hb
    · exact ⟨_, s1, fun v z => by cases (show Data.fields _ = Data.cell v from z)⟩
    · have e : b = it := by simpa using hb
      subst e
      exact ⟨o, s2, fun v z => by rw [d] at z; cases z⟩
  keep := fun i h h' st kk => by
    obtain ⟨old, s1, s2⟩ := st
    exact ⟨old, kk e (by simp) _ s1, s2.at fun o q => kk it (by simp) o q⟩
  item := by
    intro X hP hw hK hc i pins s σ H E I hf st hg
    subst hP hw hK
    obtain ⟨xs, x, hq, hx⟩ := hg
    obtain ⟨old, s1, s2⟩ := st
    obtain ⟨its, rv, p, hz⟩ := I.list hq
    obtain ⟨u, hu, ru⟩ := rv.get hx
    obtain ⟨f0, f1, f2, f3, f4, f5⟩ := hf e (by simp)
    obtain ⟨g0, g1, g2, g3, g4, g5⟩ := hf it (by simp)
    have elt : e < s.heap.objs.size := Heap.lt_size s1
    refine wpAny_pyNext_enum_item s1 s2 p.isList (x := u) (by simpa using hu) hne fun h1 o1 i1 t1 z1 k1 => ?_
    refine ⟨_, rfl, wpAny_letOwnedTupleGo_enum o1 fun h2 e2 sb => ?_⟩
    replace sb : Heap.SameBut e h1 h2 := sb
    have k2 : ∀ b o, b ≠ e → b ≠ it → s.heap.get? b = some o → h2.get? b = some o := fun b o hb hb2 q => (sb.2 b hb).trans (k1 b o hb hb2 q)
    have nb : ∀ b o, H b = some o → b ≠ e ∧ b ≠ it := fun b o q => And.intro (fun z => by rw [z, f0] at q; cases q) (fun z => by rw [z, g0] at q; cases q)
    have ht : h2.get? s.heap.objs.size = some { cls := .type "tuple", data := .seq #[.int i s.toks, u] } := (sb.2 _ (Nat.ne_of_gt elt)).trans t1
    have hfr : H s.heap.objs.size = none := I.fresh
    have itlt : it < s.heap.objs.size := by obtain ⟨o, q, _⟩ := s2; exact Heap.lt_size q
    have hokH : HOk X.prog X.w (upd H s.heap.objs.size (.tup [.int i, x])) h2 := fun b ob q => by
      by_cases hb : b = s.heap.objs.size
      · subst hb
        rw [upd_same] at q
        cases q
        exact ⟨by show 2 ≤ sizeLine; decide, [.int i s.toks, u], .cons ⟨_, rfl⟩ (.cons ru .nil), ⟨_, ht, rfl, 0, rfl⟩⟩
      · rw [upd_ne hb] at q
        refine (I.hok b ob q).stay (fun c v hcc qq => ?_) (fun c q => by rw [upd_ne (ne_of_none q hfr)]; exact q) fun c ys q => by rw [upd_ne (ne_of_none q hfr)]; exact q
        have hn : c ≠ e ∧ c ≠ it := by
          rcases hcc with z | z
          · rw [z]; exact nb b ob q
          · exact nb c _ z
        exact k2 c v hn.1 hn.2 qq
    have I2 : Inv X pins σ (upd H s.heap.objs.size (.tup [.int i, x])) { s with heap := h2, toks := s.toks + 1 } := by
      refine I.step (g' := s.gens) (d' := s.drawn) (ch := [e, it]) (fun b hb => ?_) (fun b o _ _ hc q _ => k2 b o (fun z => hc (by simp [z])) (fun z => hc (by simp [z])) q) (fun b o _ _ hc q _ => ⟨o.slots, k2 b o (fun z => hc (by simp [z])) (fun z => hc (by simp [z])) q⟩)
        (fun b o _ q n => by rw [upd_ne (Nat.ne_of_lt (Heap.lt_size q))]; exact n)
        (fun b o hc q => ?_) (fun b ys q => by rw [upd_ne (ne_of_none q hfr)]; exact q) (fun b o u q => by rw [upd_ne (ne_of_none q hfr)]; exact q) (fun b ps q => ⟨#[], by rw [upd_ne (ne_of_none q hfr), q]; simp⟩) (fun m hm => ?_) hokH I.bare
      · rcases List.mem_cons.mp hb with rfl | hb
        · exact ⟨f3, f1, f4, f5⟩
        · have q : b = it := by simpa using hb
          subst q
          exact ⟨g3, g1, g4, g5⟩
      · exact ⟨o, k2 b o (fun z => hc (by simp [z])) (fun z => hc (by simp [z])) q⟩
      · obtain ⟨o, es', ep, ho, r⟩ := hm
        exact ⟨o, es', ep, k2 _ o f1.symm g1.symm ho, r⟩
    refine ⟨.ref s.heap.objs.size, _, I2, rfl, ⟨_, x, hfr, rfl, rfl, fun ys hy => by rw [I.list_inj hy hq]; exact hx⟩, ⟨u, ?_, i1.extBut sb.extBut hne.symm⟩, fun b hb => ?_⟩
    · have e3 : IsEnum h2 e it ((i : Int) + 1) u := e2
      show IsEnum h2 e it ((i + 1 : Nat) : Int) u
      rw [Int.natCast_add]
      exact e3
    · rcases List.mem_cons.mp hb with rfl | hb
      · rw [upd_ne (Nat.ne_of_lt elt)]; exact f0
      · have q : b = it := by simpa using hb
        subst q
        rw [upd_ne (Nat.ne_of_lt itlt)]; exact g0
  done := by
    intro X hP hw hK hc i pins s σ H E I hf st hg
    subst hP hw hK
    obtain ⟨xs, hq, hx⟩ := hg
    obtain ⟨old, s1, s2⟩ := st
    obtain ⟨its, rv, p, hz⟩ := I.list hq
    obtain ⟨g0, g1, g2, g3, g4, g5⟩ := hf it (by simp)
    have hl := rv.length
    exact wpAny_pyNext_enum_end (I.ok.hd hc) s1 s2 p.isList (by simp; omega) fun h' eb => ⟨rfl, I.turned (t' := s.toks) (fun b o hb q => eb b o hb q) g0 g1 g3 g4 g5⟩
  self := fun _ _ _ _ _ st h => by
    obtain ⟨old, s1, _⟩ := st
    exact wpAny_pyIter_enum s1 h
def iEnum (K : PySem.W.Frag) (ta : TA) : TI := fun σ H R => ta σ H fun vs H1 => ∃ a, vs = [.ref a] ∧ (∃ xs, SqL K H1 a xs) ∧ R (Ite K a) H1
theorem pi_enum {es : List Expr} {k : Nat} {l : Expr} {ta : TA} {p pos pos' : Pos} (hg : Gl X "enumerate") (hm : X.mg "enumerate" = none) (ha : PA X [l] ta) (hs : starEach [l] X.env = [(false, eval l X.env)] := by rfl) :
    PI X (.Tuple es k pos') (.Call (.Name "enumerate" p) [l] [] pos) (iEnum X.K ta) := by
  intro pins s σ H R I h
  refine Call_ (ld_blt (u := .type "enumerate") I hg hm (by decide +kernel) (PyProof.Rows.callWith_type1 (thn (ha pos pins s σ H _ I h) fun us s1 ⟨vs, H1, I1, r1, q1⟩ => ?_) hs rfl))
  obtain ⟨a, e, ⟨xs, hq⟩, q⟩ := q1
  subst e
  obtain ⟨u, rfl, rx⟩ := vals1 r1
  cases rx
  obtain ⟨its, rv, pl, hz⟩ := I1.list hq
  refine call_enumerate_list pl.isList fun h' he hi hz' kp => wpAny_pyIter_enum he ?_
  refine ⟨s1.heap.objs.size + 1, [s1.heap.objs.size + 1, s1.heap.objs.size], _, _, H1, rfl, I1.kept (t' := s1.toks) kp, turn_enum a _ _ (Nat.succ_ne_self _), ⟨_, he, hi⟩, fun b hb => ?_, q⟩
  rcases List.mem_cons.mp hb with rfl | hb
  · exact I1.fpOk (Nat.le_succ _) (I1.hok.fresh (Nat.le_succ _))
  · have e : b = s1.heap.objs.size := by simpa using hb
    subst e
    exact I1.fpOk (Nat.le_refl _) (I1.hok.fresh (Nat.le_refl _))
theorem for_enum {K : PySem.W.Frag} {a : Addr} {xs : List V} {g : TG} {tb : TS} {D : Ends} {σ : St} {H : Hp} (Pv : Nat → St → Hp → Prop) (h0 : Pv 0 σ H) (hl : ∀ i σ H, i ≤ xs.length → Pv i σ H → SqL K H a xs)
    (hs : ∀ i x p σ H, xs[i]? = some x → Pv i σ H → H p = none → g (.ref p) σ (upd H p (.tup [.int i, x])) fun σ2 H2 => tb { D with nx := Pv (i + 1), ct := Pv (i + 1), bk := D.nx } σ2 H2) (hd : ∀ σ H, Pv xs.length σ H → D.nx σ H) :
    ∃ W : Nat → Nat → St → Hp → Prop, (∃ m, W 0 m σ H) ∧ ∀ i m σ H, W i m σ H →
      ((Ite K a).stop i H ∧ D.nx σ H) ∨ ((Ite K a).go i H ∧ ∃ N : St → Hp → Prop, (∀ σ' H', N σ' H' → ∃ m', m' < m ∧ W (i + 1) m' σ' H') ∧ ∀ x H', (Ite K a).yld i H x H' → g x σ H' fun σ2 H2 => tb { D with nx := N, ct := N, bk := D.nx } σ2 H2) := by
  refine ⟨fun i m σ H => m = xs.length - i ∧ i ≤ xs.length ∧ Pv i σ H, ⟨xs.length, by simp, Nat.zero_le _, h0⟩, ?_⟩
  rintro i m σ H ⟨rfl, hi, p⟩
  have q := hl i σ H hi p
  by_cases hlt : i < xs.length
  · refine .inr ⟨⟨xs, xs[i], q, by simp [hlt]⟩, Pv (i + 1), fun σ' H' p' => ⟨xs.length - (i + 1), by omega, rfl, hlt, p'⟩, fun x H' y => ?_⟩
    obtain ⟨pt, v, hn, e1, e2, y⟩ := y
    subst e1 e2
    exact hs i v pt σ _ (y xs q) p hn
  · have e : i = xs.length := by omega
    subst e
    exact .inl ⟨⟨xs, q, Nat.le_refl _⟩, hd σ H p⟩
end
end L2
namespace L2
open PySem PySem.Spec PyProof.Rows
def Has (P : Program) (w : World) (K : PySem.W.Frag) (mg : Str → Option Value) (base : Heap) (k : Nat) (x : Str) (ps : List Str) (sp : Sp) : Prop :=
  ∃ f fd, FnOk P w K mg base CX0 k f fd ps sp ∧ Binds K fd ps [] ∧ PySem.W.keepIn K (.ref f) = true ∧ mg x = some (.ref f)
section
variable {X : Cx} {k : Nat} {x : Str} {ps : List Str} {sp : Sp} {p pos : Pos} {e : Expr} {es : List Expr} {t : TA}
theorem pe_callH (C : Has X.prog X.w X.K X.mg X.base k x ps sp) (hr : Room k X.A) (hg : Gl X x) (ha : PA X (e :: es) t)
    (hdb : (x == ("__debug__" : Str)) = false := by decide) (he : starEach (e :: es) X.env = (false, eval e X.env) :: starEach es X.env := by rfl) (hpl : (backTo pos (starEach es X.env)).any (·.1) = false := by rfl) :
    PE X (.Call (.Name x p) (e :: es) [] pos) (tCall sp [] E0 t) := by
  obtain ⟨f, fd, F, b, kp, m⟩ := C
  exact pe_call F hr hg m kp b .nil pass0 ha hdb he hpl
end
theorem Has.imp {P : Program} {w : World} {K : PySem.W.Frag} {mg : Str → Option Value} {base : Heap} {k : Nat} {x : Str} {ps : List Str} {sp sp' : Sp} (C : Has P w K mg base k x ps sp) (h : ∀ vs H Q E, sp' vs H Q E → sp vs H Q E) : Has P w K mg base k x ps sp' := by
  obtain ⟨f, fd, F, r⟩ := C
  exact ⟨f, fd, F.imp h, r⟩
def csOk (names : List (Str × NameKind)) (kindOf : Str → Option NameKind) (N N' : List Str) (caps : List (Option Nat)) : Bool :=
  decide ((names.map (·.1)).Nodup) && names.all (fun x => !(x.2 == NameKind.free) || (kindOf x.1 == some .cell || kindOf x.1 == some .free)) && (caps.length == N'.length) &&
    (List.range caps.length).all fun j => match caps[j]?, N'[j]? with
      | some (some i), some x => N[i]? == some x && names.any (fun y => y.1 == x && y.2 == NameKind.free)
      | _, _ => true
theorem cscope {X : Cx} {scope : Scope} {N' : List Str} {caps : List (Option Nat)} (hk : scope.kind = .function := by rfl) (h : csOk scope.names X.env.kindOf X.N N' caps = true := by kernel_rfl) : CScope X scope N' caps := by
  unfold csOk at h
  simp only [Bool.and_eq_true, decide_eq_true_eq, List.all_eq_true, beq_iff_eq] at h
  obtain ⟨⟨⟨h1, h2⟩, h3⟩, h4⟩ := h
  refine ⟨hk, h1, fun x hx hf => ?_, h3, fun j i x hc hn => ?_⟩
  · have q := h2 x hx
    rw [hf] at q
    simpa using q
  · have hj : j < caps.length := (List.getElem?_eq_some_iff.mp hc).1
    have q := h4 j (List.mem_range.mpr hj)
    rw [hc, hn] at q
    simp only [Bool.and_eq_true, beq_iff_eq, List.any_eq_true] at q
    obtain ⟨q1, y, hy, q2, q3⟩ := q
    refine ⟨q1, ?_⟩
    obtain ⟨y1, y2⟩ := y
    have e1 : y1 = x := q2
    have e2 : y2 = NameKind.free := q3
    rw [← e1, ← e2]
    exact hy
def tJoin (t : TS) : TS := fun D σ H => ∃ Mid : St → Hp → Prop, t { D with nx := Mid } σ H ∧ ∀ σ' H', Mid σ' H' → D.nx σ' H'
theorem ps_join {X : Cx} {st : Stmt} {t : TS} (h : PS X st t) : PS X st (tJoin t) := by
  intro pins s σ H D I hw
  obtain ⟨Mid, h1, h2⟩ := hw
  refine thn (h pins s σ H _ I h1) fun f s' q => ?_
  cases f with
  | next =>
    obtain ⟨σ', H', J, m⟩ := q
    exact ⟨σ', H', J, h2 σ' H' m⟩
  | brk => exact q
  | cont => exact q
  | ret u => exact q
section
variable {X : Cx} {K : PySem.W.Frag}
theorem call_len_seqK (hK : X.K = K) : CallR X (.builtin "len") (fun xs H Q => ∃ p ys, xs = [.ref p] ∧ (SqL K H p ys ∨ SqT K H p ys) ∧ Q (.int ys.length) H) := by subst hK; exact call_len_seq
theorem call_list_ofK (hK : X.K = K) : CallR X (.type "list") (fun xs H Q => ∃ p ys, xs = [.ref p] ∧ (SqL K H p ys ∨ SqT K H p ys) ∧ ∀ l, H l = none → Q (.ref l) (upd H l (.lst ys))) := by subst hK; exact call_list_of
theorem call_sortedK (hK : X.K = K) : CallR X (.builtin "sorted") (rSorted K) := by subst hK; exact call_sorted
theorem ix_listK (hK : X.K = K) : IxR X (rIxL K) := by subst hK; exact ix_list
theorem ix_tupK (hK : X.K = K) : IxR X (rIxT K) := by subst hK; exact ix_tup
theorem op_in_seqK (hK : X.K = K) : OpR X (compareOp .In) (rIn K false) := by subst hK; exact op_in_seq
theorem op_notIn_seqK (hK : X.K = K) : OpR X (compareOp .NotIn) (rIn K true) := by subst hK; exact op_notIn_seq
end
structure Blt (mg : Str → Option Value) : Prop where
  len : mg "len" = none
  range : mg "range" = none
  sorted : mg "sorted" = none
  list : mg "list" = none
  isinstance : mg "isinstance" = none
  bool : mg "bool" = none
  int : mg "int" = none
  enumerate : mg "enumerate" = none
  all : mg "all" = none
  sum : mg "sum" = none
  set : mg "set" = none
  max : mg "max" = none
  zip : mg "zip" = none
  str : mg "str" = none
  any : mg "any" = none
  ValueError : mg "ValueError" = none
end L2
namespace KH
def rowAt (rows : List (List Int)) (i : Nat) : List Int := rows.getD i []
def BeatenOk (row : List Int) (p m : Int) : Prop := row.Pairwise (· < ·) ∧ ∀ x ∈ row, 0 ≤ x ∧ x < m ∧ x ≠ p
def OneEach (rows : List (List Int)) : Prop := ∀ i j : Nat, j < i → i < rows.length → (((j : Int) ∈ rowAt rows i) ↔ ¬ ((i : Int) ∈ rowAt rows j))
structure IsHall (rows : List (List Int)) : Prop where
  lo : 1 ≤ rows.length
  hi : rows.length ≤ 12
  beat : ∀ i, i < rows.length → BeatenOk (rowAt rows i) i rows.length
  one : OneEach rows
noncomputable def dec (p : Prop) : Bool := @decide p (Classical.propDecidable p)
theorem dec_true {p : Prop} (h : p) : dec p = true := @decide_eq_true p (Classical.propDecidable p) h
theorem dec_false {p : Prop} (h : ¬ p) : dec p = false := @decide_eq_false p (Classical.propDecidable p) h
theorem dec_iff {p q : Prop} (h : p ↔ q) : dec p = dec q := by rw [propext h]
theorem dec_decide {p : Prop} [d : Decidable p] : dec p = decide p := by
  by_cases h : p
  · rw [dec_true h, decide_eq_true h]
  · rw [dec_false h, decide_eq_false h]
def lastD (l : List Int) : Int := l.getLast?.getD (-1)
theorem lastD_snoc (l : List Int) (x : Int) : lastD (l ++ [x]) = x := by simp [lastD]
theorem lastD_mem (l : List Int) : (l = [] ∧ lastD l = -1) ∨ lastD l ∈ l := by
  cases h : l.getLast? with
  | none => left; have : l = [] := by simpa using h
            subst this; exact ⟨rfl, rfl⟩
  | some y => right; unfold lastD; rw [h]; exact List.mem_of_getLast? h
theorem le_lastD : ∀ {l : List Int}, l.Pairwise (· < ·) → ∀ x ∈ l, x ≤ lastD l := by
  intro l h x hx
  obtain ⟨l', y, rfl⟩ : ∃ l' y, l = l' ++ [y] := by
    have hne : l ≠ [] := by rintro rfl; cases hx
    exact ⟨l.dropLast, l.getLast hne, (List.dropLast_concat_getLast hne).symm⟩
  rw [lastD_snoc]
  rw [List.pairwise_append] at h
  rcases List.mem_append.mp hx with q | q
  · exact Int.le_of_lt (h.2.2 x q y (by simp))
  · have : x = y := by simpa using q
    omega
theorem beaten_nil (p m : Int) : BeatenOk [] p m := ⟨List.Pairwise.nil, fun _ h => by cases h⟩
theorem beaten_snoc {l : List Int} {x p m : Int} : BeatenOk (l ++ [x]) p m ↔ BeatenOk l p m ∧ lastD l < x ∧ x < m ∧ x ≠ p := by
  constructor
  · rintro ⟨h1, h2⟩
    rw [List.pairwise_append] at h1
    have hx := h2 x (by simp)
    refine ⟨⟨h1.1, fun y hy => h2 y (List.mem_append_left _ hy)⟩, ?_, hx.2.1, hx.2.2⟩
    rcases lastD_mem l with ⟨_, e⟩ | q
    · omega
    · exact h1.2.2 _ q x (by simp)
  · rintro ⟨⟨h1, h2⟩, h3, h4, h5⟩
    refine ⟨List.pairwise_append.mpr ⟨h1, List.pairwise_singleton _ _, fun y hy z hz => ?_⟩, fun y hy => ?_⟩
    · have e : z = x := by simpa using hz
      have := le_lastD h1 y hy
      omega
    · rcases List.mem_append.mp hy with q | q
      · exact h2 y q
      · have e : y = x := by simpa using q
        subst e
        refine ⟨?_, h4, h5⟩
        rcases lastD_mem l with ⟨_, e⟩ | q
        · omega
        · have := (h2 _ q).1
          omega
theorem beaten_take {l : List Int} {p m : Int} (h : BeatenOk l p m) (i : Nat) : BeatenOk (l.take i) p m :=
  ⟨h.1.sublist (List.take_sublist _ _), fun x hx => h.2 x (List.mem_of_mem_take hx)⟩
theorem take_snoc {α : Type} {l : List α} {i : Nat} {x : α} (h : l[i]? = some x) : l.take (i + 1) = l.take i ++ [x] := by
  rw [List.take_succ, h]; rfl
def nums (n : Nat) : List Int := (List.range n).map fun (i : Nat) => (i : Int)
theorem nums_succ (n : Nat) : nums (n + 1) = nums n ++ [(n : Int)] := by simp [nums, List.range_succ]
theorem nums_length (n : Nat) : (nums n).length = n := by simp [nums]
theorem mem_nums {n : Nat} {x : Int} : x ∈ nums n ↔ 0 ≤ x ∧ x < n := by
  simp only [nums, List.mem_map, List.mem_range]
  constructor
  · rintro ⟨i, hi, rfl⟩; omega
  · rintro ⟨h0, h1⟩; exact ⟨x.toNat, by omega, by omega⟩
theorem nums_nodup (n : Nat) : (nums n).Nodup := by
  unfold nums
  rw [List.nodup_iff_pairwise_ne, List.pairwise_map]
  exact (List.nodup_iff_pairwise_ne.mp List.nodup_range).imp fun h e => h (by omega)
theorem perm_insert {l m : List Int} {x : Int} (h : l.Perm m) (k : Nat) : (l.take k ++ x :: l.drop k).Perm (m ++ [x]) := by
  have a : (l.take k ++ x :: l.drop k).Perm (x :: (l.take k ++ l.drop k)) := List.perm_middle
  rw [List.take_append_drop] at a
  exact a.trans ((h.cons x).trans (List.perm_append_singleton x m).symm)
structure OrdOk (n : Nat) (ord : List Int) : Prop where
  len : ord.length = n
  rng : ∀ a, a < n → 0 ≤ ord.getD a 0 ∧ ord.getD a 0 < n
  inj : ∀ a b, a < n → b < n → ord.getD a 0 = ord.getD b 0 → a = b
  sur : ∀ u : Int, 0 ≤ u → u < n → ∃ a, a < n ∧ ord.getD a 0 = u
theorem getD_of_lt {α : Type} {l : List α} {a : Nat} {d : α} (h : a < l.length) : l.getD a d = l[a] := by
  rw [List.getD_eq_getElem?_getD, List.getElem?_eq_getElem h]; rfl
theorem ord_of_perm {n : Nat} {ord : List Int} (h : ord.Perm (nums n)) : OrdOk n ord := by
  have hl : ord.length = n := h.length_eq.trans (nums_length n)
  have nd : ord.Nodup := h.nodup_iff.mpr (nums_nodup n)
  refine ⟨hl, fun a ha => ?_, fun a b ha hb e => ?_, fun u h0 h1 => ?_⟩
  · rw [getD_of_lt (by omega)]
    exact mem_nums.mp (h.mem_iff.mp (List.getElem_mem _))
  · rw [getD_of_lt (by omega), getD_of_lt (by omega)] at e
    exact (List.getElem_inj nd).mp e
  · have hm : u ∈ ord := h.mem_iff.mpr (mem_nums.mpr ⟨h0, h1⟩)
    obtain ⟨a, ha, e⟩ := List.mem_iff_getElem.mp hm
    exact ⟨a, by omega, by rw [getD_of_lt ha]; exact e⟩
def R (rows : List (List Int)) (u : Int) : List Int := rows.getD u.toNat []
def push (rows : List (List Int)) (u v : Int) : List (List Int) := rows.set u.toNat (R rows u ++ [v])
theorem push_length (rows : List (List Int)) (u v : Int) : (push rows u v).length = rows.length := by simp [push]
theorem R_push {rows : List (List Int)} {u v w : Int} (hu : 0 ≤ u) (h : u.toNat < rows.length) (hw : 0 ≤ w) : R (push rows u v) w = if w = u then R rows u ++ [v] else R rows w := by
  unfold R push
  by_cases e : w = u
  · subst e
    rw [if_pos rfl, List.getD_eq_getElem?_getD, List.getElem?_set_self h]; rfl
  · rw [if_neg e, List.getD_eq_getElem?_getD, List.getElem?_set_ne (by omega), ← List.getD_eq_getElem?_getD]
structure Drawn (n : Nat) (ord : List Int) (rows : List (List Int)) (i j : Nat) : Prop where
  len : rows.length = n
  nd : ∀ u : Int, 0 ≤ u → u < n → (R rows u).Nodup
  rng : ∀ u : Int, 0 ≤ u → u < n → ∀ x ∈ R rows u, 0 ≤ x ∧ x < n ∧ x ≠ u
  done : ∀ a b, a < b → b < n → (a < i ∨ (a = i ∧ b < j)) → (ord.getD b 0 ∈ R rows (ord.getD a 0) ↔ ¬ ord.getD a 0 ∈ R rows (ord.getD b 0))
  todo : ∀ a b, a < b → b < n → ¬ (a < i ∨ (a = i ∧ b < j)) → ord.getD b 0 ∉ R rows (ord.getD a 0) ∧ ord.getD a 0 ∉ R rows (ord.getD b 0)
theorem drawn_start {n : Nat} {ord : List Int} (O : OrdOk n ord) : Drawn n ord (List.replicate n []) 0 0 := by
  have e : ∀ u : Int, R (List.replicate n []) u = [] := fun u => by
    unfold R
    rw [List.getD_eq_getElem?_getD, List.getElem?_replicate]
    split <;> rfl
  refine ⟨by simp, fun u _ _ => ?_, fun u _ _ x hx => ?_, fun a b h1 h2 h3 => ?_, fun a b _ _ _ => ?_⟩
  · rw [e]; exact List.nodup_nil
  · rw [e] at hx; cases hx
  · omega
  · rw [e, e]; exact ⟨List.not_mem_nil, List.not_mem_nil⟩
theorem Drawn.next {n : Nat} {ord : List Int} {rows : List (List Int)} {i : Nat} (D : Drawn n ord rows i n) : Drawn n ord rows (i + 1) 0 :=
  ⟨D.len, D.nd, D.rng, fun a b h1 h2 h3 => D.done a b h1 h2 (by omega), fun a b h1 h2 h3 => D.todo a b h1 h2 (by omega)⟩
theorem Drawn.skip {n : Nat} {ord : List Int} {rows : List (List Int)} {i : Nat} (D : Drawn n ord rows i 0) : Drawn n ord rows i (i + 1) :=
  ⟨D.len, D.nd, D.rng, fun a b h1 h2 h3 => D.done a b h1 h2 (by omega), fun a b h1 h2 h3 => D.todo a b h1 h2 (by omega)⟩
theorem Drawn.win {n : Nat} {ord : List Int} {rows : List (List Int)} {i j : Nat} (O : OrdOk n ord) (D : Drawn n ord rows i j) (hij : i < j) (hj : j < n) {u v : Int}
    (h : (u = ord.getD i 0 ∧ v = ord.getD j 0) ∨ (u = ord.getD j 0 ∧ v = ord.getD i 0)) : Drawn n ord (push rows u v) i (j + 1) := by
  have hi : i < n := by omega
  have oi := O.rng i hi
  have oj := O.rng j hj
  have hu : 0 ≤ u ∧ u < n := by rcases h with ⟨a, _⟩ | ⟨a, _⟩ <;> rw [a] <;> assumption
  have hv : 0 ≤ v ∧ v < n := by rcases h with ⟨_, a⟩ | ⟨_, a⟩ <;> rw [a] <;> assumption
  have ne : ord.getD i 0 ≠ ord.getD j 0 := fun e => by have := O.inj i j hi hj e; omega
  have huv : v ≠ u := by rcases h with ⟨a, b⟩ | ⟨a, b⟩ <;> rw [a, b]; exact ne.symm; exact ne
  have hlt : u.toNat < rows.length := by rw [D.len]; omega
  have RP : ∀ w : Int, 0 ≤ w → R (push rows u v) w = if w = u then R rows u ++ [v] else R rows w := fun w hw => R_push hu.1 hlt hw
  have fresh : v ∉ R rows u := by
    have q := D.todo i j hij hj (by omega)
    rcases h with ⟨a, b⟩ | ⟨a, b⟩ <;> rw [a, b]
    · exact q.1
    · exact q.2
  have mem : ∀ w x : Int, 0 ≤ w → (x ∈ R (push rows u v) w ↔ x ∈ R rows w ∨ (w = u ∧ x = v)) := fun w x hw => by
    rw [RP w hw]
    split
    · rename_i e; subst e; simp
    · rename_i e; simp [e]
  refine ⟨by rw [push_length]; exact D.len, fun w h0 h1 => ?_, fun w h0 h1 x hx => ?_, fun a b h1 h2 h3 => ?_, fun a b h1 h2 h3 => ?_⟩
  · rw [RP w h0]
    split
    · rw [List.nodup_append]
      refine ⟨D.nd u hu.1 hu.2, by simp, fun x hx y hy e => ?_⟩
      have : y = v := by simpa using hy
      subst this; subst e; exact fresh hx
    · exact D.nd w h0 h1
  · rcases (mem w x h0).mp hx with q | ⟨q1, q2⟩
    · exact D.rng w h0 h1 x q
    · subst q1 q2; exact ⟨hv.1, hv.2, huv⟩
  · have ha : a < n := by omega
    have oa := O.rng a ha
    have ob := O.rng b h2
    rw [mem _ _ oa.1, mem _ _ ob.1]
    by_cases hab : a = i ∧ b = j
    · obtain ⟨rfl, rfl⟩ := hab
      have q := D.todo a b h1 h2 (by omega)
      rcases h with ⟨e1, e2⟩ | ⟨e1, e2⟩
      · rw [e1, e2]
        constructor
        · intro _ z
          rcases z with z | ⟨z, _⟩
          · exact q.2 z
          · exact ne z.symm
        · intro _; exact .inr ⟨rfl, rfl⟩
      · rw [e1, e2]
        constructor
        · intro z
          rcases z with z | ⟨z, _⟩
          · exact absurd z q.1
          · exact absurd z ne
        · intro z; exact absurd (.inr ⟨rfl, rfl⟩) z
    · have q := D.done a b h1 h2 (by omega)
      have n1 : ¬ (ord.getD a 0 = u ∧ ord.getD b 0 = v) := fun ⟨z1, z2⟩ => by
        rcases h with ⟨e1, e2⟩ | ⟨e1, e2⟩
        · exact hab ⟨O.inj a i ha hi (z1.trans e1), O.inj b j h2 hj (z2.trans e2)⟩
        · have := O.inj a j ha hj (z1.trans e1); have := O.inj b i h2 hi (z2.trans e2); omega
      have n2 : ¬ (ord.getD b 0 = u ∧ ord.getD a 0 = v) := fun ⟨z1, z2⟩ => by
        rcases h with ⟨e1, e2⟩ | ⟨e1, e2⟩
        · have := O.inj b i h2 hi (z1.trans e1); have := O.inj a j ha hj (z2.trans e2); omega
        · exact hab ⟨O.inj a i ha hi (z2.trans e2), O.inj b j h2 hj (z1.trans e1)⟩
      simp only [n1, n2, or_false]
      exact q
  · have ha : a < n := by omega
    have oa := O.rng a ha
    have ob := O.rng b h2
    rw [mem _ _ oa.1, mem _ _ ob.1]
    have hab : ¬ (a = i ∧ b = j) := fun ⟨e1, e2⟩ => h3 (by omega)
    have q := D.todo a b h1 h2 (by omega)
    have n1 : ¬ (ord.getD a 0 = u ∧ ord.getD b 0 = v) := fun ⟨z1, z2⟩ => by
      rcases h with ⟨e1, e2⟩ | ⟨e1, e2⟩
      · exact hab ⟨O.inj a i ha hi (z1.trans e1), O.inj b j h2 hj (z2.trans e2)⟩
      · have := O.inj a j ha hj (z1.trans e1); have := O.inj b i h2 hi (z2.trans e2); omega
    have n2 : ¬ (ord.getD b 0 = u ∧ ord.getD a 0 = v) := fun ⟨z1, z2⟩ => by
      rcases h with ⟨e1, e2⟩ | ⟨e1, e2⟩
      · have := O.inj b i h2 hi (z1.trans e1); have := O.inj a j ha hj (z2.trans e2); omega
      · exact hab ⟨O.inj a i ha hi (z2.trans e2), O.inj b j h2 hj (z1.trans e1)⟩
    simp only [n1, n2, or_false]
    exact q
theorem Drawn.hall {n : Nat} {ord : List Int} {rows rows' : List (List Int)} (O : OrdOk n ord) (D : Drawn n ord rows n 0) (h1 : 1 ≤ n) (h12 : n ≤ 12) (hl : rows'.length = n)
    (hs : ∀ i, i < n → (rowAt rows' i).Perm (rowAt rows i) ∧ (rowAt rows' i).Pairwise (· ≤ ·)) : IsHall rows' := by
  have eR : ∀ i : Nat, R rows (i : Int) = rowAt rows i := fun i => by unfold R rowAt; rw [Int.toNat_natCast]
  have mem : ∀ i : Nat, i < n → ∀ x, x ∈ rowAt rows' i ↔ x ∈ R rows i := fun i hi x => by rw [eR]; exact (hs i hi).1.mem_iff
  refine ⟨by omega, by omega, fun i hi => ?_, fun i j hji hi => ?_⟩
  · rw [hl] at hi
    obtain ⟨hp, hw⟩ := hs i hi
    have nd : (rowAt rows' i).Nodup := hp.nodup_iff.mpr (by rw [← eR]; exact D.nd i (by omega) (by omega))
    refine ⟨?_, fun x hx => ?_⟩
    · have := hw.and (List.nodup_iff_pairwise_ne.mp nd)
      exact this.imp fun ⟨a, b⟩ => by omega
    · rw [hl]; exact D.rng i (by omega) (by omega) x ((mem i hi x).mp hx)
  · rw [hl] at hi
    rw [mem i hi, mem j (by omega)]
    obtain ⟨a, ha, ea⟩ := O.sur i (by omega) (by omega)
    obtain ⟨b, hb, eb⟩ := O.sur j (by omega) (by omega)
    have hab : a ≠ b := by rintro rfl; omega
    rcases Nat.lt_or_gt_of_ne hab with q | q
    · have := D.done a b q hb (by omega)
      rw [ea, eb] at this
      exact this
    · have := D.done b a q ha (by omega)
      rw [ea, eb] at this
      rw [this]
      exact ⟨fun h z => z h, fun h => Classical.byContradiction h⟩
theorem few_of_nodup : ∀ (n : Nat) (l : List Int), l.Nodup → (∀ x ∈ l, 0 ≤ x ∧ x < n) → l.length ≤ n
  | 0, l, _, h => by
    cases l with
    | nil => exact Nat.le_refl _
    | cons x r => have := h x List.mem_cons_self; omega
  | n + 1, l, nd, h => by
    by_cases hm : (n : Int) ∈ l
    · have e := List.length_erase_of_mem hm
      have ih := few_of_nodup n (l.erase (n : Int)) (nd.erase _) fun x hx => by
        have := (nd.mem_erase_iff.mp hx)
        have := h x this.2
        omega
      omega
    · have ih := few_of_nodup n l nd fun x hx => by
        have q := h x hx
        have : x ≠ n := fun e => hm (e ▸ hx)
        omega
      omega
theorem Drawn.few {n : Nat} {ord : List Int} {rows : List (List Int)} {i j : Nat} (D : Drawn n ord rows i j) (k : Nat) (hk : k < n) : (rowAt rows k).length ≤ n := by
  have e : rowAt rows k = R rows (k : Int) := by unfold R rowAt; rw [Int.toNat_natCast]
  rw [e]
  exact few_of_nodup n _ (D.nd k (by omega) (by omega)) fun x hx => by
    have := D.rng k (by omega) (by omega) x hx
    omega
theorem IsHall.few {rows : List (List Int)} (h : IsHall rows) (k : Nat) (hk : k < rows.length) : (rowAt rows k).length ≤ rows.length :=
  few_of_nodup _ _ (List.nodup_iff_pairwise_ne.mpr ((h.beat k hk).1.imp fun a e => by omega)) fun x hx => by
    have := (h.beat k hk).2 x hx
    omega
end KH
namespace KH
open PySem L2
theorem paired_imp {α β : Type} {F G : α → β → Prop} : ∀ {as : List α} {bs : List β}, Paired F as bs → (∀ a b, a ∈ as → F a b → G a b) → Paired G as bs
  | _, _, .nil, _ => .nil
  | _, _, .cons r t, f => .cons (f _ _ List.mem_cons_self r) (paired_imp t fun a b h => f a b (List.mem_cons_of_mem _ h))
theorem paired_get {α β : Type} {F : α → β → Prop} : ∀ {as : List α} {bs : List β} {i : Nat} {b : β}, Paired F as bs → bs[i]? = some b → ∃ a, as[i]? = some a ∧ F a b
  | _, _, _, _, .nil, e => by simp at e
  | _, _, 0, _, .cons r _, e => by simp at e; subst e; exact ⟨_, rfl, r⟩
  | _, _, i + 1, x, .cons _ t, e => by
    obtain ⟨u, h1, h2⟩ := paired_get (i := i) (b := x) t (by simpa using e)
    exact ⟨u, by simpa using h1, h2⟩
theorem paired_getA {α β : Type} {F : α → β → Prop} : ∀ {as : List α} {bs : List β} {i : Nat} {a : α}, Paired F as bs → as[i]? = some a → ∃ b, bs[i]? = some b ∧ F a b
  | _, _, _, _, .nil, e => by simp at e
  | _, _, 0, _, .cons r _, e => by simp at e; subst e; exact ⟨_, rfl, r⟩
  | _, _, i + 1, x, .cons _ t, e => by
    obtain ⟨u, h1, h2⟩ := paired_getA (i := i) (a := x) t (by simpa using e)
    exact ⟨u, by simpa using h1, h2⟩
theorem paired_set {α β : Type} {F G : α → β → Prop} : ∀ {as : List α} {bs : List β} {i : Nat} {a : α} {b : β}, Paired F as bs → as.Nodup → as[i]? = some a → G a b → (∀ c d, c ≠ a → F c d → G c d) → Paired G as (bs.set i b)
  | _, _, _, _, _, .nil, _, e, _, _ => by simp at e
  | _, _, 0, _, _, .cons r t, nd, e, g, f => by
    simp at e; subst e
    rw [List.nodup_cons] at nd
    exact .cons g (paired_imp t fun c d hc q => f c d (fun z => nd.1 (z ▸ hc)) q)
  | _, _, i + 1, a, _, .cons r t, nd, e, g, f => by
    rw [List.nodup_cons] at nd
    have e' := (by simpa using e : _[i]? = some a)
    refine .cons (f _ _ (fun z => nd.1 (z ▸ List.mem_of_getElem? e')) r) (paired_set t nd.2 e' g f)
structure HallAt (H : Hp) (p : Addr) (as : List Addr) (rows : List (List Int)) : Prop where
  top : H p = some (.lst (as.map V.ref))
  row : Paired (fun a (r : List Int) => H a = some (.lst (r.map V.int))) as rows
  nd : as.Nodup
  ne : p ∉ as
theorem HallAt.len {H : Hp} {p : Addr} {as : List Addr} {rows : List (List Int)} (h : HallAt H p as rows) : as.length = rows.length := Paired.length h.row
theorem HallAt.sq {K : PySem.W.Frag} {H : Hp} {p : Addr} {as : List Addr} {rows : List (List Int)} (h : HallAt H p as rows) : SqL K H p (as.map V.ref) := SqL.of h.top
theorem HallAt.rows {K : PySem.W.Frag} {H : Hp} {p : Addr} {as : List Addr} {rows : List (List Int)} (h : HallAt H p as rows) : RowsAt K H as rows := paired_imp h.row fun _ _ _ q => SqL.of q
theorem HallAt.same {H H' : Hp} {p : Addr} {as : List Addr} {rows : List (List Int)} (h : HallAt H p as rows) (s : Same H H') : HallAt H' p as rows :=
  ⟨s _ _ h.top, paired_imp h.row fun _ _ _ q => s _ _ q, h.nd, h.ne⟩
theorem rows_same {K : PySem.W.Frag} {H H' : Hp} {as : List Addr} {rows : List (List Int)} (h : RowsAt K H as rows) (s : Same H H') : RowsAt K H' as rows := paired_imp h fun _ _ _ q => s.seq q
theorem same_new {H : Hp} {p : Addr} (h : H p = none) (o : HO) : Same H (upd H p o) := fun b u q => by rw [upd_ne (ne_of_none q h)]; exact q
structure NewHall (H0 H : Hp) (p : Addr) (as : List Addr) (rows : List (List Int)) : Prop where
  at_ : HallAt H p as rows
  same : Same H0 H
  np : H0 p = none
  na : ∀ a ∈ as, H0 a = none
theorem NewHall.start {H : Hp} {p : Addr} (h : H p = none) : NewHall H (upd H p (.lst [])) p [] [] :=
  ⟨⟨upd_same, .nil, List.nodup_nil, List.not_mem_nil⟩, same_new h _, h, fun _ z => by cases z⟩
def SameBut (p : Addr) (H H' : Hp) : Prop := ∀ b o, b ≠ p → H b = some o → H' b = some o
theorem NewHall.snoc {H0 H H' : Hp} {p b : Addr} {as : List Addr} {rows : List (List Int)} {r : List Int} (h : NewHall H0 H p as rows) (hs : Same H H') (hb : H' b = some (.lst (r.map V.int))) (hn : H b = none) :
    NewHall H0 (upd H' p (.lst ((as ++ [b]).map V.ref))) p (as ++ [b]) (rows ++ [r]) := by
  have hbp : b ≠ p := (ne_of_none h.at_.top hn).symm
  have hba : b ∉ as := fun hm => by
    obtain ⟨i, hi, e⟩ := List.mem_iff_getElem.mp hm
    obtain ⟨r', _, q⟩ := paired_getA h.at_.row (List.getElem?_eq_getElem hi)
    rw [e, hn] at q
    cases q
  refine ⟨⟨upd_same, ?_, ?_, ?_⟩, fun c o q => ?_, h.np, fun a ha => ?_⟩
  · refine Paired.snoc (paired_imp h.at_.row fun a r' ha q => ?_) ?_
    · rw [upd_ne (fun (z : a = p) => h.at_.ne (z ▸ ha))]
      exact hs _ _ q
    · rw [upd_ne hbp]; exact hb
  · rw [List.nodup_append]
    exact ⟨h.at_.nd, by simp, fun x hx y hy e => hba (by rw [show y = b by simpa using hy] at e; exact e ▸ hx)⟩
  · intro hm
    rcases List.mem_append.mp hm with q | q
    · exact h.at_.ne q
    · exact hbp (by simpa using q : p = b).symm
  · rw [upd_ne (fun z => by rw [z, h.np] at q; cases q)]
    exact hs _ _ (h.same _ _ q)
  · rcases List.mem_append.mp ha with q | q
    · exact h.na a q
    · rw [show a = b by simpa using q]
      exact h.same.free hn
theorem NewHall.snoc' {H0 H H' : Hp} {p b : Addr} {as : List Addr} {rows : List (List Int)} {r : List Int} (h : NewHall H0 H p as rows) (hs : Same H H') (hb : H' b = some (.lst (r.map V.int))) (hn : H b = none) :
    NewHall H0 (upd H' p (.lst (as.map V.ref ++ [.ref b]))) p (as ++ [b]) (rows ++ [r]) := by
  have q := h.snoc hs hb hn
  rw [List.map_append] at q
  exact q
theorem NewHall.grow {H0 H H' : Hp} {p : Addr} {as : List Addr} {rows : List (List Int)} (h : NewHall H0 H p as rows) (s : Same H H') : NewHall H0 H' p as rows :=
  ⟨h.at_.same s, h.same.trans s, h.np, h.na⟩
theorem NewHall.base {H0 H1 H : Hp} {p : Addr} {as : List Addr} {rows : List (List Int)} (s : Same H0 H1) (h : NewHall H1 H p as rows) : NewHall H0 H p as rows :=
  ⟨h.at_, s.trans h.same, s.free h.np, fun a ha => s.free (h.na a ha)⟩
theorem NewHall.put {H0 H : Hp} {p a : Addr} {as : List Addr} {rows : List (List Int)} {i : Nat} {r' : List Int} (h : NewHall H0 H p as rows) (ha : as[i]? = some a) :
    NewHall H0 (upd H a (.lst (r'.map V.int))) p as (rows.set i r') := by
  have hm := List.mem_of_getElem? ha
  refine ⟨⟨?_, ?_, h.at_.nd, h.at_.ne⟩, fun b o q => ?_, h.np, h.na⟩
  · rw [upd_ne (fun (z : p = a) => h.at_.ne (z ▸ hm))]; exact h.at_.top
  · exact paired_set h.at_.row h.at_.nd ha upd_same fun c d hc q => by rw [upd_ne hc]; exact q
  · rw [upd_ne (fun z => by rw [z, h.na a hm] at q; cases q)]
    exact h.same _ _ q
theorem paired_erase {α β : Type} {F : α → β → Prop} : ∀ {as : List α} {bs : List β} (i : Nat), Paired F as bs → Paired F (as.eraseIdx i) (bs.eraseIdx i)
  | _, _, _, .nil => .nil
  | _, _, 0, .cons _ t => t
  | _, _, i + 1, .cons r t => .cons r (paired_erase i t)
theorem paired_insert {α β : Type} {F : α → β → Prop} {a : α} {b : β} (r : F a b) : ∀ {as : List α} {bs : List β} (i : Nat), Paired F as bs → Paired F (as.take i ++ a :: as.drop i) (bs.take i ++ b :: bs.drop i)
  | _, _, _, .nil => by simpa using Paired.cons r .nil
  | _, _, 0, .cons q t => .cons r (.cons q t)
  | _, _, i + 1, .cons q t => .cons q (paired_insert r i t)
theorem NewHall.erase {H0 H : Hp} {p : Addr} {as : List Addr} {rows : List (List Int)} (h : NewHall H0 H p as rows) (i : Nat) :
    NewHall H0 (upd H p (.lst ((as.eraseIdx i).map V.ref))) p (as.eraseIdx i) (rows.eraseIdx i) := by
  have sub : ∀ a ∈ as.eraseIdx i, a ∈ as := fun a ha => List.mem_of_mem_eraseIdx ha
  refine ⟨⟨upd_same, paired_imp (paired_erase i h.at_.row) fun a r ha q => ?_, h.at_.nd.sublist (List.eraseIdx_sublist _ _), fun z => h.at_.ne (sub _ z)⟩, fun b o q => ?_, h.np, fun a ha => h.na a (sub a ha)⟩
  · rw [upd_ne (fun (z : a = p) => h.at_.ne (z ▸ sub a ha))]; exact q
  · rw [upd_ne (fun z => by rw [z, h.np] at q; cases q)]
    exact h.same _ _ q
theorem NewHall.insert {H0 H H' : Hp} {p b : Addr} {as : List Addr} {rows : List (List Int)} {r : List Int} (h : NewHall H0 H p as rows) (hs : Same H H') (hb : H' b = some (.lst (r.map V.int))) (hn : H b = none) (i : Nat) :
    NewHall H0 (upd H' p (.lst ((as.take i ++ b :: as.drop i).map V.ref))) p (as.take i ++ b :: as.drop i) (rows.take i ++ r :: rows.drop i) := by
  have hbp : b ≠ p := (ne_of_none h.at_.top hn).symm
  have hba : b ∉ as := fun hm => by
    obtain ⟨i, hi, e⟩ := List.mem_iff_getElem.mp hm
    obtain ⟨r', _, q⟩ := paired_getA h.at_.row (List.getElem?_eq_getElem hi)
    rw [e, hn] at q
    cases q
  have perm : (as.take i ++ b :: as.drop i).Perm (b :: as) := by
    have a : (as.take i ++ b :: as.drop i).Perm (b :: (as.take i ++ as.drop i)) := List.perm_middle
    rw [List.take_append_drop] at a
    exact a
  have mem : ∀ a ∈ as.take i ++ b :: as.drop i, a = b ∨ a ∈ as := fun a ha => List.mem_cons.mp (perm.mem_iff.mp ha)
  refine ⟨⟨upd_same, paired_imp (paired_insert (a := b) (b := r) hb i (paired_imp h.at_.row fun a r' _ q => hs _ _ q)) fun a r' ha q => ?_, perm.nodup_iff.mpr (List.nodup_cons.mpr ⟨hba, h.at_.nd⟩), fun z => ?_⟩, fun c o q => ?_, h.np, fun a ha => ?_⟩
  · rw [upd_ne (fun z => ?_)]
    · exact q
    · rcases mem a ha with e | e
      · exact hbp (e.symm.trans z)
      · exact h.at_.ne (z ▸ e)
  · rcases mem p z with e | e
    · exact hbp e.symm
    · exact h.at_.ne e
  · rw [upd_ne (fun z => by rw [z, h.np] at q; cases q)]
    exact hs _ _ (h.same _ _ q)
  · rcases mem a ha with e | e
    · rw [e]; exact h.same.free hn
    · exact h.na a e
def Lens (c : Nat) (rows : List (List Int)) : Prop := ∀ r ∈ rows, r.length ≤ c
theorem Lens.at_ {c : Nat} {rows : List (List Int)} (h : Lens c rows) (i : Nat) : (rowAt rows i).length ≤ c := by
  unfold rowAt
  by_cases hi : i < rows.length
  · rw [getD_of_lt hi]; exact h _ (List.getElem_mem _)
  · rw [List.getD_eq_getElem?_getD, List.getElem?_eq_none (by omega)]; exact Nat.zero_le _
theorem Lens.mono {c d : Nat} {rows : List (List Int)} (h : Lens c rows) (hcd : c ≤ d) : Lens d rows := fun r hr => Nat.le_trans (h r hr) hcd
theorem Lens.set {c : Nat} {rows : List (List Int)} {r : List Int} (h : Lens c rows) (hr : r.length ≤ c) (i : Nat) : Lens c (rows.set i r) := fun x hx => by
  rcases List.mem_or_eq_of_mem_set hx with q | q
  · exact h x q
  · rw [q]; exact hr
theorem Lens.snoc {c : Nat} {rows : List (List Int)} {r : List Int} (h : Lens c rows) (hr : r.length ≤ c) : Lens c (rows ++ [r]) := fun x hx => by
  rcases List.mem_append.mp hx with q | q
  · exact h x q
  · rw [show x = r by simpa using q]; exact hr
theorem Lens.erase {c : Nat} {rows : List (List Int)} (h : Lens c rows) (i : Nat) : Lens c (rows.eraseIdx i) := fun x hx => h x (List.mem_of_mem_eraseIdx hx)
theorem Lens.insert {c : Nat} {rows : List (List Int)} {r : List Int} (h : Lens c rows) (hr : r.length ≤ c) (i : Nat) : Lens c (rows.take i ++ r :: rows.drop i) := fun x hx => by
  rcases List.mem_append.mp hx with q | q
  · exact h x (List.mem_of_mem_take q)
  · rcases List.mem_cons.mp q with q | q
    · rw [q]; exact hr
    · exact h x (List.mem_of_mem_drop q)
theorem IsHall.lens {rows : List (List Int)} (h : IsHall rows) : Lens 12 rows := fun r hr => by
  obtain ⟨i, hi, e⟩ := List.mem_iff_getElem.mp hr
  have := h.few i hi
  have hh := h.hi
  have e2 : rowAt rows i = r := by unfold rowAt; rw [getD_of_lt hi]; exact e
  rw [e2] at this
  omega
theorem at_int {ns : List Int} {k : Int} (h0 : 0 ≤ k) (h : k < ns.length) : atI (ns.map V.int) k = some (.int (ns.getD k.toNat 0)) := by
  have hk : k.toNat < ns.length := by omega
  have ek : k = ((k.toNat : Nat) : Int) := by omega
  have q : atI (ns.map V.int) ((k.toNat : Nat) : Int) = some (.int ns[k.toNat]) := atI_nat (by rw [List.getElem?_map, List.getElem?_eq_getElem hk]; rfl)
  rw [← ek] at q
  rw [q, getD_of_lt hk]
theorem at_ref {as : List Addr} {k : Int} {a : Addr} (h0 : 0 ≤ k) (h : as[k.toNat]? = some a) : atI (as.map V.ref) k = some (.ref a) := by
  have ek : k = ((k.toNat : Nat) : Int) := by omega
  have q : atI (as.map V.ref) ((k.toNat : Nat) : Int) = some (.ref a) := atI_nat (by rw [List.getElem?_map, h]; rfl)
  rw [← ek] at q
  exact q
theorem rows_at {K : PySem.W.Frag} {H : Hp} {as : List Addr} {rows : List (List Int)} {k : Int} (R : RowsAt K H as rows) (h0 : 0 ≤ k) (h : k < rows.length) :
    ∃ a, atI (as.map V.ref) k = some (.ref a) ∧ as[k.toNat]? = some a ∧ SqL K H a ((rowAt rows k.toNat).map V.int) := by
  have hk : k.toNat < rows.length := by omega
  obtain ⟨a, ea, sa⟩ := RowsAt.get R (i := k.toNat) (r := rowAt rows k.toNat) (by rw [List.getElem?_eq_getElem hk]; unfold rowAt; rw [getD_of_lt hk])
  exact ⟨a, at_ref h0 ea, ea, sa⟩
theorem flat_ints (ns : List Int) : (ns.map V.int).all flatV = true := by
  rw [List.all_eq_true]
  intro x hx
  obtain ⟨i, _, rfl⟩ := List.mem_map.mp hx
  rfl
theorem inV_int (x : Int) (ns : List Int) : inV (.int x) (ns.map V.int) = decide (x ∈ ns) := by
  unfold inV
  rw [Bool.eq_iff_iff, List.any_eq_true, decide_eq_true_iff]
  constructor
  · rintro ⟨y, hy, e⟩
    obtain ⟨i, hi, rfl⟩ := List.mem_map.mp hy
    have : i = x := by simpa [eqV] using e
    rw [← this]; exact hi
  · intro h
    exact ⟨.int x, List.mem_map.mpr ⟨x, h, rfl⟩, by simp [eqV]⟩
theorem small {n : Nat} (h : n ≤ 1000) : n ≤ sizeLine := Nat.le_of_lt (small1000 h)
theorem smallL {n : Nat} (h : n ≤ 1000) : n < sizeLine := small1000 h
end KH
namespace L2
open PySem PySem.Spec PyProof.Rows
theorem kit_int_bool (K : PySem.W.Frag) : PySem.W.kitOne K (.type "int") (.type "bool") = some false := by kernel_rfl
theorem kit_int_int (K : PySem.W.Frag) : PySem.W.kitOne K (.type "int") (.type "int") = some true := by kernel_rfl
theorem kit_list_list (K : PySem.W.Frag) : PySem.W.kitOne K (.type "list") (.type "list") = some true := by kernel_rfl
theorem kit_tuple_tuple (K : PySem.W.Frag) : PySem.W.kitOne K (.type "tuple") (.type "tuple") = some true := by kernel_rfl
theorem all_range (bs : List Bool) : ((List.range bs.length).all fun i => (bs[i]?).getD true) = bs.all id := by
  rw [Bool.eq_iff_iff, List.all_eq_true, List.all_eq_true]
  constructor
  · intro h x hx
    obtain ⟨i, hi, e⟩ := List.mem_iff_getElem.mp hx
    have q := h i (List.mem_range.mpr hi)
    rw [List.getElem?_eq_getElem hi] at q
    rw [← e]; exact q
  · intro h i hi
    have hi' := List.mem_range.mp hi
    rw [List.getElem?_eq_getElem hi']
    exact h _ (List.getElem_mem _)
section
variable {X : Cx}
theorem call_all (hc : X.calm = true) : CallR X (.builtin "all") (fun xs H Q => ∃ (p : Addr) (bs : List Bool), xs = [.ref p] ∧ SqL X.K H p (bs.map V.bl) ∧ Q (.bl (bs.all id)) H) := by
  intro pins s σ H xs us Q I r h
  obtain ⟨p, bs, rfl, hq, q⟩ := h
  obtain ⟨u, rfl, rx⟩ := vals1 r
  cases rx
  obtain ⟨its, rv, pl, hz⟩ := I.list hq
  have hlen := rv.length
  rw [List.length_map] at hlen
  obtain ⟨o, n, ho, hcl, hdd, hd⟩ := id pl
  have hlt : p < s.heap.objs.size := Heap.lt_size ho
  refine call_all_walk (wpAny_pyIter_list pl.isList ⟨s.heap.objs.size, [s.heap.objs.size, p], [s.heap.objs.size], its.toArray.size, _, _, fun i => (bs[i]?).getD true, rfl,
    Walks.list (A := X.A.in1) (I.ok.hd hc) _ p (Nat.ne_of_lt hlt) its.toArray, ⟨⟨_, Heap.get?_push_size _ rfl, rfl, rfl⟩, pl.isList.push _⟩, ?_, ?_⟩)
  · intro i v s' Q' E' hP hQ
    have hP' : its[i]? = some v := by simpa using hP
    have hi : i < bs.length := by rw [hlen]; exact (List.getElem?_eq_some_iff.mp hP').1
    obtain ⟨u, e1, e2⟩ := rv.get (i := i) (x := .bl bs[i]) (by rw [List.getElem?_map, List.getElem?_eq_getElem hi]; rfl)
    rw [hP'] at e1
    cases e1
    have e3 : v = Value.bool bs[i] := e2
    subst e3
    have hQ' : Q' ((bs[i]?).getD true) s' := hQ
    rw [List.getElem?_eq_getElem hi] at hQ'
    exact wpAny_truthy_bool hQ'
  · intro h' tk hk
    have kp : ∀ b x, s.heap.get? b = some x → h'.get? b = some x := fun b x e =>
      hk b x (fun hm => by rw [List.mem_singleton.mp hm] at e; exact Nat.lt_irrefl _ (Heap.lt_size e)) (Heap.get?_push_of_some _ e)
    rw [List.size_toArray, ← hlen, all_range]
    exact ⟨.bl _, H, I.kept kp, rfl, q⟩
theorem neAt_ints {pins : List (Addr × Obj)} {σ : St} {H : Hp} {s : Shared} {A : Around} {a b : Addr} {ns ms : List Int} (I : Inv X pins σ H s) (ha : SqL X.K H a (ns.map V.int)) (hb : SqL X.K H b (ms.map V.int)) (hu : A.units < cLine) :
    SeqAt.RcNeAt A s (.ref a) (.ref b) (!decide (ns = ms)) := by
  obtain ⟨its, r1, p1, z1⟩ := I.list ha
  obtain ⟨its2, r2, p2, z2⟩ := I.list hb
  have l1 := r1.length
  have l2 := r2.length
  rw [List.length_map] at l1 l2
  by_cases hl : ns.length = ms.length
  · have hsz : its.toArray.size = its2.toArray.size := by simp only [List.size_toArray]; omega
    have q := SeqAt.RcNeAt.lists (A := A) (e := fun j => ns.getD j 0 == ms.getD j 0) p1.isList p2.isList hsz hu (fun j h1 h2 => by
      have h1' : j < its.length := by simpa using h1
      have h2' : j < its2.length := by simpa using h2
      have g1 : (ns.map V.int)[j]? = some (.int (ns.getD j 0)) := by
        rw [List.getElem?_map, List.getElem?_eq_getElem (by omega : j < ns.length)]
        simp [List.getD_eq_getElem?_getD, List.getElem?_eq_getElem (by omega : j < ns.length)]
      have g2 : (ms.map V.int)[j]? = some (.int (ms.getD j 0)) := by
        rw [List.getElem?_map, List.getElem?_eq_getElem (by omega : j < ms.length)]
        simp [List.getD_eq_getElem?_getD, List.getElem?_eq_getElem (by omega : j < ms.length)]
      obtain ⟨u1, e1, t1, rfl⟩ := r1.get g1
      obtain ⟨u2, e2, t2, rfl⟩ := r2.get g2
      have f1 : its.toArray[j] = Value.int (ns.getD j 0) t1 := by
        rw [List.getElem?_eq_getElem h1'] at e1; simpa using e1
      have f2 : its2.toArray[j] = Value.int (ms.getD j 0) t2 := by
        rw [List.getElem?_eq_getElem h2'] at e2; simpa using e2
      rw [f1, f2]
      exact SeqAt.EqAt.int_int _ _ _ _)
    rw [List.size_toArray, ← l1, range_all_eq ns ms hl] at q
    exact q
  · rw [decide_eq_false (fun e => hl (by rw [e]))]
    exact SeqAt.RcNeAt.lists_lengths p1.isList p2.isList (by simp only [List.size_toArray, bne_iff_ne]; omega) hu
def rNeInts (K : PySem.W.Frag) : R2 := fun x y H Q => ∃ (a b : Addr) (ns ms : List Int), x = .ref a ∧ y = .ref b ∧ SqL K H a (ns.map V.int) ∧ SqL K H b (ms.map V.int) ∧ Q (.bl (!decide (ns = ms))) H
theorem op_ne_ints (hu : X.A.units < cLine) : OpR X (compareOp .NotEq) (rNeInts X.K) := by
  intro pins s σ H x y v u Q I rx ry h
  obtain ⟨a, b, ns, ms, rfl, rfl, ha, hb, q⟩ := h
  cases rx; cases ry
  exact neAt_ints I ha hb hu X.prog X.w X.xe _ ⟨.bl _, H, I, rfl, q⟩
def rNeRows (K : PySem.W.Frag) : R2 := fun x y H Q => ∃ (p q : Addr) (as bs : List Addr) (ns ms : List (List Int)), x = .ref p ∧ y = .ref q ∧ SqL K H p (as.map V.ref) ∧ SqL K H q (bs.map V.ref) ∧ RowsAt K H as ns ∧ RowsAt K H bs ms ∧ Q (.bl (!decide (ns = ms))) H
theorem op_ne_rows (hu : X.A.units + 1 < cLine) : OpR X (compareOp .NotEq) (rNeRows X.K) := by
  intro pins s σ H x y v u Q I rx ry h
  obtain ⟨p, q, as, bs, ns, ms, rfl, rfl, ha, hb, rn, rm, qq⟩ := h
  cases rx; cases ry
  obtain ⟨its, r1, p1, z1⟩ := I.list ha
  obtain ⟨its2, r2, p2, z2⟩ := I.list hb
  have l1 := r1.length
  have l2 := r2.length
  rw [List.length_map] at l1 l2
  have ln := rn.length
  have lm := rm.length
  have hu1 : X.A.in1.units < cLine := by
    have : X.A.in1.units ≤ X.A.units + 1 := by first | exact Nat.le_refl _ | simp [Around.in1]
    omega
  by_cases hl : ns.length = ms.length
  · have hsz : its.toArray.size = its2.toArray.size := by simp only [List.size_toArray]; omega
    refine SeqAt.RcNeAt.lists (A := X.A) (e := fun j => decide (ns.getD j [] = ms.getD j [])) p1.isList p2.isList hsz (by omega) (fun j h1 h2 => ?_) X.prog X.w X.xe _ ?_
    · have h1' : j < its.length := by simpa using h1
      have h2' : j < its2.length := by simpa using h2
      obtain ⟨a, ea, sa⟩ := rn.get (i := j) (r := ns.getD j []) (by rw [List.getElem?_eq_getElem (by omega : j < ns.length)]; simp [List.getD_eq_getElem?_getD, List.getElem?_eq_getElem (by omega : j < ns.length)])
      obtain ⟨b, eb, sb⟩ := rm.get (i := j) (r := ms.getD j []) (by rw [List.getElem?_eq_getElem (by omega : j < ms.length)]; simp [List.getD_eq_getElem?_getD, List.getElem?_eq_getElem (by omega : j < ms.length)])
      have g1 : (as.map V.ref)[j]? = some (.ref a) := by rw [List.getElem?_map, ea]; rfl
      have g2 : (bs.map V.ref)[j]? = some (.ref b) := by rw [List.getElem?_map, eb]; rfl
      obtain ⟨u1, e1, q1⟩ := r1.get g1
      obtain ⟨u2, e2, q2⟩ := r2.get g2
      cases q1; cases q2
      have f1 : its.toArray[j] = Value.ref a := by
        rw [List.getElem?_eq_getElem h1'] at e1; simpa using e1
      have f2 : its2.toArray[j] = Value.ref b := by
        rw [List.getElem?_eq_getElem h2'] at e2; simpa using e2
      rw [f1, f2]
      by_cases hab : a = b
      · subst hab
        have hm : (ns.getD j []).map V.int = (ms.getD j []).map V.int := I.list_inj sa sb
        have hm' : ns.getD j [] = ms.getD j [] := (List.map_inj_right (fun x y h => by injection h)).mp hm
        rw [decide_eq_true hm']
        exact SeqAt.EqAt.same _
      · exact SeqAt.EqAt.of_refs hab (eqAt_ints I sa sb hu1)
    · rw [List.size_toArray, ← l1, ln, range_all_rows ns ms hl]
      exact ⟨.bl _, H, I, rfl, qq⟩
  · refine SeqAt.RcNeAt.lists_lengths p1.isList p2.isList (by simp only [List.size_toArray, bne_iff_ne]; omega) (by omega) X.prog X.w X.xe _ ?_
    rw [decide_eq_false (fun e => hl (by rw [e]))] at qq
    exact ⟨.bl _, H, I, rfl, qq⟩
end
section
variable {X : Cx} {K : PySem.W.Frag}
end
end L2
namespace KH
def Path (rows : List (List Int)) (l : List Int) : Prop := ∀ k, k + 1 < l.length → l.getD (k + 1) 0 ∈ R rows (l.getD k 0)
theorem IsHall.other {rows : List (List Int)} (h : IsHall rows) {u v : Int} (hu : 0 ≤ u ∧ u < rows.length) (hv : 0 ≤ v ∧ v < rows.length) (ne : u ≠ v) : u ∈ R rows v ↔ ¬ v ∈ R rows u := by
  have eR : ∀ i : Nat, R rows (i : Int) = rowAt rows i := fun i => by unfold R rowAt; rw [Int.toNat_natCast]
  obtain ⟨i, rfl⟩ : ∃ i : Nat, u = i := ⟨u.toNat, by omega⟩
  obtain ⟨j, rfl⟩ : ∃ j : Nat, v = j := ⟨v.toNat, by omega⟩
  rw [eR, eR]
  rcases Nat.lt_or_gt_of_ne (show i ≠ j by omega) with q | q
  · exact h.one j i q (by omega)
  · have := h.one i j q (by omega)
    constructor
    · intro a b; exact this.mp b a
    · intro a; exact Classical.byContradiction fun b => a (this.mpr b)
end KH
namespace L2
open PySem PySem.Spec PyProof.Rows
theorem HOk.keptOn {P : Program} {w : World} {H : Hp} {h h' : Heap} (x : HOk P w H h) (k : ∀ b u o, H b = some o → h.get? b = some u → h'.get? b = some u) : HOk P w H h' := fun a o e =>
  (x a o e).stay (fun b u hb q => by
    rcases hb with z | z
    · subst z; exact k _ _ _ e q
    · exact k _ _ _ z q) (fun _ q => q) fun _ _ q => q
theorem ObjOk.has {P : Program} {w : World} {H : Hp} {h : Heap} {a : Addr} {o : HO} (x : ObjOk P w H h a o) : ∃ ob, h.get? a = some ob := by
  cases o with
  | lst xs => obtain ⟨_, _, _, _, e⟩ := x; exact ⟨_, e⟩
  | tup xs => obtain ⟨_, _, _, _, e, _⟩ := x; exact ⟨_, e⟩
  | dK kvs => obtain ⟨_, _, _, _, o, _, _, e, _⟩ := x; exact ⟨_, e⟩
  | dT kvs => obtain ⟨_, _, _, _, o, _, _, e, _⟩ := x; exact ⟨_, e⟩
  | set S n => obtain ⟨o, _, _, _, e, _⟩ := x; exact ⟨_, e⟩
  | ins C dx fs => obtain ⟨_, _, _, e, _⟩ := x; exact ⟨_, e⟩
  | own y => obtain ⟨_, e⟩ := x; exact ⟨_, e⟩
  | xd fs => obtain ⟨_, ⟨_, _, _, e, _⟩, _⟩ := x; exact ⟨_, e⟩
  | rng lo hi => obtain ⟨_, _, _, e⟩ := x; exact ⟨_, e⟩
  | frz ob u => obtain ⟨e, _⟩ := x; exact ⟨_, e⟩
  | tbl ps => exact ⟨_, (show h.get? a = some _ from x)⟩
  | met f y => exact ⟨_, (show h.get? a = some _ from x)⟩
  | ext φ => obtain ⟨_, ⟨_, e⟩, _⟩ := x; exact ⟨_, e⟩
def CXE (P : Program) (w : World) : CXT := fun outer H s E e s' => ∃ (ea C : Addr) (a0 : Value) (H' : Hp) (B : Heap), e = .ref ea ∧ s'.os = s.os ∧ AllBare s'.gens ∧ Un (frs outer) [] H H' s.heap s'.heap ∧ HOk P w H' s'.heap ∧
  Heap.FlyingW B outer ea (.ref C) a0 s'.heap ∧ (∀ b, b ∉ frs outer → ((∃ o, s.heap.get? b = some o) ∨ ∃ u, H' b = some u) → ∃ o, B.get? b = some o) ∧ E (.ref C) none H'
section
variable {P : Program} {w : World} {K : PySem.W.Frag} {mg : Str → Option Value} {base : Heap} {N : List Str} {qual : Str} {scope : Scope} {f : Addr} {cd : Value} {A : Around} {outer : List Env} {s : Shared} {H : Hp} {E : XK}
theorem leave_core {pins : List (Addr × Obj)} {σ : St} {H1 : Hp} {s1 : Shared} {ea C : Addr} {a0 : Value} {B h' : Heap} {g' : Array GenState} {d' : Drawn} {t' : Nat} (I : Inv (cxOf (CXE P w) P w K mg base N qual scope f cd A outer s H E) pins σ H1 s1)
    (hg : AllBare g') (fl : Heap.FlyingW B outer ea (.ref C) a0 h') (up : s1.heap.UpToSlots h')
    (cov : ∀ b, b ∉ frs (envOfC qual scope s.heap.objs.size f cd :: outer) → ((∃ o, s.heap.get? b = some o) ∨ ∃ u, H1 b = some u) → ∃ o, B.get? b = some o ∧ s1.heap.get? b = some o)
    (q : E (.ref C) none H1) : CXE P w outer H s E (.ref ea) ⟨h', g', d', t', s1.os⟩ := by
  have base_ : Un (frs outer) [] H H1 s.heap s1.heap := I.base
  have stk : ∀ b, b ∈ frs (envOfC qual scope s.heap.objs.size f cd :: outer) → H1 b = none := I.stkFree
  have loc : ∀ b, b ∈ frs (envOfC qual scope s.heap.objs.size f cd :: outer) → b = s.heap.objs.size ∨ b ∈ frs outer := fun b hb => List.mem_cons.mp (I.stkSub b hb)
  have nst : ∀ b o, s.heap.get? b = some o → b ∉ frs outer → b ∉ frs (envOfC qual scope s.heap.objs.size f cd :: outer) := fun b o e hb hm => by
    rcases loc b hm with z | z
    · rw [z] at e; exact absurd (Heap.lt_size e) (Nat.lt_irrefl _)
    · exact hb z
  have keep : ∀ b o, s1.heap.get? b = some o → b ∉ frs (envOfC qual scope s.heap.objs.size f cd :: outer) → ((∃ o, s.heap.get? b = some o) ∨ ∃ u, H1 b = some u) → h'.get? b = some o := fun b o e hb hc => by
    obtain ⟨o', e1, e2⟩ := cov b hb hc
    rw [e] at e2
    cases e2
    exact fl.1 _ _ e1
  have slot : ∀ b o, s.heap.get? b = some o → H b = none → b ∈ frs outer → ∃ sl, h'.get? b = some { o with slots := sl } := fun b o e hn hm => by
    obtain ⟨sl, e1⟩ := base_.slot b o e hn hm (by simp)
    obtain ⟨_, o', ho', hd⟩ := I.ok.funs.mem (show b ∈ (outer.filterMap (·.frame)) from hm)
    have eo : o' = o := by
      have : s.heap.get? b = some o' := ho'
      rw [e] at this
      exact (Option.some.inj this).symm
    subst eo
    obtain ⟨sl2, e2⟩ := up b _ e1 hd
    exact ⟨sl2, e2⟩
  refine ⟨ea, C, a0, H1, B, rfl, I.os, hg, ⟨fun b o e hn hb _ => ?_, fun b o e hn hb _ => slot b o e hn hb, fun b o e hn hx => base_.free b o e hn hx, fun b o e hx => ?_, base_.tups, base_.frzs, base_.tbls⟩, ?_, fl, fun b hb hc => ?_, q⟩
  · exact keep b o (base_.keep b o e hn hb (by simp)) (nst b o e hb) (.inl ⟨o, e⟩)
  · by_cases hb : b ∈ frs outer
    · obtain ⟨sl, e1⟩ := slot b o e (I.ok.frf b hb) hb
      exact ⟨_, e1⟩
    · obtain ⟨o', e1⟩ := base_.there b o e hx
      exact ⟨o', keep b o' e1 (nst b o e hb) (.inl ⟨o, e⟩)⟩
  · exact I.hok.keptOn fun b u o e1 e2 => keep b u e2 (fun hm => by rw [stk b hm] at e1; cases e1) (.inr ⟨o, e1⟩)
  · by_cases hm : b ∈ frs (envOfC qual scope s.heap.objs.size f cd :: outer)
    · rcases loc b hm with z | z
      · rcases hc with ⟨o, e⟩ | ⟨u, e⟩
        · rw [z] at e; exact absurd (Heap.lt_size e) (Nat.lt_irrefl _)
        · rw [stk b hm] at e; cases e
      · exact absurd z hb
    · obtain ⟨o, e1, _⟩ := cov b hm hc
      exact ⟨o, e1⟩
theorem raiseE {pins : List (Addr × Obj)} {σ : St} {H1 : Hp} {s1 : Shared} {h2 : Heap} {ea C : Addr} {args : List Value} (I : Inv (cxOf (CXE P w) P w K mg base N qual scope f cd A outer s H E) pins σ H1 s1)
    (hx : Heap.MadeExcOf s1.heap h2 ea (.ref C) args) (q : E (.ref C) none H1) : (cxOf (CXE P w) P w K mg base N qual scope f cd A outer s H E).xe (.ref ea) { s1 with heap := h2 } := by
  obtain ⟨hh, g, d, t, os'⟩ := s1
  have hin : ∀ env ∈ (envOfC qual scope s.heap.objs.size f cd :: outer), ∀ b, env.frame = some b → b ∈ frs (envOfC qual scope s.heap.objs.size f cd :: outer) := fun env he b hb => List.mem_filterMap.mpr ⟨env, he, hb⟩
  refine wpAny_leaves_madeW (A := A.deeper (envOfC qual scope s.heap.objs.size f cd)) (base := PySem.W.hideAll hh (frs (envOfC qual scope s.heap.objs.size f cd :: outer))) (h := hh) I.ok.frames rfl (fun b o q => PySem.W.of_hideAll _ q) (PySem.W.funFrames_hide I.stack hin) hx fun h' t x1 x2 x3 x4 => ?_
  refine leave_core (s1 := ⟨hh, g, d, _, os'⟩) I I.bare x1 ((Heap.UpToSlots.of_keeps hx.keeps).trans x4) (fun b hb hc => ?_) q
  have : ∃ o, hh.get? b = some o := by
    rcases hc with ⟨o, e⟩ | ⟨u, e⟩
    · exact I.base.there b o e (fun z => absurd (show b ∈ ([] : List Addr) from z) (by simp))
    · exact (I.hok b u e).has
  obtain ⟨o, e⟩ := this
  exact ⟨o, PySem.W.hideAll_get _ e hb, e⟩
end
end L2
namespace L2
open PySem PySem.Spec PyProof.Rows
abbrev bmVE : List Value := [.type "ValueError", .type "Exception", .type "BaseException", .type "object"]
abbrev OwnE (mg : Str → Option Value) (base : Heap) (x : Str) (C : Addr) : Prop := OwnCls x C bmVE "ValueError.__new__" mg base
def tRaise (E : XK) (C : Addr) (t : TA) : TS := fun _ σ H => t σ H fun vs H1 => vs.length ≤ sizeLine ∧ E (.ref C) none H1
section
variable {P : Program} {w : World} {K : PySem.W.Frag} {mg : Str → Option Value} {base : Heap} {N : List Str} {qual : Str} {scope : Scope} {f : Addr} {cd : Value} {A : Around} {outer : List Env} {s : Shared} {H : Hp} {E : XK}
theorem ps_raise {x : Str} {C : Addr} {np cpos pos : Pos} {e : Expr} {es : List Expr} {t : TA} (O : OwnE mg base x C) (hg : Gl (cxOf (CXE P w) P w K mg base N qual scope f cd A outer s H E) x)
    (ha : PA (cxOf (CXE P w) P w K mg base N qual scope f cd A outer s H E) (e :: es) t) (hdb : (x == ("__debug__" : Str)) = false := by decide)
    (he : starEach (e :: es) (cxOf (CXE P w) P w K mg base N qual scope f cd A outer s H E).env = (false, eval e (cxOf (CXE P w) P w K mg base N qual scope f cd A outer s H E).env) :: starEach es (cxOf (CXE P w) P w K mg base N qual scope f cd A outer s H E).env := by rfl)
    (hpl : (backTo cpos (starEach es (cxOf (CXE P w) P w K mg base N qual scope f cd A outer s H E).env)).any (·.1) = false := by rfl) :
    PS (cxOf (CXE P w) P w K mg base N qual scope f cd A outer s H E) (.Raise (some (.Call (.Name x np) (e :: es) [] cpos)) none pos) (tRaise E C t) := by
  intro pins s1 σ H1 D I h
  obtain ⟨tl, Nn, nm, q, bs, hdct, sn, sub, ab, col, dd, k0, k1, k2, k3, k5, mN, hC, hN, hni, T⟩ := O.obj
  have hh : (cxOf (CXE P w) P w K mg base N qual scope f cd A outer s H E).A.handled = none := I.ok.hd rfl
  refine wpAny_Raise_call_subU (C := C) (nm := nm) (q := q) (N := Nn) (bs := bs) (bm := tl) (hdct := hdct) (sn := sn) (sub := sub) (ab := ab) (col := col) (dd := dd) (k0 := k0) (k1 := k1) (k2 := k2) (k3 := k3) (k5 := k5)
    PySem.F.excBase_ValueError (by decide +kernel) PySem.F.excBase_ValueError (mN := mN) (T.hasType (by decide +kernel)) hh (by rw [he]; exact hpl) hni ?_
  refine ld_glob I hg O.bound ⟨rfl, ?_⟩ hdb
  have hA := fun Q (hq : t σ H1 Q) => ha cpos pins s1 σ H1 Q I hq
  rw [he] at hA ⊢
  refine Calls.evalArgs_plain (thn (hA _ h) fun us s2 ⟨vs, H2, I2, r2, hz, q2⟩ => ?_)
  have kb := I2.bk
  exact ⟨rfl, by rw [← r2.length]; exact hz, kb _ _ hC, hN.keeps kb, T.keeps kb, fun h' e' hm => raiseE I2 hm q2⟩
end
end L2
namespace L2
open PySem PySem.Spec PyProof.Rows
section
variable {P : Program} {w : World} {K : PySem.W.Frag} {mg : Str → Option Value} {base : Heap}
theorem Fun.okE {x qual : Str} {st : Stmt} {f : Addr} {fd : FuncData} {N ps : List Str} {k : Nat} {sp : Sp} (F : Fun K x qual st f fd) (S : FnScope N ps (defScope st)) (len : ∀ vs H Q E, sp vs H Q E → vs.length = ps.length)
    (hbody : ∀ (cdv : Value) (A : Around) (outer : List Env) (s : Shared) (H : Hp) (vs : List V) (Q : VK) (E : XK), Room k (A.deeper (envOfC qual (defScope st) s.heap.objs.size f cdv)) → sp vs H Q E →
      ∃ t, PSs (cxOf (CXE P w) P w K mg base N qual (defScope st) f cdv A outer s H E) (defBody st) t ∧ t { nx := fun _ H' => Q .non H', rt := Q } (start N vs) H) : FnOk P w K mg base (CXE P w) (k + 1) f fd ps sp := by
  obtain ⟨oc, od, kV, doc, pm, an, cdv, ct, osl, rfl, lk, hcd⟩ := F.ex
  exact fn_of lk hcd S len fun A outer s H vs Q E hr hsp => hbody cdv A outer s H vs Q E hr hsp
def HasE (P : Program) (w : World) (K : PySem.W.Frag) (mg : Str → Option Value) (base : Heap) (k : Nat) (x : Str) (ps : List Str) (sp : Sp) : Prop :=
  ∃ f fd, FnOk P w K mg base (CXE P w) k f fd ps sp ∧ Binds K fd ps [] ∧ PySem.W.keepIn K (.ref f) = true ∧ mg x = some (.ref f)
end
section
variable {X : Cx} {k : Nat} {x : Str} {ps : List Str} {sp : Sp} {p pos : Pos} {e : Expr} {es : List Expr} {t : TA} {E : XK}
theorem HasE.has (C : HasE X.prog X.w X.K X.mg X.base k x ps sp) (sp' : Sp) (h : ∀ vs H Q E, sp' vs H Q E → sp vs H Q E0) : Has X.prog X.w X.K X.mg X.base k x ps sp' := by
  obtain ⟨f, fd, F, b, kp, m⟩ := C
  refine ⟨f, fd, ⟨fun vs H Q E q => F.len vs H Q E0 (h _ _ _ _ q), fun A outer s H args us vs Q E hr e0 hb r hs => ?_⟩, b, kp, m⟩
  refine codeAny_mono (F.run A outer s H args us vs Q E0 hr e0 hb r (h _ _ _ _ hs)) fun r s' hq => ?_
  cases r with
  | ok fl =>
    cases fl with
    | ret u => exact hq
    | next => exact hq
    | brk => exact hq
    | cont => exact hq
  | error e =>
    obtain ⟨_, _, _, _, _, _, _, _, _, _, _, _, q⟩ := hq
    exact q.elim
end
end L2
namespace L2
open PySem PySem.Spec PyProof.Rows
section
variable {X : Cx} {k : Nat} {x : Str} {ps : List Str} {sp : Sp} {p pos : Pos} {e : Expr} {es : List Expr} {t : TA} {E : XK}
end
end L2
namespace L2
open PySem PySem.Spec PyProof.Rows
section
variable {M : Model} {A : Around} {E : Value → Shared → Prop}
variable {nm qn : Str} {C N : Addr} {bs bm : List Value} {hdct : Bool} {sn : List Str} {sub : List Value} {ab : Bool} {col : Option Bool} {dd : Option Addr} {k0 k1 k2 k3 k5 : Option Value} {newId : String}
variable {nm' qn' : Str} {D N' : Addr} {bs' bm' : List Value} {hdct' : Bool} {sn' : List Str} {sub' : List Value} {ab' : Bool} {col' : Option Bool} {dd' : Option Addr} {l0 l1 l2 l3 l5 : Option Value} {newId' : String}
end
end L2
namespace L2
open PySem PySem.Spec PyProof.Rows
theorem track {P : Program} {w : World} {l : List Env} {H H' : Hp} {h h2 : Heap} {ea : Addr} {o : HO} (u : Un (frs l) [] H H' h h2) (hok0 : HOk P w H h) (hok : HOk P w H' h2) (hn : h.get? ea = none) (hH : H' ea = none) (new : ObjOk P w (upd H' ea o) h2 ea o) :
    Un (frs l) [] H (upd H' ea o) h h2 ∧ HOk P w (upd H' ea o) h2 := by
  have ne : ∀ b q, h.get? b = some q → b ≠ ea := fun b q e z => by rw [z, hn] at e; cases e
  have neT : ∀ b q, H b = some q → b ≠ ea := fun b q e => let ⟨ob, x⟩ := (hok0 b q e).has; ne b ob x
  have neH : ∀ b q, H' b = some q → b ≠ ea := fun b q e z => by rw [z, hH] at e; cases e
  refine ⟨⟨u.keep, u.slot, fun b q e n hx => ?_, u.there, fun b xs e => ?_, fun b q v e => ?_, fun b ps e => ?_⟩, fun a q e => ?_⟩
  · rw [upd_ne (ne b q e)]; exact u.free b q e n hx
  · rw [upd_ne (neT b _ e)]; exact u.tups b xs e
  · rw [upd_ne (neT b _ e)]; exact u.frzs b q v e
  · rw [upd_ne (neT b _ e)]; exact u.tbls b ps e
  · by_cases z : a = ea
    · subst z
      rw [upd_same] at e
      cases e
      exact new
    · rw [upd_ne z] at e
      exact (hok a q e).stay (fun _ _ _ q => q) (fun b r => by rw [upd_ne (neH b _ r)]; exact r) fun b xs r => by rw [upd_ne (neH b _ r)]; exact r
end L2
namespace L2
open PySem PySem.Spec PyProof.Rows
def Under (base : Heap) (C D : Addr) : Prop := ∃ bm N nm q bs hdct sn sub ab col dd k0 k1 k2 k3 k5 newId, base.get? C = some (excClassObj nm q C N bs bm hdct sn sub ab col dd k0 k1 k2 k3 k5 newId) ∧ (Value.ref C :: bm).contains (.ref D) = true
end L2
namespace L2
open PySem PySem.Spec PyProof.Rows
section
variable {X : Cx} {k : Nat} {x : Str} {ps : List Str} {sp : Sp} {p pos p2 tp np hp : Pos} {e : Expr} {es : List Expr} {t : TA} {i : Nat} {n c : Str} {Dc : Addr} {b₀ : Stmt} {suite : List Stmt} {tb : TS}
end
end L2
namespace L2
open PySem PySem.Spec PyProof.Rows
structure RoomM (k : Nat) (A : Around) : Prop where
  dp : A.depth + 3 * k + 5 < recursionLimit
  un : A.units + 16 * k + 200 < cLine
theorem RoomM.mono {j k : Nat} {A : Around} (r : RoomM k A) (h : j ≤ k) : RoomM j A := ⟨by have := r.dp; omega, by have := r.un; omega⟩
theorem RoomM.deeper {k : Nat} {A : Around} (r : RoomM (k + 1) A) (env : Env) : RoomM k (A.deeper env) :=
  ⟨by have := r.dp; show A.depth + 1 + 3 * k + 5 < _; omega, by have := r.un; show A.units + 3 + 16 * k + 200 < _; omega⟩
theorem RoomM.hu {k : Nat} {A : Around} (r : RoomM k A) : A.units + 1 < cLine := by have := r.un; omega
section
variable {P : Program} {w : World} {K : PySem.W.Frag} {mg : Str → Option Value} {base : Heap}
end
section
variable {X : Cx} {k : Nat} {x : Str} {ps : List Str} {sp : Sp} {p pos : Pos} {e : Expr} {es : List Expr} {t : TA}
end
end L2
namespace L2
open PySem PySem.Spec PyProof.Rows PySem.W PySem.SeqAt PySem.Calls Builtin Builtin.ObjectAttr Builtin.Getset_descriptor
structure ExcFacts (K : PySem.W.Frag) (C : Addr) : Prop where
  ga : findIn K (.ref C) "__getattribute__" = some (some (.builtin "BaseException.__getattribute__"))
  be : mroIn K C (.type "BaseException") = some true
  gh : findIn K (.ref C) "__getattr__" = some none
  cl : findIn K (.ref C) "__class__" = some (some (.builtin "object.__class__"))
  gt : specialIn K (.builtin "object.__class__") "__get__" = some (some (.builtin "getset_descriptor.__get__"))
  tk : takesIn K (.builtin "object.__class__") = some true
  ob : mroIn K C (.type "object") = some true
  me : mroIn K C (.ref C) = some true
def OfCls (x C : Addr) (h : Heap) : Prop := ∃ o, h.get? x = some o ∧ o.cls = .ref C
theorem OfCls.ty {M : Model} {x C : Addr} {h : Heap} (I : OfCls x C h) : Looks M h (typeOf (.ref x)) (.ref C) := by
  obtain ⟨o, e, c⟩ := I
  have t : Looks M h (typeOf (.ref x)) o.cls := (Looks.ld e).andThen .now
  rw [c] at t
  exact t
section
variable {prog : Program} {w : World} {A : Around} {E : Value → Shared → Prop} {s : Shared} {K : PySem.W.Frag} {x C : Addr}
end
section
variable {X : Cx}
end
theorem own_of {K : PySem.W.Frag} {h : Heap} {mg : Str → Option Value} {x : Str} {C : Addr} (X : K.In h) (G : h.Ns mainGlobals mg) (e : nsIn K mainGlobals x = some (some (.ref C))) (q : excIn K C bmVE "ValueError.__new__" = true) : OwnE mg h x C := by
  refine ⟨mg_of X G e, ?_⟩
  unfold excIn at q
  split at q
  · rename_i dd cd sl ho
    split at q
    · rename_i C' bm k0 k1 k2 k3 n k5 hm hs
      simp only [Bool.and_eq_true, beq_iff_eq, Bool.not_eq_true'] at q
      obtain ⟨⟨⟨⟨⟨rfl, rfl⟩, hdel⟩, ht⟩, hok⟩, hni⟩ := q
      obtain ⟨nm, bs, mro, ns, qn, hd, sn, sub, ab, col, del⟩ := cd
      dsimp only at hm hdel hok hni; subst hm hdel
      have hsl : sl = #[k0, k1, k2, k3, some (.builtin "ValueError.__new__"), k5] := by
        obtain ⟨l⟩ := sl
        rw [show l = _ from hs]
      subst hsl
      exact ⟨bm, ns, nm, qn, bs, hd, sn, sub, ab, col, dd, k0, k1, k2, k3, k5, _, X _ _ ho, .of_isNs (isNs_of_in X hok), nsMap_none_of_in X hok hni, (tail_of_in X ht)⟩
    · cases q
  · cases q
theorem under_of {K : PySem.W.Frag} {h : Heap} {C D : Addr} (X : K.In h) (q : excIn K C bmVE "ValueError.__new__" = true) (m : mroIn K C (.ref D) = some true) : Under h C D := by
  unfold excIn at q
  split at q
  · rename_i dd cd sl ho
    split at q
    · rename_i C' bm k0 k1 k2 k3 n k5 hm hs
      simp only [Bool.and_eq_true, beq_iff_eq, Bool.not_eq_true'] at q
      obtain ⟨⟨⟨⟨⟨rfl, rfl⟩, hdel⟩, ht⟩, hok⟩, hni⟩ := q
      obtain ⟨nm, bs, mro, ns, qn, hd, sn, sub, ab, col, del⟩ := cd
      dsimp only at hm hdel hok hni; subst hm hdel
      have hsl : sl = #[k0, k1, k2, k3, some (.builtin "ValueError.__new__"), k5] := by
        obtain ⟨l⟩ := sl
        rw [show l = _ from hs]
      subst hsl
      refine ⟨bm, ns, nm, qn, bs, hd, sn, sub, ab, col, dd, k0, k1, k2, k3, k5, _, X _ _ ho, ?_⟩
      unfold mroIn clsIn at m
      rw [ho] at m
      simpa using m
    · cases q
  · cases q
end L2
namespace L2
open PySem PySem.Spec PyProof.Rows
section
variable {X : Cx}
def rRemove : V → List V → Hp → VK → Prop := fun x vs H Q => ∃ (l : Addr) (ns : List Int) (k : Int) (j : Nat), x = .ref l ∧ vs = [.int k] ∧ H l = some (.lst (ns.map V.int)) ∧ ns[j]? = some k ∧ (∀ i, i < j → ns[i]? ≠ some k) ∧ Q .non (upd H l (.lst ((ns.eraseIdx j).map V.int)))
theorem map_eraseIdx {α β : Type} (f : α → β) : ∀ (l : List α) (j : Nat), (l.eraseIdx j).map f = (l.map f).eraseIdx j
  | [], _ => rfl
  | _ :: _, 0 => rfl
  | x :: l, j + 1 => by rw [List.eraseIdx_cons_succ, List.map_cons, List.map_cons, List.eraseIdx_cons_succ, map_eraseIdx f l j]
theorem mt_remove : MtM X "list.remove" rRemove := by
  intro pins s σ H x vs v us Q I rx rv h
  obtain ⟨l, ns, k, j, rfl, rfl, hH, hj, hno, q⟩ := h
  cases rx
  obtain ⟨u, rfl, ru⟩ := rv.one
  obtain ⟨t, rfl⟩ := ru
  obtain ⟨z, its, n, r, hl, e⟩ := I.lstM hH
  have hml : (ns.map V.int).length = ns.length := List.length_map _
  have at_ : ∀ i (hi : i < its.length), ∃ t, its[i] = Value.int (ns.getD i 0) t := fun i hi => by
    have hin : i < ns.length := by omega
    obtain ⟨u, e1, t, e2⟩ := r.get (i := i) (x := .int ns[i]) (by rw [List.getElem?_map, List.getElem?_eq_getElem hin]; rfl)
    rw [List.getElem?_eq_getElem hi] at e1
    refine ⟨t, ?_⟩
    rw [Option.some.inj e1, e2, List.getD_eq_getElem?_getD, List.getElem?_eq_getElem hin]; rfl
  have hjn : j < ns.length := (List.getElem?_eq_some_iff.mp hj).1
  refine call_meets F.slot_list_remove ⟨_, e, rfl⟩ F.entry_list_remove (F.args_list_remove_2 _ _)
    (MeetsSeq.list_remove l its.toArray n (.int k t) (Value.isInt k) (fun y hy => ?_) j (by rw [List.size_toArray]; omega) ?_ (fun m hm hlt => ?_) (by rw [List.size_toArray]; omega)) ⟨e, ?_⟩
  · obtain ⟨i, hi, rfl⟩ := List.mem_iff_getElem.mp (show y ∈ its by simpa using hy)
    obtain ⟨t', e'⟩ := at_ i hi
    rw [e']
    exact MeetsSeq.EqGives.int _ k t' t
  · obtain ⟨t', e'⟩ := at_ j (by omega)
    show Value.isInt k its[j] = true
    rw [e', List.getD_eq_getElem?_getD, hj]
    simp [Value.isInt]
  · have hm' : m < its.length := by simpa using hm
    obtain ⟨t', e'⟩ := at_ m hm'
    show Value.isInt k its[m] = false
    have hmn : m < ns.length := by omega
    have q1 := hno m hlt
    rw [List.getElem?_eq_getElem hmn] at q1
    have q2 : ns[m] ≠ k := fun z => q1 (by rw [z])
    rw [e', List.getD_eq_getElem?_getD, List.getElem?_eq_getElem hmn]
    simp [Value.isInt, q2]
  refine ⟨.non, _, I.lset (its' := its.eraseIdx j) hH e ?_ ((map_eraseIdx V.int ns j).symm ▸ r.eraseIdx j) ?_, rfl, q⟩
  · show its.toArray.eraseIdxIfInBounds j = (its.eraseIdx j).toArray
    rw [List.eraseIdxIfInBounds_toArray]
  · have := len_erase ns j
    rw [List.length_map]
    omega
end
end L2
namespace L2
open PySem PySem.Spec PyProof.Rows
section
variable {X : Cx}
end
end L2
namespace L2
open PySem PySem.Spec PyProof.Rows
section
variable {X : Cx}
end
end L2
namespace L2
open PySem PySem.Spec PyProof.Rows
open AutoSeq1 (wpAny_loadPart')
section
variable {P : Program} {w : World} {A : Around} {E : Value → Shared → Prop} {s : Shared}
theorem nextT_item {j a : Addr} {k : Nat} {xs : Array Value} {x : Value} {Q : Value → Shared → Prop} (hj : s.heap.IsTupleIter j a k) (ha : s.heap.IsTuple a xs) (hx : xs[k]? = some x)
    (q : ∀ h', h'.IsTupleIter j a (k + 1) → Heap.SameBut j s.heap h' → Q x { s with heap := h' }) : wpAny (model P w) A (Builtin.SmallTypes.nextOf (.ref j)) Q E s := by
  obtain ⟨ob, e1, c1, d1⟩ := id hj
  obtain ⟨oa, e2, _, na, d2⟩ := ha
  unfold Builtin.SmallTypes.nextOf
  refine wpAny_bind (wpAny_callSpecial?_slot (name := Str.ofString "__next__") hj.typeIs F.slot_tuple_iterator_next (wpAny_call_entry F.slot_tuple_iterator_next hj.typeIs F.entry_tuple_iterator_next ?_ (F.args_tuple_iterator_next_1 _)))
  show wpAny _ _ (field (.ref j) 0 >>= _) _ _ s
  refine wpAny_bind (wpAny_field e1 d1 (x := .ref a) rfl ?_)
  show wpAny _ _ (if (Value.ref a == Value.none) = true then _ else _) _ _ s
  rw [if_neg (show ¬ ((Value.ref a == Value.none) = true) from Bool.false_ne_true)]
  show wpAny _ _ (field (.ref j) 1 >>= _) _ _ s
  refine wpAny_bind (wpAny_field e1 d1 (x := .int k 0) rfl ?_)
  show wpAny _ _ (seqItems? (.ref a) >>= _) _ _ s
  refine wpAny_bind (wpAny_seqItems e2 d2 ?_)
  simp only [Int.toNat_natCast, hx]
  refine wpAny_bind (wpAny_setField e1 d1 (by simp) (wpAny_pure ⟨x, rfl, wpAny_pure (q _ ?_ (Heap.SameBut.update ..))⟩))
  exact ⟨_, Heap.get?_update_self _ e1 (Obj.isFreed_of_fields (Obj.data_mapFields d1 _)), (Obj.cls_mapFields ..).trans c1, by rw [Obj.data_mapFields d1]; simp [rawInt]⟩
theorem nextT_end {j a : Addr} {k : Nat} {xs : Array Value} {Q : Value → Shared → Prop} (hd : A.handled = none) (hj : s.heap.IsTupleIter j a k) (ha : s.heap.IsTuple a xs) (hx : xs[k]? = none)
    (q : ∀ h' e, Heap.ExtBut j s.heap h' → (∃ o, h'.get? e = some o ∧ o.cls = .type "StopIteration") → E (.ref e) { s with heap := h' }) : wpAny (model P w) A (Builtin.SmallTypes.nextOf (.ref j)) Q E s := by
  obtain ⟨ob, e1, c1, d1⟩ := id hj
  obtain ⟨oa, e2, _, na, d2⟩ := ha
  unfold Builtin.SmallTypes.nextOf
  refine wpAny_bind (wpAny_callSpecial?_slot (name := Str.ofString "__next__") hj.typeIs F.slot_tuple_iterator_next (wpAny_call_entry F.slot_tuple_iterator_next hj.typeIs F.entry_tuple_iterator_next ?_ (F.args_tuple_iterator_next_1 _)))
  show wpAny _ _ (field (.ref j) 0 >>= _) _ _ s
  refine wpAny_bind (wpAny_field e1 d1 (x := .ref a) rfl ?_)
  show wpAny _ _ (if (Value.ref a == Value.none) = true then _ else _) _ _ s
  rw [if_neg (show ¬ ((Value.ref a == Value.none) = true) from Bool.false_ne_true)]
  show wpAny _ _ (field (.ref j) 1 >>= _) _ _ s
  refine wpAny_bind (wpAny_field e1 d1 (x := .int k 0) rfl ?_)
  show wpAny _ _ (seqItems? (.ref a) >>= _) _ _ s
  refine wpAny_bind (wpAny_seqItems e2 d2 ?_)
  simp only [Int.toNat_natCast, hx]
  refine wpAny_bind (wpAny_rule (wpAny_bind (wpAny_setField e1 d1 (by simp) ?_)))
  show wpAny _ _ (newExc (.type "StopIteration") [] >>= _) _ _ _; refine wpAny_bind ?_; simp only [newExc, newTuple]
  refine wpAny_bind (wpAny_newObj_type ?_ (by size_fits)); refine wpAny_bind (m := firstArgMember _ _) (wpAny_of_eq (a := Value.none) (by first | rfl | (simp only [firstArgMember]; rfl)) ?_); refine wpAny_newObj_type ?_ (by size_fits)
  simp only [raiseNew]; refine wpAny_bind (wpAny_handled ?_); first | rw [show A.in1.handled = none from hd] | rw [hd]
  refine wpAny_bind (wpAny_pure (wpAny_throw ?_)); exact q _ _ (((Heap.SameBut.update ..).extBut.push _).push _) ⟨_, Heap.get?_push_size _ rfl, rfl⟩
end
theorem drawsT {P : Program} {w : World} {A : Around} (hh : A.handled = none) (j a : Addr) (hne : a ≠ j) (xs : Array Value) :
    Draws P w A j [j, a] xs.size (fun i v => xs[i]? = some v) (fun i h => h.IsTupleIter j a i ∧ h.IsTuple a xs) where
  live := fun _ _ st => let ⟨o, ho, _⟩ := st.1; ⟨o, ho⟩
  frame := fun _ _ _ st hk => ⟨st.1.at fun o e => hk j (by simp) o e, by obtain ⟨o, ho, r⟩ := st.2; exact ⟨o, hk a (by simp) o ho, r⟩⟩
  item := fun i s Q E hi st hQ => nextT_item st.1 st.2 (x := xs[i]) (by simp [hi]) fun h' hj' hs' => hQ _ h' s.toks (by simp [hi]) ⟨hj', st.2.extBut hs'.extBut hne⟩ hs'
  done := fun s Q E st hE => nextT_end hh st.1 st.2 (by simp) hE
theorem meets_enumT (a : Addr) (xs : Array Value) (n : Nat) (dct : Option Addr) (sl : Array (Option Value)) :
    Meets (Builtin.«enumerate.__new__» ⟨[.type "enumerate", .ref a], []⟩) (fun _ R s => s.heap.get? a = some { cls := .type "tuple", dict := dct, data := .seq xs n, slots := sl } ∧
      R (.ok (.ret (.ref (s.heap.push { cls := .type "tuple_iterator", data := .fields #[.ref a, .int 0 0] }).objs.size)))
        { s with heap := (s.heap.push { cls := .type "tuple_iterator", data := .fields #[.ref a, .int 0 0] }).push { cls := .type "enumerate", data := .fields #[.none, .bool false, .ref s.heap.objs.size, rawInt 0, .none, .none] } }) :=
  .of_wp fun prog w A R s h => by
    obtain ⟨hp, g, d, tk, os⟩ := s; obtain ⟨e1, h⟩ := h
    have hsub := sub_enumerate
    have eT : Heap.IsTuple (Shared.heap ⟨hp, g, d, tk, os⟩) a xs := ⟨_, e1, rfl, n, rfl⟩
    wp_walk using wpAny_loadPart' e1
    refine wpAny_stack_any fun st => wpAny_pure ?_
    split
    · rename_i c _ _ _ _ _
      cases (c == Value.type "enumerate") <;> (wp_walk using wpAny_loadPart' e1, wpAny_pyIter_tuple eT; exact ⟨_, rfl, h⟩)
    · wp_walk using wpAny_loadPart' e1, wpAny_pyIter_tuple eT
      exact ⟨_, rfl, h⟩
theorem call_enumT {P : Program} {w : World} {A : Around} {E : Value → Shared → Prop} {s : Shared} {a : Addr} {xs : Array Value} {Q : Value → Shared → Prop} (ha : s.heap.IsTuple a xs)
    (h : ∀ h', IsEnum h' (s.heap.objs.size + 1) s.heap.objs.size 0 .none → h'.IsTupleIter s.heap.objs.size a 0 → h'.objs.size = s.heap.objs.size + 2 → (∀ b o, s.heap.get? b = some o → h'.get? b = some o) → Q (.ref (s.heap.objs.size + 1)) { s with heap := h' }) :
    wpAny (model P w) A (call (.type "enumerate") [.ref a]) Q E s := by
  obtain ⟨⟨c, dct, dt, sl⟩, e1, hc, n, hd⟩ := ha
  replace hc : c = .type "tuple" := hc
  replace hd : dt = .seq xs n := hd
  subst hc hd
  refine callType_new F.called_enumerate (by decide) (F.typeCall_enumerate_1 _) (F.newCall_enumerate_1 _) (fun obj => F.args_object_init_2 obj _) F.entry_enumerate_new (meets_enumT a xs n dct sl) ⟨e1, ?_⟩
  have hz : (s.heap.push { cls := .type "tuple_iterator", data := .fields #[.ref a, .int 0 0] }).objs.size = s.heap.objs.size + 1 := Heap.size_push ..
  show _ ∧ _
  rw [hz]
  have he : IsEnum ((s.heap.push { cls := .type "tuple_iterator", data := .fields #[.ref a, .int 0 0] }).push { cls := .type "enumerate", data := .fields #[.none, .bool false, .ref s.heap.objs.size, rawInt 0, .none, .none] }) (s.heap.objs.size + 1) s.heap.objs.size 0 .none := by
    have := Heap.get?_push_size (s.heap.push { cls := .type "tuple_iterator", data := .fields #[.ref a, .int 0 0] }) (o := { cls := .type "enumerate", data := .fields #[.none, .bool false, .ref s.heap.objs.size, rawInt 0, .none, .none] }) rfl
    rw [hz] at this; exact this
  exact ⟨⟨_, he, rfl⟩, h _ he ⟨_, Heap.get?_push_of_some _ (Heap.get?_push_size _ rfl), rfl, rfl⟩ (by rw [Heap.size_push, hz]) fun b o x => Heap.get?_push_of_some _ (Heap.get?_push_of_some _ x)⟩
def IteT (K : PySem.W.Frag) (a : Addr) : It :=
  ⟨fun i H => ∃ xs x, SqT K H a xs ∧ xs[i]? = some x, fun i H x H' => ∃ p v, H p = none ∧ x = .ref p ∧ H' = upd H p (.tup [.int i, v]) ∧ ∀ xs, SqT K H a xs → xs[i]? = some v, fun i H => ∃ xs, SqT K H a xs ∧ xs.length = i⟩
theorem turn_enumT {P : Program} {w : World} {K : PySem.W.Frag} {es : List Expr} {k : Nat} {pos : Pos} (a e it : Addr) (hne : e ≠ it) (hea : e ≠ a) (hia : a ≠ it) : Turn P w K (.Tuple es k pos) (IteT K a) [e, it] e (fun i h => ∃ old, IsEnum h e it i old ∧ h.IsTupleIter it a i) where
  mem := by simp
  obj := fun i h st b hb => by
    obtain ⟨old, s1, o, s2, c, d⟩ := st
    rcases List.mem_cons.mp hb with rfl | hb
    · exact ⟨_, s1, fun v z => by cases (show Data.fields _ = Data.cell v from z)⟩
    · have e : b = it := by simpa using hb
      subst e
      exact ⟨o, s2, fun v z => by rw [d] at z; cases z⟩
  keep := fun i h h' st kk => by
    obtain ⟨old, s1, s2⟩ := st
    exact ⟨old, kk e (by simp) _ s1, s2.at fun o q => kk it (by simp) o q⟩
  item := by
    intro X hP hw hK hc i pins s σ H E I hf st hg
    subst hP hw hK
    obtain ⟨xs, x, hq, hx⟩ := hg
    obtain ⟨old, s1, s2⟩ := st
    obtain ⟨its, rv, p, hz⟩ := I.tuple hq
    obtain ⟨u, hu, ru⟩ := rv.get hx
    obtain ⟨f0, f1, f2, f3, f4, f5⟩ := hf e (by simp)
    obtain ⟨g0, g1, g2, g3, g4, g5⟩ := hf it (by simp)
    have elt : e < s.heap.objs.size := Heap.lt_size s1
    have hil : i < its.toArray.size := by have := (List.getElem?_eq_some_iff.mp hu).1; simpa using this
    refine wpAny_pyNext_enum_itemD (drawsT (A := X.A.in1) (I.ok.hd hc) it a hia its.toArray) s1 ⟨s2, p⟩ hil hne (by simp [hne, hea]) fun y h1 tk hy o1 st1 t1 z1 k1 => ?_
    have ey : y = u := by
      have : its[i]? = some y := by simpa using hy
      rw [hu] at this
      exact (Option.some.inj this).symm
    subst ey
    obtain ⟨i1, _⟩ := st1
    refine ⟨_, rfl, wpAny_letOwnedTupleGo_enum o1 fun h2 e2 sb => ?_⟩
    replace sb : Heap.SameBut e h1 h2 := sb
    have k2 : ∀ b o, b ≠ e → b ≠ it → s.heap.get? b = some o → h2.get? b = some o := fun b o hb hb2 q => (sb.2 b hb).trans (k1 b o hb hb2 q)
    have nb : ∀ b o, H b = some o → b ≠ e ∧ b ≠ it := fun b o q => And.intro (fun z => by rw [z, f0] at q; cases q) (fun z => by rw [z, g0] at q; cases q)
    have ht : h2.get? s.heap.objs.size = some { cls := .type "tuple", data := .seq #[.int i tk, y] } := (sb.2 _ (Nat.ne_of_gt elt)).trans t1
    have hfr : H s.heap.objs.size = none := I.fresh
    have itlt : it < s.heap.objs.size := by obtain ⟨o, q, _⟩ := s2; exact Heap.lt_size q
    have hokH : HOk X.prog X.w (upd H s.heap.objs.size (.tup [.int i, x])) h2 := fun b ob q => by
      by_cases hb : b = s.heap.objs.size
      · subst hb
        rw [upd_same] at q
        cases q
        exact ⟨by show 2 ≤ sizeLine; decide, [.int i tk, y], .cons ⟨_, rfl⟩ (.cons ru .nil), ⟨_, ht, rfl, 0, rfl⟩⟩
      · rw [upd_ne hb] at q
        refine (I.hok b ob q).stay (fun c v hcc qq => ?_) (fun c q => by rw [upd_ne (ne_of_none q hfr)]; exact q) fun c ys q => by rw [upd_ne (ne_of_none q hfr)]; exact q
        have hn : c ≠ e ∧ c ≠ it := by
          rcases hcc with z | z
          · rw [z]; exact nb b ob q
          · exact nb c _ z
        exact k2 c v hn.1 hn.2 qq
    have I2 : Inv X pins σ (upd H s.heap.objs.size (.tup [.int i, x])) { s with heap := h2, toks := tk + 1 } := by
      refine I.step (g' := s.gens) (d' := s.drawn) (ch := [e, it]) (fun b hb => ?_) (fun b o _ _ hc q _ => k2 b o (fun z => hc (by simp [z])) (fun z => hc (by simp [z])) q) (fun b o _ _ hc q _ => ⟨o.slots, k2 b o (fun z => hc (by simp [z])) (fun z => hc (by simp [z])) q⟩)
        (fun b o _ q n => by rw [upd_ne (Nat.ne_of_lt (Heap.lt_size q))]; exact n)
        (fun b o hc q => ?_) (fun b ys q => by rw [upd_ne (ne_of_none q hfr)]; exact q) (fun b o u q => by rw [upd_ne (ne_of_none q hfr)]; exact q) (fun b ps q => ⟨#[], by rw [upd_ne (ne_of_none q hfr), q]; simp⟩) (fun m hm => ?_) hokH I.bare
      · rcases List.mem_cons.mp hb with rfl | hb
        · exact ⟨f3, f1, f4, f5⟩
        · have q : b = it := by simpa using hb
          subst q
          exact ⟨g3, g1, g4, g5⟩
      · exact ⟨o, k2 b o (fun z => hc (by simp [z])) (fun z => hc (by simp [z])) q⟩
      · obtain ⟨o, es', ep, ho, r⟩ := hm
        exact ⟨o, es', ep, k2 _ o f1.symm g1.symm ho, r⟩
    refine ⟨.ref s.heap.objs.size, _, I2, rfl, ⟨_, x, hfr, rfl, rfl, fun ys hy => by rw [I.tuple_inj hy hq]; exact hx⟩, ⟨y, ?_, i1.extBut sb.extBut hne.symm⟩, fun b hb => ?_⟩
    · have e3 : IsEnum h2 e it ((i : Int) + 1) y := e2
      show IsEnum h2 e it ((i + 1 : Nat) : Int) y
      rw [Int.natCast_add]
      exact e3
    · rcases List.mem_cons.mp hb with rfl | hb
      · rw [upd_ne (Nat.ne_of_lt elt)]; exact f0
      · have q : b = it := by simpa using hb
        subst q
        rw [upd_ne (Nat.ne_of_lt itlt)]; exact g0
  done := by
    intro X hP hw hK hc i pins s σ H E I hf st hg
    subst hP hw hK
    obtain ⟨xs, hq, hx⟩ := hg
    obtain ⟨old, s1, s2⟩ := st
    obtain ⟨its, rv, p, hz⟩ := I.tuple hq
    obtain ⟨g0, g1, g2, g3, g4, g5⟩ := hf it (by simp)
    have hl := rv.length
    have ei : i = its.toArray.size := by simp; omega
    subst ei
    exact wpAny_pyNext_enum_endD (drawsT (A := X.A.in1) (I.ok.hd hc) it a hia its.toArray) s1 ⟨s2, p⟩ fun h' eb => ⟨rfl, I.turned (t' := s.toks) (fun b o hb q => eb b o hb q) g0 g1 g3 g4 g5⟩
  self := fun _ _ _ _ _ st h => by
    obtain ⟨old, s1, _⟩ := st
    exact wpAny_pyIter_enum s1 h
section
variable {X : Cx}
def iEnumT (K : PySem.W.Frag) (ta : TA) : TI := fun σ H R => ta σ H fun vs H1 => ∃ a, vs = [.ref a] ∧ (∃ xs, SqT K H1 a xs) ∧ R (IteT K a) H1
theorem pi_enumT {es : List Expr} {k : Nat} {l : Expr} {ta : TA} {p pos pos' : Pos} (hg : Gl X "enumerate") (hm : X.mg "enumerate" = none) (ha : PA X [l] ta) (hs : starEach [l] X.env = [(false, eval l X.env)] := by rfl) :
    PI X (.Tuple es k pos') (.Call (.Name "enumerate" p) [l] [] pos) (iEnumT X.K ta) := by
  intro pins s σ H R I h
  refine Call_ (ld_blt (u := .type "enumerate") I hg hm (by decide +kernel) (PyProof.Rows.callWith_type1 (thn (ha pos pins s σ H _ I h) fun us s1 ⟨vs, H1, I1, r1, q1⟩ => ?_) hs rfl))
  obtain ⟨a, e, ⟨xs, hq⟩, q⟩ := q1
  subst e
  obtain ⟨u, rfl, rx⟩ := vals1 r1
  cases rx
  obtain ⟨its, rv, pl, hz⟩ := I1.tuple hq
  have alt : a < s1.heap.objs.size := by obtain ⟨o, ho, _⟩ := (show s1.heap.IsTuple a its.toArray from pl); exact Heap.lt_size ho
  refine call_enumT (show s1.heap.IsTuple a its.toArray from pl) fun h' he hi hz' kp => wpAny_pyIter_enum he ?_
  refine ⟨s1.heap.objs.size + 1, [s1.heap.objs.size + 1, s1.heap.objs.size], _, _, H1, rfl, I1.kept (t' := s1.toks) kp, turn_enumT a _ _ (Nat.succ_ne_self _) (Nat.ne_of_gt (Nat.lt_succ_of_lt alt)) (Nat.ne_of_lt alt), ⟨_, he, hi⟩, fun b hb => ?_, q⟩
  rcases List.mem_cons.mp hb with rfl | hb
  · exact I1.fpOk (Nat.le_succ _) (I1.hok.fresh (Nat.le_succ _))
  · have e : b = s1.heap.objs.size := by simpa using hb
    subst e
    exact I1.fpOk (Nat.le_refl _) (I1.hok.fresh (Nat.le_refl _))
theorem for_enumT {K : PySem.W.Frag} {a : Addr} {xs : List V} {g : TG} {tb : TS} {D : Ends} {σ : St} {H : Hp} (Pv : Nat → St → Hp → Prop) (h0 : Pv 0 σ H) (hl : ∀ i σ H, i ≤ xs.length → Pv i σ H → SqT K H a xs)
    (hs : ∀ i x p σ H, xs[i]? = some x → Pv i σ H → H p = none → g (.ref p) σ (upd H p (.tup [.int i, x])) fun σ2 H2 => tb { D with nx := Pv (i + 1), ct := Pv (i + 1), bk := D.nx } σ2 H2) (hd : ∀ σ H, Pv xs.length σ H → D.nx σ H) :
    ∃ W : Nat → Nat → St → Hp → Prop, (∃ m, W 0 m σ H) ∧ ∀ i m σ H, W i m σ H →
      ((IteT K a).stop i H ∧ D.nx σ H) ∨ ((IteT K a).go i H ∧ ∃ N : St → Hp → Prop, (∀ σ' H', N σ' H' → ∃ m', m' < m ∧ W (i + 1) m' σ' H') ∧ ∀ x H', (IteT K a).yld i H x H' → g x σ H' fun σ2 H2 => tb { D with nx := N, ct := N, bk := D.nx } σ2 H2) := by
  refine ⟨fun i m σ H => m = xs.length - i ∧ i ≤ xs.length ∧ Pv i σ H, ⟨xs.length, by simp, Nat.zero_le _, h0⟩, ?_⟩
  rintro i m σ H ⟨rfl, hi, p⟩
  have q := hl i σ H hi p
  by_cases hlt : i < xs.length
  · refine .inr ⟨⟨xs, xs[i], q, by simp [hlt]⟩, Pv (i + 1), fun σ' H' p' => ⟨xs.length - (i + 1), by omega, rfl, hlt, p'⟩, fun x H' y => ?_⟩
    obtain ⟨pt, v, hn, e1, e2, y⟩ := y
    subst e1 e2
    exact hs i v pt σ _ (y xs q) p hn
  · have e : i = xs.length := by omega
    subst e
    exact .inl ⟨⟨xs, q, rfl⟩, hd σ H p⟩
theorem lc_tup {K : PySem.W.Frag} {a : Addr} {xs : List V} {σ0 : St} {g : TG} {tc : TT} {te : TE} {Q : VK} {H1 : Hp} (Pv : Addr → Nat → List V → Hp → Prop)
    (h0 : ∀ D, H1 D = none → Pv D 0 [] (upd H1 D (.lst []))) (hl : ∀ D i acc H, i ≤ xs.length → Pv D i acc H → SqT K H a xs)
    (hs : ∀ D i x acc H2, xs[i]? = some x → Pv D i acc H2 → g x σ0 H2 fun σ4 H4 => CapKeep σ0 σ4 ∧ tc σ4 H4 fun b H5 =>
      if b = true then te σ4 H5 fun y H6 => H6 D = some (.lst acc) ∧ acc.length < sizeLine ∧ Pv D (i + 1) (acc ++ [y]) (upd H6 D (.lst (acc ++ [y]))) else Pv D (i + 1) acc H5)
    (hd : ∀ D acc H2, Pv D xs.length acc H2 → Q (.ref D) H2) : LCw σ0 g tc te Q (Itt K a) H1 := by
  intro D hD
  refine ⟨fun i m acc H => m = xs.length - i ∧ i ≤ xs.length ∧ Pv D i acc H, ⟨xs.length, by simp, Nat.zero_le _, h0 D hD⟩, ?_⟩
  rintro i m acc H2 ⟨rfl, hi, p⟩
  have q := hl D i acc H2 hi p
  by_cases hlt : i < xs.length
  · refine .inr ⟨⟨xs, xs[i], q, by simp [hlt]⟩, Pv D (i + 1), fun acc' H' p' => ⟨xs.length - (i + 1), by omega, rfl, hlt, p'⟩, fun x H' y => ?_⟩
    obtain ⟨e, y⟩ := y
    subst e
    exact hs D i x acc _ (y xs q) p
  · have e : i = xs.length := by omega
    subst e
    exact .inl ⟨⟨xs, q, Nat.le_refl _⟩, hd D acc H2 p⟩
theorem eqAt_rows {pins : List (Addr × Obj)} {σ : St} {H : Hp} {s : Shared} {A : Around} {a b : Addr} {as bs : List Addr} {ns ms : List (List Int)} (I : Inv X pins σ H s) (ha : SqL X.K H a (as.map V.ref)) (hb : SqL X.K H b (bs.map V.ref)) (rn : RowsAt X.K H as ns) (rm : RowsAt X.K H bs ms) (hu : A.units < cLine) (hu1 : A.in1.units < cLine) :
    SeqAt.RcAt A s (.ref a) (.ref b) (decide (ns = ms)) := by
  obtain ⟨its, r1, p1, z1⟩ := I.list ha
  obtain ⟨its2, r2, p2, z2⟩ := I.list hb
  have l1 := r1.length
  have l2 := r2.length
  rw [List.length_map] at l1 l2
  have ln := rn.length
  have lm := rm.length
  by_cases hl : ns.length = ms.length
  · have hsz : its.toArray.size = its2.toArray.size := by simp only [List.size_toArray]; omega
    have q := SeqAt.RcAt.lists (A := A) (e := fun j => decide (ns.getD j [] = ms.getD j [])) p1.isList p2.isList hsz hu (fun j h1 h2 => by
      have h1' : j < its.length := by simpa using h1
      have h2' : j < its2.length := by simpa using h2
      obtain ⟨a, ea, sa⟩ := rn.get (i := j) (r := ns.getD j []) (by rw [List.getElem?_eq_getElem (by omega : j < ns.length)]; simp [List.getD_eq_getElem?_getD, List.getElem?_eq_getElem (by omega : j < ns.length)])
      obtain ⟨b, eb, sb⟩ := rm.get (i := j) (r := ms.getD j []) (by rw [List.getElem?_eq_getElem (by omega : j < ms.length)]; simp [List.getD_eq_getElem?_getD, List.getElem?_eq_getElem (by omega : j < ms.length)])
      obtain ⟨u1, e1, q1⟩ := r1.get (i := j) (x := .ref a) (by rw [List.getElem?_map, ea]; rfl)
      obtain ⟨u2, e2, q2⟩ := r2.get (i := j) (x := .ref b) (by rw [List.getElem?_map, eb]; rfl)
      cases q1; cases q2
      have f1 : its.toArray[j] = Value.ref a := by
        rw [List.getElem?_eq_getElem h1'] at e1; simpa using e1
      have f2 : its2.toArray[j] = Value.ref b := by
        rw [List.getElem?_eq_getElem h2'] at e2; simpa using e2
      rw [f1, f2]
      by_cases hab : a = b
      · subst hab
        have hm : (ns.getD j []).map V.int = (ms.getD j []).map V.int := I.list_inj sa sb
        have hm' : ns.getD j [] = ms.getD j [] := (List.map_inj_right (fun x y h => by injection h)).mp hm
        rw [decide_eq_true hm']
        exact SeqAt.EqAt.same _
      · exact SeqAt.EqAt.of_refs hab (eqAt_ints I sa sb hu1))
    rw [List.size_toArray, ← l1, ln, range_all_rows ns ms hl] at q
    exact q
  · rw [decide_eq_false (fun e => hl (by rw [e]))]
    exact SeqAt.RcAt.lists_lengths p1.isList p2.isList (by simp only [List.size_toArray, bne_iff_ne]; omega) hu
def HallR (K : PySem.W.Frag) (H : Hp) (p : Addr) (rows : List (List Int)) : Prop := ∃ as : List Addr, SqL K H p (as.map V.ref) ∧ RowsAt K H as rows
end
end L2
namespace L2
open PySem PySem.Spec PyProof.Rows
theorem PS.nox {X : Cx} {st : Stmt} {t : TS} (h : PS X.nox st t) : PS X st t := fun pins s σ H D I hw =>
  wpAny_mono (h pins s σ H D (I.wish _) hw) (fun _ _ q => q.unwish) fun _ _ z => False.elim z
end L2
namespace KH
def tri (k : Nat) : Int := (k : Int) * ((k : Int) - 1) / 2
theorem sorted_uniq : ∀ {l m : List Int}, l.Perm m → l.Pairwise (· ≤ ·) → m.Pairwise (· ≤ ·) → l = m
  | [], m, h, _, _ => by simpa using h.symm.eq_nil.symm
  | a :: l, m, h, h1, h2 => by
    cases m with
    | nil => exact absurd h.eq_nil (by simp)
    | cons b m =>
      rw [List.pairwise_cons] at h1 h2
      have e : a = b := by
        have ha : a ∈ b :: m := h.mem_iff.mp (by simp)
        have hb : b ∈ a :: l := h.mem_iff.mpr (by simp)
        have x : b ≤ a := by
          rcases List.mem_cons.mp ha with z | z
          · omega
          · exact h2.1 a z
        have y : a ≤ b := by
          rcases List.mem_cons.mp hb with z | z
          · omega
          · exact h1.1 b z
        omega
      subst e
      rw [sorted_uniq (List.Perm.cons_inv h) h1.2 h2.2]
structure SumsOk (ns : List Int) : Prop where
  lo : 1 ≤ ns.length
  hi : ns.length ≤ 12
  all : ns.sum = tri ns.length
  least : ∀ ms : List Int, ms.Perm ns → ms.Pairwise (· ≤ ·) → ∀ k, 1 ≤ k → k ≤ ns.length → tri k ≤ (ms.take k).sum
theorem sums_of {ns ms : List Int} (hp : ms.Perm ns) (hs : ms.Pairwise (· ≤ ·)) (lo : 1 ≤ ns.length) (hi : ns.length ≤ 12) (all : ns.sum = tri ns.length) (h : ∀ k, 1 ≤ k → k ≤ ns.length → tri k ≤ (ms.take k).sum) : SumsOk ns :=
  ⟨lo, hi, all, fun m2 hp2 hs2 k h1 h2 => by rw [sorted_uniq (hp2.trans hp.symm) hs2 hs]; exact h k h1 h2⟩
theorem SumsOk.no {ns ms : List Int} (hp : ms.Perm ns) (hs : ms.Pairwise (· ≤ ·)) {k : Nat} (h1 : 1 ≤ k) (h2 : k ≤ ns.length) (h : (ms.take k).sum < tri k) : ¬ SumsOk ns := fun S => by
  have := S.least ms hp hs k h1 h2
  omega
end KH
namespace KH
def Within (rows : List (List Int)) (p q : Int) : Prop := q ∈ R rows p ∨ ∃ b ∈ R rows p, q ∈ R rows b
theorem sub_len : ∀ {l m : List Int}, l.Nodup → (∀ x ∈ l, x ∈ m) → l.length ≤ m.length
  | [], m, _, _ => Nat.zero_le _
  | x :: r, m, nd, h => by
    have hx := h x List.mem_cons_self
    rw [List.nodup_cons] at nd
    have h1 : r.length ≤ (m.erase x).length := sub_len nd.2 fun y hy => (List.mem_erase_of_ne (fun (e : y = x) => nd.1 (e ▸ hy))).mpr (h y (List.mem_cons_of_mem _ hy))
    rw [List.length_erase_of_mem hx] at h1
    have := List.length_pos_of_mem hx
    simp only [List.length_cons]
    omega
theorem eR (rows : List (List Int)) (i : Nat) : R rows (i : Int) = rowAt rows i := by unfold R rowAt; rw [Int.toNat_natCast]
theorem IsHall.rng {rows : List (List Int)} (h : IsHall rows) {u x : Int} (hu : 0 ≤ u ∧ u < rows.length) (hx : x ∈ R rows u) : (0 ≤ x ∧ x < rows.length) ∧ x ≠ u := by
  obtain ⟨i, rfl⟩ : ∃ i : Nat, u = i := ⟨u.toNat, by omega⟩
  rw [eR] at hx
  have := (h.beat i (by omega)).2 x hx
  exact ⟨⟨this.1, this.2.1⟩, this.2.2⟩
end KH
namespace KH
def Steps (rows : List (List Int)) (p : Int) : Nat → Int → Prop
  | 0, q => q = p
  | k + 1, q => ∃ r, Steps rows p k r ∧ q ∈ R rows r
def Reach (rows : List (List Int)) (p q : Int) : Prop := ∃ k, Steps rows p k q
theorem Reach.refl {rows : List (List Int)} {p : Int} : Reach rows p p := ⟨0, rfl⟩
theorem Reach.step {rows : List (List Int)} {p q r : Int} (h : Reach rows p q) (hr : r ∈ R rows q) : Reach rows p r := by
  obtain ⟨k, hk⟩ := h
  exact ⟨k + 1, q, hk, hr⟩
theorem steps_rng {rows : List (List Int)} (h : IsHall rows) {p : Int} (hp : 0 ≤ p ∧ p < rows.length) : ∀ {k : Nat} {q : Int}, Steps rows p k q → 0 ≤ q ∧ q < rows.length
  | 0, q, e => by rw [show q = p from e]; exact hp
  | k + 1, q, ⟨r, hr, hq⟩ => (h.rng (steps_rng h hp hr) hq).1
theorem Reach.rng {rows : List (List Int)} (h : IsHall rows) {p q : Int} (hp : 0 ≤ p ∧ p < rows.length) (hq : Reach rows p q) : 0 ≤ q ∧ q < rows.length := by
  obtain ⟨k, hk⟩ := hq
  exact steps_rng h hp hk
theorem Reach.trans {rows : List (List Int)} {p q : Int} (h : Reach rows p q) : ∀ {r : Int}, Reach rows q r → Reach rows p r := by
  rintro r ⟨k, hk⟩
  induction k generalizing r with
  | zero => rw [show r = q from hk]; exact h
  | succ k ih => obtain ⟨t, ht, e⟩ := hk; exact (ih ht).step e
theorem reach_in {rows : List (List Int)} {p : Int} {S : Int → Prop} (hp : S p) (hc : ∀ x, S x → ∀ y ∈ R rows x, S y) {q : Int} (h : Reach rows p q) : S q := by
  obtain ⟨k, hk⟩ := h
  induction k generalizing q with
  | zero => rw [show q = p from hk]; exact hp
  | succ k ih => obtain ⟨t, ht, e⟩ := hk; exact hc t (ih ht) q e
def Cut (rows : List (List Int)) (ord : List Int) (m : Nat) : Prop := ∀ x ∈ ord.take m, ∀ y ∈ ord.drop m, y ∈ R rows x
def against (rows : List (List Int)) (came rest : List Int) : Nat := (came.map fun d => (rest.filter fun y => decide (d ∈ R rows y)).length).sum
end KH
namespace KH
structure Dist (rows : List (List Int)) (p q : Int) (d : Nat) : Prop where
  is : Steps rows p d q
  no : ∀ k, k < d → ¬ Steps rows p k q
theorem Dist.uniq {rows : List (List Int)} {p q : Int} {d e : Nat} (a : Dist rows p q d) (b : Dist rows p q e) : d = e := by
  rcases Nat.lt_trichotomy d e with h | h | h
  · exact absurd a.is (b.no d h)
  · exact h
  · exact absurd b.is (a.no e h)
theorem Dist.le {rows : List (List Int)} {p q : Int} {d k : Nat} (a : Dist rows p q d) (h : Steps rows p k q) : d ≤ k := by
  rcases Nat.lt_or_ge k d with c | c
  · exact absurd h (a.no k c)
  · exact c
structure Walk (rows : List (List Int)) (p : Int) (l : List Int) (f : List Nat) (at_ : Nat) (pre : List Int) : Prop where
  len : f.length = l.length
  nd : l.Nodup
  fst : l.getD 0 0 = p ∧ 0 < l.length
  dist : ∀ i, i < l.length → Dist rows p (l.getD i 0) (f.getD i 0)
  mono : ∀ i j, i ≤ j → j < l.length → f.getD i 0 ≤ f.getD j 0
  done : ∀ i, i < at_ → i < l.length → ∀ y ∈ R rows (l.getD i 0), y ∈ l
  cur : at_ < l.length → ∀ y ∈ pre, y ∈ l
  top : ∀ i j, i < l.length → j < l.length → at_ ≤ i → f.getD j 0 ≤ f.getD i 0 + 1
theorem getD_mem' {l : List Int} {i : Nat} (h : i < l.length) : l.getD i 0 ∈ l := by rw [getD_of_lt h]; exact List.getElem_mem h
theorem mem_getD' {l : List Int} {x : Int} (h : x ∈ l) : ∃ i, i < l.length ∧ l.getD i 0 = x := by
  obtain ⟨i, hi, e⟩ := List.mem_iff_getElem.mp h
  exact ⟨i, hi, by rw [getD_of_lt hi]; exact e⟩
theorem getD_snoc_lt {α : Type} {l : List α} {x d : α} {i : Nat} (h : i < l.length) : (l ++ [x]).getD i d = l.getD i d := by
  rw [List.getD_eq_getElem?_getD, List.getElem?_append_left h, ← List.getD_eq_getElem?_getD]
theorem getD_snoc_eq {α : Type} {l : List α} {x d : α} : (l ++ [x]).getD l.length d = x := by
  rw [List.getD_eq_getElem?_getD, List.getElem?_append_right (Nat.le_refl _)]; simp
theorem Walk.skip {rows : List (List Int)} {p y : Int} {l : List Int} {f : List Nat} {a : Nat} {pre : List Int} (W : Walk rows p l f a pre) (hy : y ∈ l) : Walk rows p l f a (pre ++ [y]) :=
  ⟨W.len, W.nd, W.fst, W.dist, W.mono, W.done, fun ha z hz => by
    rcases List.mem_append.mp hz with q | q
    · exact W.cur ha z q
    · have : z = y := by simpa using q
      rw [this]; exact hy, W.top⟩
theorem Walk.next {rows : List (List Int)} {p : Int} {l : List Int} {f : List Nat} {a : Nat} (W : Walk rows p l f a (R rows (l.getD a 0))) : Walk rows p l f (a + 1) [] :=
  ⟨W.len, W.nd, W.fst, W.dist, W.mono, fun i hi hil y hy => by
    by_cases e : i = a
    · subst e; exact W.cur hil y hy
    · exact W.done i (by omega) hil y hy, fun _ z hz => (by cases hz), fun i j hi hj h => W.top i j hi hj (by omega)⟩
theorem Walk.rng {rows : List (List Int)} (h : IsHall rows) {p : Int} (hp : 0 ≤ p ∧ p < rows.length) {l : List Int} {f : List Nat} {a : Nat} {pre : List Int} (W : Walk rows p l f a pre) : ∀ x ∈ l, 0 ≤ x ∧ x < rows.length := fun x hx => by
  obtain ⟨i, hi, e⟩ := mem_getD' hx
  have := steps_rng h hp (W.dist i hi).is
  rw [e] at this
  exact this
theorem Walk.few {rows : List (List Int)} (h : IsHall rows) {p : Int} (hp : 0 ≤ p ∧ p < rows.length) {l : List Int} {f : List Nat} {a : Nat} {pre : List Int} (W : Walk rows p l f a pre) : l.length ≤ rows.length :=
  few_of_nodup rows.length l W.nd (W.rng h hp)
theorem Walk.all {rows : List (List Int)} (h : IsHall rows) {p : Int} (hp : 0 ≤ p ∧ p < rows.length) {l : List Int} {f : List Nat} (W : Walk rows p l f rows.length []) {q : Int} : q ∈ l ↔ Reach rows p q := by
  have few := W.few h hp
  constructor
  · intro hq
    obtain ⟨i, hi, e⟩ := mem_getD' hq
    have := (W.dist i hi).is
    rw [e] at this
    exact ⟨_, this⟩
  · intro hr
    refine reach_in (S := fun x => x ∈ l) (by have := getD_mem' W.fst.2; rw [W.fst.1] at this; exact this) (fun x hx y hy => ?_) hr
    obtain ⟨i, hi, e⟩ := mem_getD' hx
    exact W.done i (by omega) hi y (by rw [e]; exact hy)
structure Round (rows : List (List Int)) (p : Int) (d : Nat) (S N : List Int) : Prop where
  nd : S.Nodup
  all : ∀ q, q ∈ S ↔ ∃ k, k ≤ d ∧ Steps rows p k q
  new : ∀ q, q ∈ N ↔ Dist rows p q d
structure InRound (rows : List (List Int)) (p : Int) (d : Nat) (S N S' N' came pre : List Int) : Prop where
  r : Round rows p d S N
  nd : S'.Nodup
  all : ∀ q, q ∈ S' ↔ q ∈ S ∨ q ∈ N'
  new : ∀ q ∈ N', Dist rows p q (d + 1)
  done : ∀ x ∈ came, ∀ y ∈ R rows x, y ∈ S'
  cur : ∀ y ∈ pre, y ∈ S'
theorem InRound.turn {rows : List (List Int)} {p x : Int} {d : Nat} {S N S' N' came : List Int} (I : InRound rows p d S N S' N' came (R rows x)) : InRound rows p d S N S' N' (came ++ [x]) [] :=
  ⟨I.r, I.nd, I.all, I.new, fun u hu y hy => by
    rcases List.mem_append.mp hu with q | q
    · exact I.done u q y hy
    · have : u = x := by simpa using q
      rw [this] at hy
      exact I.cur y hy, fun y h => by cases h⟩
theorem InRound.old {rows : List (List Int)} {p y : Int} {d : Nat} {S N S' N' came pre : List Int} (I : InRound rows p d S N S' N' came pre) (hy : y ∈ S') : InRound rows p d S N S' N' came (pre ++ [y]) :=
  ⟨I.r, I.nd, I.all, I.new, I.done, fun z hz => by
    rcases List.mem_append.mp hz with q | q
    · exact I.cur z q
    · have : z = y := by simpa using q
      rw [this]; exact hy⟩
structure Way (rows : List (List Int)) (p q : Int) (d : Nat) (l : List Int) : Prop where
  len : l.length = d + 1
  fst : l.getD 0 0 = p
  lst : l.getD d 0 = q
  path : Path rows l
theorem Way.snoc {rows : List (List Int)} {p q y : Int} {d : Nat} {l : List Int} (w : Way rows p q d l) (hy : y ∈ R rows q) : Way rows p y (d + 1) (l ++ [y]) := by
  have hl := w.len
  refine ⟨by simp [hl], by rw [getD_snoc_lt (by omega)]; exact w.fst, by rw [← hl]; exact getD_snoc_eq, fun k hk => ?_⟩
  rw [List.length_append, List.length_singleton] at hk
  by_cases c : k + 1 < l.length
  · rw [getD_snoc_lt c, getD_snoc_lt (by omega)]; exact w.path k c
  · have e : k + 1 = l.length := by omega
    have e2 : k = d := by omega
    rw [e, getD_snoc_eq, getD_snoc_lt (by omega), e2, w.lst]
    exact hy
end KH
namespace KH
end KH
namespace KH
def Beats (rows : List (List Int)) (g h : List Int) : Prop := ∀ x ∈ g, ∀ y ∈ h, y ∈ R rows x
structure GroupOk (rows : List (List Int)) (g : List Int) : Prop where
  ne : g ≠ []
  up : g.Pairwise (· ≤ ·)
  conn : ∀ x ∈ g, ∀ y ∈ g, Reach rows x y
structure GInv (rows : List (List Int)) (ord : List Int) (i : Nat) (gs : List (List Int)) (cur : List Int) (c : Nat) : Prop where
  ci : c ≤ i
  perm : gs.flatten.Perm (ord.take c)
  cur : cur = (ord.take i).drop c
  cut : Cut rows ord c
  last : ∀ m, m ≤ i → Cut rows ord m → m ≤ c
  beat : gs.Pairwise (Beats rows)
  ok : ∀ g ∈ gs, GroupOk rows g
theorem take_drop_snoc {ord : List Int} {i c : Nat} (hi : i < ord.length) (hc : c ≤ i) : (ord.take (i + 1)).drop c = (ord.take i).drop c ++ [ord[i]] := by
  rw [take_snoc (List.getElem?_eq_getElem hi), List.drop_append_of_le_length]
  rw [List.length_take]; omega
theorem GInv.stay {rows : List (List Int)} {ord : List Int} {i c : Nat} {gs : List (List Int)} {cur : List Int} (G : GInv rows ord i gs cur c) (hi : i < ord.length) (nc : ¬ Cut rows ord (i + 1)) : GInv rows ord (i + 1) gs (cur ++ [ord[i]]) c :=
  ⟨by have := G.ci; omega, G.perm, by rw [G.cur, take_drop_snoc hi G.ci], G.cut, fun m hm hcut => by
    by_cases e : m = i + 1
    · subst e; exact absurd hcut nc
    · exact G.last m (by omega) hcut, G.beat, G.ok⟩
structure GroupsOk (rows : List (List Int)) (gs : List (List Int)) : Prop where
  perm : gs.flatten.Perm (nums rows.length)
  beat : gs.Pairwise (Beats rows)
  ok : ∀ g ∈ gs, GroupOk rows g
theorem GroupsOk.nodup {rows : List (List Int)} {gs : List (List Int)} (G : GroupsOk rows gs) : gs.flatten.Nodup := G.perm.nodup_iff.mpr (nums_nodup _)
theorem GroupsOk.rng {rows : List (List Int)} {gs : List (List Int)} (G : GroupsOk rows gs) {g : List Int} (hg : g ∈ gs) {x : Int} (hx : x ∈ g) : 0 ≤ x ∧ x < rows.length := mem_nums.mp (G.perm.mem_iff.mp (List.mem_flatten.mpr ⟨g, hg, hx⟩))
theorem GroupsOk.has {rows : List (List Int)} {gs : List (List Int)} (G : GroupsOk rows gs) {x : Int} (hx : 0 ≤ x ∧ x < rows.length) : ∃ g ∈ gs, x ∈ g := List.mem_flatten.mp (G.perm.mem_iff.mpr (mem_nums.mpr hx))
theorem no_back {rows : List (List Int)} (h : IsHall rows) {gs : List (List Int)} (G : GroupsOk rows gs) {a b : List (List Int)} (e : gs = a ++ b) {x y : Int} (hx : x ∈ a.flatten) (hy : y ∈ b.flatten) : ¬ Reach rows y x := by
  intro hr
  have nd := G.nodup
  rw [e, List.flatten_append, List.nodup_append] at nd
  have : x ∈ b.flatten := reach_in (S := fun z => z ∈ b.flatten) hy (fun u hu v hv => ?_) hr
  · exact nd.2.2 x hx x this rfl
  · have hur : 0 ≤ u ∧ u < rows.length := mem_nums.mp (G.perm.mem_iff.mp (by rw [e, List.flatten_append]; exact List.mem_append_right _ hu))
    have hvr := (h.rng hur hv).1
    have hm : v ∈ gs.flatten := G.perm.mem_iff.mpr (mem_nums.mpr hvr)
    rw [e, List.flatten_append] at hm
    rcases List.mem_append.mp hm with q | q
    · exfalso
      obtain ⟨g1, hg1, v1⟩ := List.mem_flatten.mp q
      obtain ⟨g2, hg2, u2⟩ := List.mem_flatten.mp hu
      have B := G.beat
      rw [e, List.pairwise_append] at B
      have uv := B.2.2 g1 hg1 g2 hg2 v v1 u u2
      have ne := (h.rng hur hv).2
      exact (h.other hvr hur ne).mp hv uv
    · exact q
theorem GroupsOk.mutual {rows : List (List Int)} (h : IsHall rows) {gs : List (List Int)} (G : GroupsOk rows gs) {g : List Int} (hg : g ∈ gs) {x : Int} (hx : x ∈ g) {q : Int} : q ∈ g ↔ Reach rows x q ∧ Reach rows q x := by
  constructor
  · intro hq; exact ⟨(G.ok g hg).conn x hx q hq, (G.ok g hg).conn q hq x hx⟩
  · rintro ⟨r1, r2⟩
    have hq := Reach.rng h (G.rng hg hx) r1
    obtain ⟨g', hg', q'⟩ := G.has hq
    obtain ⟨a, b, e⟩ := List.append_of_mem hg
    rw [e] at hg'
    rcases List.mem_append.mp hg' with z | z
    · exact absurd r1 (no_back h G (a := a) (b := g :: b) e (List.mem_flatten.mpr ⟨g', z, q'⟩) (List.mem_flatten.mpr ⟨g, List.mem_cons_self, hx⟩))
    · rcases List.mem_cons.mp z with z | z
      · rw [← z]; exact q'
      · exact absurd r2 (no_back h G (a := a ++ [g]) (b := b) (by rw [e]; simp) (List.mem_flatten.mpr ⟨g, by simp, hx⟩) (List.mem_flatten.mpr ⟨g', z, q'⟩))
end KH
namespace KH
structure Conn (rows : List (List Int)) (g : List Int) : Prop where
  rng : ∀ x ∈ g, 0 ≤ x ∧ x < rows.length
  nd : g.Nodup
  conn : ∀ x ∈ g, ∀ y ∈ g, Reach rows x y
  all : ∀ x ∈ g, ∀ q, Reach rows x q → Reach rows q x → q ∈ g
theorem nodup_part {gs : List (List Int)} (h : gs.flatten.Nodup) {g : List Int} (hg : g ∈ gs) : g.Nodup := by
  obtain ⟨a, b, e⟩ := List.append_of_mem hg
  rw [e, List.flatten_append, List.flatten_cons] at h
  exact ((List.nodup_append.mp (List.nodup_append.mp h).2.1)).1
theorem GroupsOk.conn {rows : List (List Int)} (h : IsHall rows) {gs : List (List Int)} (G : GroupsOk rows gs) {g : List Int} (hg : g ∈ gs) : Conn rows g :=
  ⟨fun x hx => G.rng hg hx, nodup_part G.nodup hg, (G.ok g hg).conn, fun x hx q a b => (G.mutual h hg hx).mpr ⟨a, b⟩⟩
def Three (rows : List (List Int)) (p s t : Int) : Prop := s ∈ R rows p ∧ t ∈ R rows s ∧ p ∈ R rows t
theorem Three.mem {rows : List (List Int)} {g : List Int} (C : Conn rows g) {p s t : Int} (hp : p ∈ g) (h : Three rows p s t) : s ∈ g ∧ t ∈ g := by
  have ps : Reach rows p s := Reach.step Reach.refl h.1
  have pt : Reach rows p t := ps.step h.2.1
  have tp : Reach rows t p := Reach.step Reach.refl h.2.2
  have st : Reach rows s t := Reach.step Reach.refl h.2.1
  exact ⟨C.all p hp s ps (st.trans tp), C.all p hp t pt tp⟩
structure Ring (rows : List (List Int)) (g : List Int) (p : Int) (l : List Int) : Prop where
  three : 3 ≤ l.length
  nd : l.Nodup
  sub : ∀ x ∈ l, x ∈ g
  fst : l.getD 0 0 = p
  next : ∀ k, k + 1 < l.length → l.getD (k + 1) 0 ∈ R rows (l.getD k 0)
  back : l.getD 0 0 ∈ R rows (l.getD (l.length - 1) 0)
theorem Ring.few {rows : List (List Int)} {g l : List Int} {p : Int} (r : Ring rows g p l) : l.length ≤ g.length := sub_len r.nd r.sub
theorem Ring.pin {rows : List (List Int)} {g l : List Int} {p : Int} (r : Ring rows g p l) : p ∈ l := by
  have := r.three
  have := getD_mem' (l := l) (i := 0) (by omega)
  rw [r.fst] at this
  exact this
end KH
namespace KH
theorem rowAt_nodup {rows : List (List Int)} (h : IsHall rows) {i : Nat} (hi : i < rows.length) : (rowAt rows i).Nodup :=
  List.nodup_iff_pairwise_ne.mpr ((h.beat i hi).1.imp fun a e => by omega)
theorem hall_ext {rows rows' : List (List Int)} (h : IsHall rows) (h' : IsHall rows') (hl : rows.length = rows'.length) (he : ∀ i : Nat, i < rows.length → ∀ x, x ∈ rowAt rows i ↔ x ∈ rowAt rows' i) : rows = rows' := by
  refine List.ext_getElem hl fun i h1 h2 => ?_
  have e1 : rowAt rows i = rows[i] := by unfold rowAt; simp [List.getD_eq_getElem?_getD, h1]
  have e2 : rowAt rows' i = rows'[i] := by unfold rowAt; simp [List.getD_eq_getElem?_getD, h2]
  rw [← e1, ← e2]
  refine sorted_uniq ?_ ((h.beat i h1).1.imp fun a => by omega) ((h'.beat i h2).1.imp fun a => by omega)
  exact (List.perm_ext_iff_of_nodup (rowAt_nodup h h1) (rowAt_nodup h' h2)).mpr (he i h1)
def OnRing (a b c x y : Int) : Prop := (x = a ∧ y = b) ∨ (x = b ∧ y = c) ∨ (x = c ∧ y = a)
structure TurnedBy (rows rows' : List (List Int)) (a b c : Int) : Prop where
  hall : IsHall rows'
  len : rows'.length = rows.length
  rel : ∀ x : Int, 0 ≤ x → x < rows.length → ∀ y : Int, y ∈ R rows' x ↔ (¬ OnRing a b c x y ∧ (OnRing a b c y x ∨ y ∈ R rows x))
theorem turned_uniq {rows r1 r2 : List (List Int)} {a b c : Int} (h1 : TurnedBy rows r1 a b c) (h2 : TurnedBy rows r2 a b c) : r1 = r2 := by
  refine hall_ext h1.hall h2.hall (h1.len.trans h2.len.symm) fun i hi x => ?_
  have l1 := h1.len
  have e1 : ∀ r : List (List Int), R r (i : Int) = rowAt r i := fun r => by unfold R rowAt; rw [Int.toNat_natCast]
  have q1 := h1.rel (i : Int) (by omega) (by omega) x
  have q2 := h2.rel (i : Int) (by omega) (by omega) x
  rw [e1] at q1 q2
  exact q1.trans q2.symm
end KH
namespace KH
theorem R_nat' (rows : List (List Int)) (i : Nat) : R rows (i : Int) = rowAt rows i := by unfold R rowAt; rw [Int.toNat_natCast]
theorem rm_mem' : ∀ {ns : List Int} {k : Int}, k ∈ ns → ∃ j, ns[j]? = some k ∧ (∀ i, i < j → ns[i]? ≠ some k) ∧ ns.eraseIdx j = ns.erase k
  | x :: ns, k, h => by
    by_cases e : x = k
    · exact ⟨0, by rw [e]; rfl, fun i hi => by omega, by rw [e, List.erase_cons_head]; rfl⟩
    · have h' : k ∈ ns := by
        rcases List.mem_cons.mp h with q | q
        · exact absurd q.symm e
        · exact q
      obtain ⟨j, a, b, c⟩ := rm_mem' h'
      refine ⟨j + 1, by simpa using a, fun i hi => ?_, ?_⟩
      · cases i with
        | zero => intro z; exact e (by simpa using z)
        | succ i => simpa using b i (by omega)
      · rw [List.eraseIdx_cons_succ, c, List.erase_cons_tail (by simpa using e)]
theorem rowAt_set' {rows : List (List Int)} {i j : Nat} {r : List Int} (h : i < rows.length) : rowAt (rows.set i r) j = if j = i then r else rowAt rows j := by
  unfold rowAt
  rw [List.getD_eq_getElem?_getD, List.getD_eq_getElem?_getD, List.getElem?_set]
  by_cases e : j = i
  · subst e; rw [if_pos rfl, if_pos h, if_pos rfl]; rfl
  · rw [if_neg (Ne.symm e), if_neg e]
theorem turn_hall' {rows : List (List Int)} (h : IsHall rows) {a b : Nat} (ha : a < rows.length) (hb : b < rows.length) (hm : (b : Int) ∈ rowAt rows a) {ns : List Int} (hp : ns.Perm (rowAt rows b ++ [(a : Int)])) (hs : ns.Pairwise (· ≤ ·)) :
    IsHall ((rows.set a ((rowAt rows a).erase (b : Int))).set b ns) := by
  have ne : a ≠ b := fun z => ((h.beat a ha).2 _ hm).2.2 (by rw [z])
  have hnb : (a : Int) ∉ rowAt rows b := fun m => by
    have := (h.other (u := (a : Int)) (v := (b : Int)) ⟨by omega, by omega⟩ ⟨by omega, by omega⟩ (by omega)).mp (by rw [R_nat']; exact m)
    rw [R_nat'] at this
    exact this hm
  obtain ⟨A1, A2⟩ := h.beat a ha
  obtain ⟨B1, B2⟩ := h.beat b hb
  have ndA : (rowAt rows a).Nodup := List.nodup_iff_pairwise_ne.mpr (A1.imp fun h e => by omega)
  have ndB : (rowAt rows b).Nodup := List.nodup_iff_pairwise_ne.mpr (B1.imp fun h e => by omega)
  have len : ((rows.set a ((rowAt rows a).erase (b : Int))).set b ns).length = rows.length := by rw [List.length_set, List.length_set]
  have row : ∀ i, rowAt ((rows.set a ((rowAt rows a).erase (b : Int))).set b ns) i = if i = b then ns else if i = a then (rowAt rows a).erase (b : Int) else rowAt rows i := fun i => by
    rw [rowAt_set' (by rw [List.length_set]; exact hb), rowAt_set' ha]
  have mns : ∀ x, x ∈ ns ↔ x ∈ rowAt rows b ∨ x = (a : Int) := fun x => by rw [hp.mem_iff, List.mem_append]; simp
  refine ⟨by rw [len]; exact h.lo, by rw [len]; exact h.hi, fun i hi => ?_, fun i j hji hi => ?_⟩
  · rw [len] at hi
    rw [len, row]
    by_cases c : i = b
    · rw [if_pos c, c]
      have nd : ns.Nodup := hp.nodup_iff.mpr (by
        rw [List.nodup_append]
        exact ⟨ndB, by simp, fun x hx y hy e => hnb (by rw [show y = (a : Int) by simpa using hy] at e; exact e ▸ hx)⟩)
      refine ⟨?_, fun x hx => ?_⟩
      · refine List.Pairwise.imp ?_ (hs.and (List.nodup_iff_pairwise_ne.mp nd))
        rintro x y ⟨q1, q2⟩
        omega
      · rcases (mns x).mp hx with q | q
        · exact B2 x q
        · rw [q]; exact ⟨by omega, by omega, by omega⟩
    · rw [if_neg c]
      by_cases d : i = a
      · rw [if_pos d, d]
        exact ⟨A1.sublist List.erase_sublist, fun x hx => A2 x (List.mem_of_mem_erase hx)⟩
      · rw [if_neg d]; exact h.beat i hi
  · rw [len] at hi
    have o := h.one i j hji hi
    rw [row, row]
    have mE : ∀ x : Int, x ∈ (rowAt rows a).erase (b : Int) ↔ x ≠ (b : Int) ∧ x ∈ rowAt rows a := fun x => List.Nodup.mem_erase_iff ndA
    by_cases c1 : i = b
    · subst c1
      rw [if_pos rfl, if_neg (by omega), mns]
      by_cases c2 : j = a
      · subst c2
        rw [if_pos rfl, mE]
        exact ⟨fun _ z => z.1 rfl, fun _ => .inr rfl⟩
      · rw [if_neg c2, ← o]
        exact ⟨fun q => q.elim id (fun q => by omega), .inl⟩
    · rw [if_neg c1]
      by_cases c2 : j = b
      · subst c2
        rw [if_pos rfl, mns]
        by_cases c3 : i = a
        · subst c3
          rw [if_pos rfl, mE]
          exact ⟨fun q => absurd rfl q.1, fun q => absurd (.inr rfl) q⟩
        · rw [if_neg c3, o]
          exact ⟨fun q z => z.elim q (fun z => by omega), fun q z => q (.inl z)⟩
      · rw [if_neg c2]
        by_cases c3 : i = a
        · subst c3
          rw [if_pos rfl, if_neg (by omega), mE, ← o]
          exact ⟨fun q => q.2, fun q => ⟨by omega, q⟩⟩
        · rw [if_neg c3]
          by_cases c4 : j = a
          · subst c4
            rw [if_pos rfl, mE, o]
            exact ⟨fun q z => q z.2, fun q z => q ⟨by omega, z⟩⟩
          · rw [if_neg c4]; exact o
structure FlipBy (rows rows' : List (List Int)) (x y : Int) : Prop where
  hall : IsHall rows'
  len : rows'.length = rows.length
  rel : ∀ u : Int, 0 ≤ u → u < rows.length → ∀ v : Int, v ∈ R rows' u ↔ (¬ (u = x ∧ v = y) ∧ ((u = y ∧ v = x) ∨ v ∈ R rows u))
theorem flip_of {rows : List (List Int)} (h : IsHall rows) {a b : Nat} (ha : a < rows.length) (hb : b < rows.length) (hm : (b : Int) ∈ rowAt rows a) {ns : List Int} (hp : ns.Perm (rowAt rows b ++ [(a : Int)])) (hs : ns.Pairwise (· ≤ ·)) :
    FlipBy rows ((rows.set a ((rowAt rows a).erase (b : Int))).set b ns) (a : Int) (b : Int) := by
  have len : ((rows.set a ((rowAt rows a).erase (b : Int))).set b ns).length = rows.length := by rw [List.length_set, List.length_set]
  refine ⟨turn_hall' h ha hb hm hp hs, len, fun u u0 u1 v => ?_⟩
  obtain ⟨i, rfl⟩ : ∃ i : Nat, u = (i : Int) := ⟨u.toNat, by omega⟩
  have ne : a ≠ b := fun z => ((h.beat a ha).2 _ hm).2.2 (by rw [z])
  rw [R_nat', R_nat', rowAt_set' (by rw [List.length_set]; exact hb), rowAt_set' ha]
  have ndA := rowAt_nodup h ha
  by_cases c : i = b
  · subst c
    rw [if_pos rfl, hp.mem_iff, List.mem_append]
    constructor
    · rintro (q | q)
      · exact ⟨fun z => by omega, .inr q⟩
      · exact ⟨fun z => by omega, .inl ⟨rfl, by simpa using q⟩⟩
    · rintro ⟨_, q | q⟩
      · exact .inr (by simp [q.2])
      · exact .inl q
  · rw [if_neg c]
    by_cases d : i = a
    · subst d
      rw [if_pos rfl, List.Nodup.mem_erase_iff ndA]
      constructor
      · rintro ⟨q1, q2⟩
        exact ⟨fun z => q1 z.2, .inr q2⟩
      · rintro ⟨q1, q2 | q2⟩
        · omega
        · exact ⟨fun z => q1 ⟨rfl, z⟩, q2⟩
    · rw [if_neg d]
      constructor
      · exact fun q => ⟨fun z => by omega, .inr q⟩
      · rintro ⟨_, q | q⟩
        · omega
        · exact q
theorem flips_turn {r0 r1 r2 r3 : List (List Int)} {a b c : Int} (h : IsHall r0) (T3 : Three r0 a b c) (ra : 0 ≤ a ∧ a < r0.length) (rb : 0 ≤ b ∧ b < r0.length) (rc : 0 ≤ c ∧ c < r0.length) (f1 : FlipBy r0 r1 a b) (f2 : FlipBy r1 r2 b c) (f3 : FlipBy r2 r3 c a) : TurnedBy r0 r3 a b c := by
  obtain ⟨t1, t2, t3⟩ := T3
  have nab := (h.rng ra t1).2
  have nbc := (h.rng rb t2).2
  have nca := (h.rng rc t3).2
  have l1 := f1.len
  have l2 := f2.len
  have l3 := f3.len
  refine ⟨f3.hall, by omega, fun u u0 u1 v => ?_⟩
  rw [f3.rel u u0 (by omega) v, f2.rel u u0 (by omega) v, f1.rel u u0 u1 v]
  unfold OnRing
  constructor
  · rintro ⟨x1, x2 | ⟨x2, x3 | ⟨x3, x4 | x4⟩⟩⟩
    · refine ⟨?_, .inl (.inr (.inr ⟨x2.2, x2.1⟩))⟩
      omega
    · refine ⟨?_, .inl (.inr (.inl ⟨x3.2, x3.1⟩))⟩
      omega
    · refine ⟨?_, .inl (.inl ⟨x4.2, x4.1⟩)⟩
      omega
    · refine ⟨?_, .inr x4⟩
      omega
  · rintro ⟨x1, (x2 | x2 | x2) | x2⟩
    · exact ⟨by omega, .inr ⟨by omega, .inr ⟨by omega, .inl ⟨x2.2, x2.1⟩⟩⟩⟩
    · exact ⟨by omega, .inr ⟨by omega, .inl ⟨x2.2, x2.1⟩⟩⟩
    · exact ⟨by omega, .inl ⟨x2.2, x2.1⟩⟩
    · exact ⟨by omega, .inr ⟨by omega, .inr ⟨by omega, .inr x2⟩⟩⟩
end KH
namespace KH
def rowP (n i : Nat) : List (Nat × Nat) := (List.range (n - 1 - i)).map fun t => (i, i + 1 + t)
def plTo (n i : Nat) : List (Nat × Nat) := (List.range i).flatMap fun k => rowP n k
end KH
namespace KH
def winN : List (Nat × Nat) → Nat → List Nat → List Nat
  | [], _, w => w
  | p :: ps, l, w => winN ps (l / 2) (let k := if l % 2 = 0 then p.1 else p.2; w.set k (w.getD k 0 + 1))
def winsNo (n k : Nat) : List Nat := winN (plTo n n) k (List.replicate n 0)
theorem tri_two (k : Nat) : 2 * tri k = (k : Int) * (k - 1) := by
  unfold tri
  have : ((k : Int) * (k - 1)) % 2 = 0 := by
    rcases Int.emod_two_eq (k : Int) with h | h
    · rw [Int.mul_emod, h]; simp
    · rw [Int.mul_emod, Int.sub_emod, h]; simp
  omega
theorem tri_succ (k : Nat) : tri (k + 1) = tri k + k := by
  have a := tri_two k
  have b := tri_two (k + 1)
  have e : (((k + 1 : Nat)) : Int) * (((k + 1 : Nat) : Int) - 1) = (k : Int) * (k - 1) + 2 * k := by
    rw [show (((k + 1 : Nat)) : Int) = (k : Int) + 1 by omega, Int.add_sub_cancel, Int.mul_sub, Int.add_mul]
    omega
  omega
theorem perm_sumI {l m : List Int} (h : l.Perm m) : l.sum = m.sum := by
  induction h with
  | nil => rfl
  | cons x _ ih => rw [List.sum_cons, List.sum_cons, ih]
  | swap x y l => simp only [List.sum_cons]; omega
  | trans _ _ a b => exact a.trans b
def tbl (n : Nat) : List (List Nat) := (List.range (2 ^ (plTo n n).length)).map (winsNo n)
end KH
namespace KH
def sumF (m : Int → Int) (T : List Int) : Int := (T.map m).sum
theorem sumF_cons (m : Int → Int) (x : Int) (T : List Int) : sumF m (x :: T) = m x + sumF m T := by unfold sumF; rw [List.map_cons, List.sum_cons]
theorem sumF_perm {m : Int → Int} {S T : List Int} (h : S.Perm T) : sumF m S = sumF m T := perm_sumI (h.map m)
theorem sumF_append (m : Int → Int) (S T : List Int) : sumF m (S ++ T) = sumF m S + sumF m T := by unfold sumF; rw [List.map_append, List.sum_append]
theorem sumF_split (m : Int → Int) (p : Int → Bool) (T : List Int) : sumF m T = sumF m (T.filter p) + sumF m (T.filter fun x => !p x) := by
  rw [← sumF_append]
  exact sumF_perm (List.filter_append_perm p T).symm
theorem len_split (p : Int → Bool) (T : List Int) : T.length = (T.filter p).length + (T.filter fun x => !p x).length := by
  rw [← List.length_append]
  exact (List.filter_append_perm p T).length_eq.symm
theorem sumF_erase {m : Int → Int} {T : List Int} {x : Int} (h : x ∈ T) : sumF m T = m x + sumF m (T.erase x) := by
  rw [sumF_perm (List.perm_cons_erase h), sumF_cons]
theorem sumF_const {m : Int → Int} {c : Int} : ∀ {T : List Int}, (∀ x ∈ T, m x = c) → sumF m T = T.length * c
  | [], _ => by simp [sumF]
  | x :: r, h => by
    rw [sumF_cons, h x (by simp), sumF_const fun y hy => h y (by simp [hy]), List.length_cons]
    rw [show (((r.length + 1 : Nat)) : Int) = (r.length : Int) + 1 by omega, Int.add_mul]
    omega
theorem sumF_congr {m m' : Int → Int} {T : List Int} (h : ∀ x ∈ T, m x = m' x) : sumF m T = sumF m' T := by
  unfold sumF
  rw [List.map_congr_left h]
theorem sumF_less {m m' : Int → Int} : ∀ {T : List Int}, (∀ x ∈ T, m' x = m x - 1) → sumF m' T = sumF m T - T.length
  | [], _ => by simp [sumF]
  | x :: r, h => by
    rw [sumF_cons, sumF_cons, h x (by simp), sumF_less fun y hy => h y (by simp [hy]), List.length_cons]
    omega
theorem tri_nonneg : ∀ k : Nat, 0 ≤ tri k
  | 0 => by decide
  | k + 1 => by rw [tri_succ]; have := tri_nonneg k; omega
theorem tri_add (a : Nat) : ∀ h : Nat, tri (a + h) = tri a + (a : Int) * h + tri h
  | 0 => by have : tri 0 = 0 := rfl
            simp [this]
  | h + 1 => by
    rw [← Nat.add_assoc, tri_succ, tri_add a h, tri_succ]
    rw [show (((h + 1 : Nat)) : Int) = (h : Int) + 1 by omega, Int.mul_add]
    omega
structure Land (m : Int → Int) (dom : List Int) : Prop where
  nd : dom.Nodup
  all : sumF m dom = tri dom.length
  sub : ∀ T : List Int, T.Nodup → (∀ x ∈ T, x ∈ dom) → tri T.length ≤ sumF m T
theorem len_le_of_sub : ∀ {S T : List Int}, S.Nodup → (∀ x ∈ S, x ∈ T) → S.length ≤ T.length
  | [], _, _, _ => Nat.zero_le _
  | x :: S, T, nd, h => by
    rw [List.nodup_cons] at nd
    have hx := h x (by simp)
    have := len_le_of_sub (S := S) (T := T.erase x) nd.2 fun y hy => (List.mem_erase_of_ne (fun e : y = x => nd.1 (e ▸ hy))).mpr (h y (by simp [hy]))
    rw [List.length_erase_of_mem hx] at this
    have : 0 < T.length := List.length_pos_of_mem hx
    rw [List.length_cons]
    omega
theorem Land.step {m m' : Int → Int} {v : Int} {dom ord : List Int} {s : Nat} (A : Land m (v :: dom)) (hp : ord.Perm dom) (hs : ord.Pairwise fun x y => m x ≤ m y) (ev : m v = s) (sl : s ≤ dom.length)
    (h1 : ∀ x ∈ ord.take s, m' x = m x) (h2 : ∀ x ∈ ord.drop s, m' x = m x - 1) : Land m' dom := by
  have nd := A.nd
  rw [List.nodup_cons] at nd
  have ol := hp.length_eq
  have ndo : ord.Nodup := hp.nodup_iff.mpr nd.2
  have ndt : (ord.take s ++ ord.drop s).Nodup := by rw [List.take_append_drop]; exact ndo
  rw [List.nodup_append] at ndt
  have memo : ∀ x, x ∈ dom ↔ x ∈ ord.take s ∨ x ∈ ord.drop s := fun x => by rw [← hp.mem_iff, ← List.mem_append, List.take_append_drop]
  have lt : (ord.take s).length = s := by rw [List.length_take]; omega
  have sor : ∀ u ∈ ord.take s, ∀ x ∈ ord.drop s, m u ≤ m x := by
    have : (ord.take s ++ ord.drop s).Pairwise fun x y => m x ≤ m y := by rw [List.take_append_drop]; exact hs
    rw [List.pairwise_append] at this
    exact this.2.2
  -- of each list of players
  have cut : ∀ T : List Int, (∀ x ∈ T, x ∈ dom) → sumF m' T = sumF m T - (T.filter fun x => decide (x ∈ ord.drop s)).length := fun T hT => by
    rw [sumF_split m' (fun x => decide (x ∈ ord.drop s)) T, sumF_split m (fun x => decide (x ∈ ord.drop s)) T]
    rw [sumF_less (m := m) (m' := m') fun x hx => h2 x (of_decide_eq_true (List.mem_filter.mp hx).2)]
    rw [sumF_congr (m := m') (m' := m) (T := T.filter fun x => !decide (x ∈ ord.drop s)) fun x hx => ?_]
    · omega
    · have q := List.mem_filter.mp hx
      have q2 : x ∉ ord.drop s := by simpa using q.2
      rcases (memo x).mp (hT x q.1) with z | z
      · exact h1 x z
      · exact absurd z q2
  have dl : (dom.filter fun x => decide (x ∈ ord.drop s)).length = dom.length - s := by
    have e1 : (dom.filter fun x => decide (x ∈ ord.drop s)).Perm (ord.drop s) := by
      refine (List.perm_ext_iff_of_nodup (nd.2.filter _) ndt.2.1).mpr fun x => ?_
      rw [List.mem_filter, decide_eq_true_iff]
      exact ⟨fun h => h.2, fun h => ⟨(memo x).mpr (.inr h), h⟩⟩
    rw [e1.length_eq, List.length_drop, ol]
  refine ⟨nd.2, ?_, ?_⟩
  · have a := A.all
    rw [sumF_cons, List.length_cons, tri_succ, ev] at a
    rw [cut dom fun x h => h, dl]
    omega
  -- no set has too few
  have key : ∀ (k : Nat) (T : List Int), T.Nodup → (∀ x ∈ T, x ∈ dom) → sumF m' T < tri T.length → (sumF m' T - tri T.length + dom.length).toNat = k → False := by
    intro k
    induction k using Nat.strongRecOn with
    | _ k ih =>
      intro T ndT hT bad ek
      have low : ∀ S : List Int, S.Nodup → (∀ x ∈ S, x ∈ dom) → tri S.length - dom.length ≤ sumF m' S := fun S ndS hS => by
        have a := A.sub S ndS fun x hx => List.mem_cons_of_mem _ (hS x hx)
        have b := len_le_of_sub ndS hS
        have c := List.length_filter_le (fun x => decide (x ∈ ord.drop s)) S
        rw [cut S hS]
        omega
      have lowT := low T ndT hT
      have least : ∀ S : List Int, S.Nodup → (∀ x ∈ S, x ∈ dom) → sumF m' T - tri T.length ≤ sumF m' S - tri S.length := fun S ndS hS => by
        refine Classical.byContradiction fun no => ?_
        have lowS := low S ndS hS
        exact ih (sumF m' S - tri S.length + dom.length).toNat (by omega) S ndS hS (by omega) rfl
      have inT : ∀ x ∈ T, m' x ≤ (T.length : Int) - 1 := fun x hx => by
        have a := least (T.erase x) (ndT.erase x) fun y hy => hT y (List.mem_of_mem_erase hy)
        have b := sumF_erase (m := m') hx
        have c := List.length_erase_of_mem hx
        have d := List.length_pos_of_mem hx
        have e := tri_succ (T.erase x).length
        rw [show (T.erase x).length + 1 = T.length by omega] at e
        omega
      have outT : ∀ u ∈ dom, u ∉ T → (T.length : Int) ≤ m' u := fun u hu hn => by
        have a := least (u :: T) (List.nodup_cons.mpr ⟨hn, ndT⟩) fun y hy => (List.mem_cons.mp hy).elim (fun e => e ▸ hu) (hT y)
        rw [sumF_cons, List.length_cons, tri_succ] at a
        omega
      generalize hTH : (T.filter fun x => decide (x ∈ ord.drop s)) = TH
      generalize hTL : (T.filter fun x => !decide (x ∈ ord.drop s)) = TL
      have tl : T.length = TH.length + TL.length := by rw [← hTH, ← hTL]; exact len_split _ T
      have ts : sumF m T = sumF m TH + sumF m TL := by rw [← hTH, ← hTL]; exact sumF_split m _ T
      have cT := cut T hT
      rw [hTH] at cT
      have mTL : ∀ x, x ∈ TL ↔ x ∈ T ∧ x ∉ ord.drop s := fun x => by rw [← hTL, List.mem_filter]; simp
      have mTH : ∀ x, x ∈ TH ↔ x ∈ T ∧ x ∈ ord.drop s := fun x => by rw [← hTH, List.mem_filter]; simp
      have aT := A.sub T ndT fun x hx => List.mem_cons_of_mem _ (hT x hx)
      have aL := A.sub TL (hTL ▸ ndT.filter _) fun x hx => List.mem_cons_of_mem _ (hT x ((mTL x).mp hx).1)
      have av := A.sub (v :: T) (List.nodup_cons.mpr ⟨fun h => nd.1 (hT v h), ndT⟩) fun y hy => (List.mem_cons.mp hy).elim (fun e => e ▸ List.mem_cons_self) fun h => List.mem_cons_of_mem _ (hT y h)
      rw [sumF_cons, List.length_cons, tri_succ, ev] at av
      -- one of the s is not in it
      have : ∃ u ∈ ord.take s, u ∉ T := by
        refine Classical.byContradiction fun no => ?_
        have all : ∀ u ∈ ord.take s, u ∈ TL := fun u hu => (mTL u).mpr ⟨Classical.byContradiction fun h => no ⟨u, hu, h⟩, fun h => ndt.2.2 u hu u h rfl⟩
        have := len_le_of_sub ndt.1 all
        omega
      obtain ⟨u, hu, huT⟩ := this
      have mu := outT u ((memo u).mpr (.inl hu)) huT
      rw [h1 u hu] at mu
      have c : sumF m TH = TH.length * (T.length : Int) := sumF_const fun x hx => by
        obtain ⟨x1, x2⟩ := (mTH x).mp hx
        have a := inT x x1
        rw [h2 x x2] at a
        have b := sor u hu x x2
        omega
      have ta := tri_add TL.length TH.length
      have tt := tri_two TH.length
      have tn := tri_nonneg TH.length
      rw [show TL.length + TH.length = T.length by omega] at ta
      have e : (TH.length : Int) * (T.length : Int) = (TL.length : Int) * TH.length + (TH.length : Int) * TH.length := by
        rw [tl, show ((TH.length + TL.length : Nat) : Int) = (TH.length : Int) + TL.length by omega, Int.mul_add, Int.mul_comm (TL.length : Int)]
        omega
      have e2 : (TH.length : Int) * ((TH.length : Int) - 1) = (TH.length : Int) * TH.length - TH.length := by rw [Int.mul_sub]; omega
      omega
  intro T ndT hT
  exact Classical.byContradiction fun no => key _ T ndT hT (by omega) rfl
theorem take_least : ∀ {ms A B : List Int}, (A ++ B).Perm ms → ms.Pairwise (· ≤ ·) → (ms.take A.length).sum ≤ A.sum
  | [], A, B, h, _ => by
    have : A = [] := by
      have := h.length_eq
      rw [List.length_append, List.length_nil] at this
      exact List.length_eq_zero_iff.mp (by omega)
    subst this
    simp
  | y :: ms, A, B, h, hs => by
    rw [List.pairwise_cons] at hs
    by_cases hy : y ∈ A
    · have p := List.perm_cons_erase hy
      have p2 : (A.erase y ++ B).Perm ms := List.Perm.cons_inv ((p.append_right B).symm.trans h)
      have ih := take_least p2 hs.2
      have l := List.length_erase_of_mem hy
      have l0 := List.length_pos_of_mem hy
      rw [perm_sumI p, List.sum_cons, show A.length = (A.erase y).length + 1 by omega, List.take_succ_cons, List.sum_cons]
      omega
    · have hyB : y ∈ B := by
        have : y ∈ A ++ B := h.mem_iff.mpr (by simp)
        rcases List.mem_append.mp this with z | z
        · exact absurd z hy
        · exact z
      have p := List.perm_cons_erase hyB
      have p2 : (A ++ B.erase y).Perm ms := List.Perm.cons_inv ((List.perm_middle.symm.trans (p.symm.append_left A)).trans h)
      have ih := take_least p2 hs.2
      have l := p2.length_eq
      rw [List.length_append] at l
      cases ha : A.length with
      | zero =>
        have : A = [] := List.length_eq_zero_iff.mp ha
        subst this
        simp
      | succ k =>
        rw [ha] at ih
        have hk : k < ms.length := by omega
        rw [List.take_succ_cons, List.sum_cons]
        rw [take_snoc (List.getElem?_eq_getElem hk), List.sum_append] at ih
        simp only [List.sum_cons, List.sum_nil] at ih
        have := hs.1 ms[k] (List.getElem_mem hk)
        omega
def rowF (row : List Int) : Int → Int := fun x => row.getD x.toNat 0
theorem rowF_map (row : List Int) : (nums row.length).map (rowF row) = row := by
  unfold nums rowF
  rw [List.map_map]
  refine List.ext_getElem (by simp) fun i h1 h2 => ?_
  simp [List.getD_eq_getElem?_getD, h2]
theorem sorted_of (ns : List Int) : ∃ ms : List Int, ms.Perm ns ∧ ms.Pairwise (· ≤ ·) := by
  refine ⟨ns.mergeSort (fun a b => decide (a ≤ b)), List.mergeSort_perm _ _, ?_⟩
  refine (List.pairwise_mergeSort (le := fun (a b : Int) => decide (a ≤ b)) (fun a b c h1 h2 => ?_) (fun a b => ?_) ns).imp fun h => of_decide_eq_true h
  · have := of_decide_eq_true h1
    have := of_decide_eq_true h2
    exact decide_eq_true (by omega)
  · by_cases c : a ≤ b
    · simp [c]
    · have : b ≤ a := by omega
      simp [this]
theorem SumsOk.land {row : List Int} (S : SumsOk row) : Land (rowF row) (nums row.length) := by
  have nl := nums_length row.length
  refine ⟨nums_nodup _, ?_, fun T ndT hT => ?_⟩
  · unfold sumF
    rw [rowF_map, nl]
    exact S.all
  · obtain ⟨ms, hp, hs⟩ := sorted_of row
    have e : (T ++ (nums row.length).filter fun x => !decide (x ∈ T)).Perm (nums row.length) := by
      refine (List.Perm.append_right _ ?_).trans (List.filter_append_perm (fun x => decide (x ∈ T)) (nums row.length))
      refine (List.perm_ext_iff_of_nodup ndT ((nums_nodup _).filter _)).mpr fun x => ?_
      rw [List.mem_filter, decide_eq_true_iff]
      exact ⟨fun h => ⟨hT x h, h⟩, fun h => h.2⟩
    have e2 := e.map (rowF row)
    rw [rowF_map, List.map_append] at e2
    have q := take_least (e2.trans hp.symm) hs
    rw [List.length_map] at q
    have tl : T.length ≤ row.length := by have := len_le_of_sub ndT hT; omega
    unfold sumF
    by_cases c : T.length = 0
    · have : T = [] := List.length_eq_zero_iff.mp c
      subst this
      exact Int.le_refl 0
    · have := S.least ms hp hs T.length (by omega) tl
      omega
end KH
namespace KH
theorem turned_ex {rows : List (List Int)} {a b c : Int} (h : IsHall rows) (T3 : Three rows a b c) (ra : 0 ≤ a ∧ a < rows.length) (rb : 0 ≤ b ∧ b < rows.length) (rc : 0 ≤ c ∧ c < rows.length) : ∃ rows', TurnedBy rows rows' a b c := by
  have flip : ∀ {rows : List (List Int)} {x y : Int}, IsHall rows → (0 ≤ x ∧ x < rows.length) → (0 ≤ y ∧ y < rows.length) → y ∈ R rows x → ∃ rows', FlipBy rows rows' x y := by
    intro rows x y h rx ry hm
    obtain ⟨i, rfl⟩ : ∃ i : Nat, x = (i : Int) := ⟨x.toNat, by omega⟩
    obtain ⟨j, rfl⟩ : ∃ j : Nat, y = (j : Int) := ⟨y.toNat, by omega⟩
    rw [R_nat'] at hm
    obtain ⟨ns, hp, hs⟩ := sorted_of (rowAt rows j ++ [(i : Int)])
    exact ⟨_, flip_of h (by omega) (by omega) hm hp hs⟩
  obtain ⟨t1, t2, t3⟩ := T3
  have nab := (h.rng ra t1).2
  have nbc := (h.rng rb t2).2
  have nca := (h.rng rc t3).2
  obtain ⟨r1, f1⟩ := flip h ra rb t1
  have l1 := f1.len
  have m1 : c ∈ R r1 b := (f1.rel b rb.1 rb.2 c).mpr ⟨by omega, .inr t2⟩
  obtain ⟨r2, f2⟩ := flip f1.hall (by omega) (by omega) m1
  have l2 := f2.len
  have m2 : a ∈ R r2 c := (f2.rel c rc.1 (by omega) a).mpr ⟨by omega, .inr ((f1.rel c rc.1 rc.2 a).mpr ⟨by omega, .inr t3⟩)⟩
  obtain ⟨r3, f3⟩ := flip f2.hall (by omega) (by omega) m2
  exact ⟨r3, flips_turn h ⟨t1, t2, t3⟩ ra rb rc f1 f2 f3⟩
def InR (rows : List (List Int)) (x : Int) : Prop := 0 ≤ x ∧ x < rows.length
inductive Leads : List (List Int) → List (Int × Int × Int) → List (List Int) → Prop
  | nil (r) : Leads r [] r
  | cons {r r1 r2 : List (List Int)} {a b c : Int} {ts} (ra : InR r a) (rb : InR r b) (rc : InR r c) (t : Three r a b c) (h : TurnedBy r r1 a b c) (l : Leads r1 ts r2) : Leads r ((a, b, c) :: ts) r2
theorem Leads.append {r r1 r2 : List (List Int)} {ts us} (h : Leads r ts r1) (g : Leads r1 us r2) : Leads r (ts ++ us) r2 := by
  induction h with
  | nil r => exact g
  | cons ra rb rc t h l ih => exact .cons ra rb rc t h (ih g)
theorem Leads.len {r r2 : List (List Int)} {ts} (h : Leads r ts r2) : r2.length = r.length := by
  induction h with
  | nil r => rfl
  | cons ra rb rc t h l ih => rw [ih, h.len]
theorem Leads.hall {r r2 : List (List Int)} {ts} (h : Leads r ts r2) (i : IsHall r) : IsHall r2 := by
  induction h with
  | nil r => exact i
  | cons ra rb rc t h l ih => exact ih h.hall
def thr (rows : List (List Int)) (r0 : Int) : Int → List Int → List (Int × Int × Int)
  | _, [] => []
  | a, [c] => [(r0, a, c)]
  | a, b :: c :: rest => if r0 ∈ R rows b then (r0, a, b) :: thr rows r0 b (c :: rest) else thr rows r0 b (c :: rest) ++ [(r0, a, b)]
theorem thr_len (rows : List (List Int)) (r0 : Int) : ∀ (rest : List Int) (a : Int), (thr rows r0 a rest).length = rest.length
  | [], _ => rfl
  | [c], _ => rfl
  | b :: c :: rest, a => by
    unfold thr
    have := thr_len rows r0 (c :: rest) b
    split
    · rw [List.length_cons, this]; rfl
    · rw [List.length_append, this]; rfl
def Ed : List Int → Int → Int → Prop
  | u :: v :: r, x, y => (x = u ∧ y = v) ∨ Ed (v :: r) x y
  | _, _, _ => False
def Wy (a : Int) (rest : List Int) (z x y : Int) : Prop := Ed (a :: (rest ++ [z])) x y
theorem Wy.mem : ∀ {rest : List Int} {a z x y : Int}, Wy a rest z x y → (x = a ∨ x ∈ rest) ∧ (y ∈ rest ∨ y = z)
  | [], a, z, x, y, h => by
    rcases h with ⟨h1, h2⟩ | h
    · exact ⟨.inl h1, .inr h2⟩
    · exact h.elim
  | b :: r, a, z, x, y, h => by
    rcases h with ⟨h1, h2⟩ | h
    · exact ⟨.inl h1, .inl (by simp [h2])⟩
    · have := Wy.mem (rest := r) (a := b) h
      exact ⟨.inr (by rcases this.1 with q | q <;> simp [q]), this.2.imp (fun q => by simp [q]) id⟩
structure RevBy (rows rows' : List (List Int)) (C : Int → Int → Prop) : Prop where
  hall : IsHall rows'
  len : rows'.length = rows.length
  rel : ∀ x : Int, 0 ≤ x → x < rows.length → ∀ y : Int, y ∈ R rows' x ↔ (¬ C x y ∧ (C y x ∨ y ∈ R rows x))
def Chn (rows : List (List Int)) : Int → List Int → Int → Prop
  | a, [], z => z ∈ R rows a
  | a, b :: r, z => b ∈ R rows a ∧ Chn rows b r z
theorem Chn.of_ed {rows : List (List Int)} : ∀ {rest : List Int} {a z : Int}, (∀ x y, Wy a rest z x y → y ∈ R rows x) → Chn rows a rest z
  | [], a, z, h => h a z (.inl ⟨rfl, rfl⟩)
  | b :: r, a, z, h => ⟨h a b (.inl ⟨rfl, rfl⟩), Chn.of_ed fun x y q => h x y (.inr q)⟩
theorem Chn.ed {rows : List (List Int)} : ∀ {rest : List Int} {a z x y : Int}, Chn rows a rest z → Wy a rest z x y → y ∈ R rows x
  | [], a, z, x, y, h, w => by
    rcases w with ⟨h1, h2⟩ | w
    · rw [h1, h2]; exact h
    · exact w.elim
  | b :: r, a, z, x, y, h, w => by
    rcases w with ⟨h1, h2⟩ | w
    · rw [h1, h2]; exact h.1
    · exact Chn.ed h.2 w
theorem thr_leads (rows0 : List (List Int)) (r0 : Int) : ∀ (rest : List Int) (a : Int) (G : List (List Int)), IsHall G → rest ≠ [] → (r0 :: a :: rest).Nodup → (∀ x ∈ r0 :: a :: rest, InR G x) → a ∈ R G r0 → Chn G a rest r0 →
    (∀ b ∈ rest.dropLast, (r0 ∈ R G b ↔ r0 ∈ R rows0 b)) → ∃ G', Leads G (thr rows0 r0 a rest) G' ∧ RevBy G G' (fun x y => (x = r0 ∧ y = a) ∨ Wy a rest r0 x y)
  | [], a, G, hG, ne, _, _, _, _, _ => absurd rfl ne
  | [c], a, G, hG, _, nd, rg, h0, hc, _ => by
    have ra := rg r0 (by simp)
    have rb := rg a (by simp)
    have rc := rg c (by simp)
    have T : Three G r0 a c := ⟨h0, hc.1, hc.2⟩
    obtain ⟨G', t⟩ := turned_ex hG T ra rb rc
    refine ⟨G', .cons ra rb rc T t (.nil _), t.hall, t.len, fun x x0 x1 y => ?_⟩
    rw [t.rel x x0 x1 y]
    have e : ∀ x y, OnRing r0 a c x y ↔ ((x = r0 ∧ y = a) ∨ Wy a [c] r0 x y) := fun x y => by
      unfold OnRing Wy
      simp only [List.cons_append, List.nil_append, Ed, or_false]
    rw [e, e]
  | b :: c :: rest, a, G, hG, _, nd, rg, h0, hc, ag => by
    have ra := rg r0 (by simp)
    have rb := rg a (by simp)
    have rbb := rg b (by simp)
    obtain ⟨hc1, hc2⟩ := hc
    rw [List.nodup_cons, List.nodup_cons, List.nodup_cons] at nd
    obtain ⟨n0, n1, n2, n3⟩ := nd
    have a_r0 : a ≠ r0 := fun e => n0 (by simp [e])
    have b_r0 : b ≠ r0 := fun e => n0 (by simp [e])
    have b_a : b ≠ a := fun e => n1 (by simp [e])
    have nd' : (r0 :: b :: c :: rest).Nodup := by
      rw [List.nodup_cons, List.nodup_cons]
      exact ⟨fun h => n0 (List.mem_cons_of_mem _ h), n2, n3⟩
    have Kx : ∀ {x y}, Wy b (c :: rest) r0 x y → x ≠ r0 ∧ x ≠ a ∧ y ≠ a ∧ y ≠ b := fun {x y} w => by
      have := Wy.mem w
      refine ⟨fun e => ?_, fun e => ?_, fun e => ?_, fun e => ?_⟩
      · rcases this.1 with q | q
        · exact b_r0 (q.symm.trans e)
        · exact n0 (by rw [← e]; exact List.mem_cons_of_mem _ (List.mem_cons_of_mem _ q))
      · rcases this.1 with q | q
        · exact b_a (q.symm.trans e)
        · exact n1 (by rw [← e]; exact List.mem_cons_of_mem _ q)
      · rcases this.2 with q | q
        · exact n1 (by rw [← e]; exact List.mem_cons_of_mem _ q)
        · exact a_r0 (e.symm.trans q)
      · rcases this.2 with q | q
        · exact n2 (by rw [← e]; exact q)
        · exact b_r0 (e.symm.trans q)
    have Kb : ¬ Wy b (c :: rest) r0 b r0 := fun w => by
      rcases w with ⟨_, e⟩ | w
      · exact n0 (by rw [e]; simp)
      · rcases (Wy.mem (rest := rest) (a := c) w).1 with q | q
        · exact n2 (by rw [q]; simp)
        · exact n2 (by simp [q])
    have drop : ∀ x ∈ (c :: rest).dropLast, x ∈ (b :: c :: rest).dropLast := fun x hx => by
      rw [List.dropLast_cons₂]
      exact List.mem_cons_of_mem _ hx
    have nin : ∀ x ∈ (c :: rest).dropLast, x ≠ r0 ∧ x ≠ a ∧ x ≠ b := fun x hx => by
      have hx' := (List.dropLast_sublist _).subset hx
      exact ⟨fun e => n0 (by rw [← e]; exact List.mem_cons_of_mem _ (List.mem_cons_of_mem _ hx')), fun e => n1 (by rw [← e]; exact List.mem_cons_of_mem _ hx'), fun e => n2 (by rw [← e]; exact hx')⟩
    have agb := ag b (by rw [List.dropLast_cons₂]; simp)
    have rg' : ∀ x ∈ r0 :: b :: c :: rest, InR G x := fun x hx => rg x (by
      rcases List.mem_cons.mp hx with q | q
      · simp [q]
      · exact List.mem_cons_of_mem _ (List.mem_cons_of_mem _ q))
    unfold thr
    by_cases d : r0 ∈ R rows0 b
    · rw [if_pos d]
      have dG := agb.mpr d
      have bn : b ∉ R G r0 := fun z => (hG.other rbb ra b_r0).mp z dG
      have T : Three G r0 a b := ⟨h0, hc1, dG⟩
      obtain ⟨G1, t⟩ := turned_ex hG T ra rb rbb
      have l1 := t.len
      have rel1 : ∀ x y : Int, 0 ≤ x → x < G.length → ¬ OnRing r0 a b x y → (y ∈ R G1 x ↔ (OnRing r0 a b y x ∨ y ∈ R G x)) := fun x y x0 x1 no => by
        rw [t.rel x x0 x1 y]
        exact ⟨fun z => z.2, fun z => ⟨no, z⟩⟩
      have ch : Chn G1 b (c :: rest) r0 := Chn.of_ed fun x y w => by
        have k := Kx w
        have hx : InR G x := rg x (by rcases (Wy.mem w).1 with q | q <;> simp [q])
        refine (rel1 x y hx.1 hx.2 fun o => ?_).mpr (.inr (Chn.ed hc2 w))
        rcases o with o | o | o
        · exact k.1 o.1
        · exact k.2.1 o.1
        · exact Kb (by rw [o.1, o.2] at w; exact w)
      obtain ⟨G', L, V⟩ := thr_leads rows0 r0 (c :: rest) b G1 t.hall (by simp) nd' (fun x hx => by have := rg' x hx; unfold InR at *; omega)
        ((rel1 r0 b ra.1 ra.2 (by rintro (o | o | o) <;> omega)).mpr (.inl (.inr (.inr ⟨rfl, rfl⟩)))) ch fun x hx => by
          have q := nin x hx
          have hx' : InR G x := rg x (by have := (List.dropLast_sublist _).subset hx; simp at this ⊢; rcases this with z | z <;> simp [z])
          rw [rel1 x r0 hx'.1 hx'.2 (by rintro (o | o | o) <;> omega)]
          rw [← ag x (drop x hx)]
          exact ⟨fun z => z.elim (fun o => by rcases o with o | o | o <;> omega) id, .inr⟩
      refine ⟨G', .cons ra rb rbb T t L, V.hall, V.len.trans l1, fun x x0 x1 y => ?_⟩
      rw [V.rel x x0 (by omega) y, t.rel x x0 x1 y]
      show (¬ ((x = r0 ∧ y = b) ∨ Wy b (c :: rest) r0 x y) ∧ (((y = r0 ∧ x = b) ∨ Wy b (c :: rest) r0 y x) ∨ (¬ OnRing r0 a b x y ∧ (OnRing r0 a b y x ∨ y ∈ R G x)))) ↔
        (¬ ((x = r0 ∧ y = a) ∨ ((x = a ∧ y = b) ∨ Wy b (c :: rest) r0 x y)) ∧ (((y = r0 ∧ x = a) ∨ ((y = a ∧ x = b) ∨ Wy b (c :: rest) r0 y x)) ∨ y ∈ R G x))
      unfold OnRing
      by_cases k1 : Wy b (c :: rest) r0 x y
      · simp [k1]
      by_cases k2 : Wy b (c :: rest) r0 y x
      · have q := Kx k2
        have q2 : ¬ (y = b ∧ x = r0) := fun e => Kb (by rw [e.1, e.2] at k2; exact k2)
        have e1 : ¬ (x = r0 ∧ y = b) := fun e => q2 ⟨e.2, e.1⟩
        have e2 : ¬ (x = r0 ∧ y = a) := fun e => q.2.1 e.2
        have e3 : ¬ (x = a ∧ y = b) := fun e => q.2.2.1 e.1
        simp [k1, k2, e1, e2, e3]
      simp only [k1, k2, or_false]
      by_cases e1 : x = r0 ∧ y = a
      · obtain ⟨rfl, rfl⟩ := e1
        simp [a_r0, a_r0.symm, b_a, b_a.symm, b_r0, b_r0.symm]
      by_cases e2 : y = r0 ∧ x = a
      · obtain ⟨rfl, rfl⟩ := e2
        simp [a_r0, a_r0.symm, b_a, b_a.symm, b_r0, b_r0.symm]
      by_cases e3 : x = a ∧ y = b
      · obtain ⟨rfl, rfl⟩ := e3
        simp [a_r0, a_r0.symm, b_a, b_a.symm, b_r0, b_r0.symm]
      by_cases e4 : y = a ∧ x = b
      · obtain ⟨rfl, rfl⟩ := e4
        simp [a_r0, a_r0.symm, b_a, b_a.symm, b_r0, b_r0.symm]
      by_cases e5 : x = r0 ∧ y = b
      · obtain ⟨rfl, rfl⟩ := e5
        simp [a_r0, a_r0.symm, b_a, b_a.symm, b_r0, b_r0.symm, bn]
      by_cases e6 : y = r0 ∧ x = b
      · obtain ⟨rfl, rfl⟩ := e6
        simp [a_r0, a_r0.symm, b_a, b_a.symm, b_r0, b_r0.symm, dG]
      have e4' : ¬ (x = b ∧ y = r0) := fun e => e6 ⟨e.2, e.1⟩
      have e7 : ¬ (y = b ∧ x = r0) := fun e => e5 ⟨e.2, e.1⟩
      simp [e1, e2, e3, e4, e5, e6, e4', e7]
    · rw [if_neg d]
      have dG : r0 ∉ R G b := fun z => d (agb.mp z)
      have bn : b ∈ R G r0 := (hG.other rbb ra b_r0).mpr dG
      obtain ⟨G1, L, V⟩ := thr_leads rows0 r0 (c :: rest) b G hG (by simp) nd' rg' bn hc2 fun x hx => ag x (drop x hx)
      have l1 := V.len
      have T : Three G1 r0 a b := by
        refine ⟨(V.rel r0 ra.1 ra.2 a).mpr ⟨?_, .inr h0⟩, (V.rel a rb.1 rb.2 b).mpr ⟨?_, .inr hc1⟩, (V.rel b rbb.1 rbb.2 r0).mpr ⟨?_, .inl (.inl ⟨rfl, rfl⟩)⟩⟩
        · rintro (z | z)
          · exact b_a z.2.symm
          · exact (Kx z).1 rfl
        · rintro (z | z)
          · exact a_r0 z.1
          · exact (Kx z).2.1 rfl
        · rintro (z | z)
          · exact b_r0 z.1
          · exact Kb z
      have i1 : ∀ {x}, InR G x → InR G1 x := fun h => by unfold InR at *; omega
      obtain ⟨G', t⟩ := turned_ex V.hall T (i1 ra) (i1 rb) (i1 rbb)
      refine ⟨G', L.append (.cons (i1 ra) (i1 rb) (i1 rbb) T t (.nil _)), t.hall, t.len.trans l1, fun x x0 x1 y => ?_⟩
      rw [t.rel x x0 (by omega) y, V.rel x x0 x1 y]
      show (¬ OnRing r0 a b x y ∧ (OnRing r0 a b y x ∨ (¬ ((x = r0 ∧ y = b) ∨ Wy b (c :: rest) r0 x y) ∧ (((y = r0 ∧ x = b) ∨ Wy b (c :: rest) r0 y x) ∨ y ∈ R G x)))) ↔
        (¬ ((x = r0 ∧ y = a) ∨ ((x = a ∧ y = b) ∨ Wy b (c :: rest) r0 x y)) ∧ (((y = r0 ∧ x = a) ∨ ((y = a ∧ x = b) ∨ Wy b (c :: rest) r0 y x)) ∨ y ∈ R G x))
      unfold OnRing
      by_cases k1 : Wy b (c :: rest) r0 x y
      · have q := Kx k1
        have q2 : ¬ (x = b ∧ y = r0) := fun e => Kb (by rw [e.1, e.2] at k1; exact k1)
        have e1 : ¬ (y = r0 ∧ x = a) := fun e => q.2.1 e.2
        have e2 : ¬ (y = a ∧ x = b) := fun e => q.2.2.1 e.1
        have e3 : ¬ (y = b ∧ x = r0) := fun e => q.1 e.2
        simp [k1, e1, e2, e3]
      by_cases k2 : Wy b (c :: rest) r0 y x
      · have q := Kx k2
        have q2 : ¬ (y = b ∧ x = r0) := fun e => Kb (by rw [e.1, e.2] at k2; exact k2)
        have e1 : ¬ (x = r0 ∧ y = b) := fun e => q2 ⟨e.2, e.1⟩
        have e2 : ¬ (x = r0 ∧ y = a) := fun e => q.2.1 e.2
        have e3 : ¬ (x = a ∧ y = b) := fun e => q.2.2.1 e.1
        have e4 : ¬ (x = b ∧ y = r0) := fun e => q.1 e.2
        simp [k1, k2, e1, e2, e3, e4]
      simp only [k1, k2, or_false]
      by_cases e1 : x = r0 ∧ y = a
      · obtain ⟨rfl, rfl⟩ := e1
        simp [a_r0, a_r0.symm, b_a, b_a.symm, b_r0, b_r0.symm]
      by_cases e2 : y = r0 ∧ x = a
      · obtain ⟨rfl, rfl⟩ := e2
        simp [a_r0, a_r0.symm, b_a, b_a.symm, b_r0, b_r0.symm]
      by_cases e3 : x = a ∧ y = b
      · obtain ⟨rfl, rfl⟩ := e3
        simp [a_r0, a_r0.symm, b_a, b_a.symm, b_r0, b_r0.symm]
      by_cases e4 : y = a ∧ x = b
      · obtain ⟨rfl, rfl⟩ := e4
        simp [a_r0, a_r0.symm, b_a, b_a.symm, b_r0, b_r0.symm]
      by_cases e5 : x = r0 ∧ y = b
      · obtain ⟨rfl, rfl⟩ := e5
        simp [a_r0, a_r0.symm, b_a, b_a.symm, b_r0, b_r0.symm, bn]
      by_cases e6 : y = r0 ∧ x = b
      · obtain ⟨rfl, rfl⟩ := e6
        simp [a_r0, a_r0.symm, b_a, b_a.symm, b_r0, b_r0.symm, dG]
      have e4' : ¬ (x = b ∧ y = r0) := fun e => e6 ⟨e.2, e.1⟩
      have e7 : ¬ (y = b ∧ x = r0) := fun e => e5 ⟨e.2, e.1⟩
      simp [e1, e2, e3, e4, e5, e6, e4', e7]
end KH
namespace KH
def lose (rows orows : List (List Int)) (x : Int) : List Int := (R rows x).filter fun y => decide (y ∉ R orows x)
theorem mem_lose {rows orows : List (List Int)} {x y : Int} : y ∈ lose rows orows x ↔ y ∈ R rows x ∧ y ∉ R orows x := by unfold lose; rw [List.mem_filter, decide_eq_true_iff]
structure Like (rows orows : List (List Int)) : Prop where
  h1 : IsHall rows
  h2 : IsHall orows
  len : rows.length = orows.length
  wins : ∀ x : Int, InR rows x → (R rows x).length = (R orows x).length
theorem R_nodup {rows : List (List Int)} (h : IsHall rows) {x : Int} (hx : InR rows x) : (R rows x).Nodup := by
  obtain ⟨h0, h1⟩ := hx
  obtain ⟨i, rfl⟩ : ∃ i : Nat, x = i := ⟨x.toNat, by omega⟩
  rw [R_nat']
  exact rowAt_nodup h (by omega)
theorem Like.symm {rows orows : List (List Int)} (L : Like rows orows) : Like orows rows := ⟨L.h2, L.h1, L.len.symm, fun x hx => (L.wins x (by unfold InR at *; have := L.len; omega)).symm⟩
theorem Like.lens {rows orows : List (List Int)} (L : Like rows orows) {x : Int} (hx : InR rows x) : (lose rows orows x).length = (lose orows rows x).length := by
  have hx' : InR orows x := by unfold InR at *; have := L.len; omega
  have a := len_split (fun y => decide (y ∈ R orows x)) (R rows x)
  have b := len_split (fun y => decide (y ∈ R rows x)) (R orows x)
  have w := L.wins x hx
  have e1 : ((R rows x).filter fun y => !decide (y ∈ R orows x)) = lose rows orows x := by
    unfold lose
    congr 1
    funext y
    simp
  have e2 : ((R orows x).filter fun y => !decide (y ∈ R rows x)) = lose orows rows x := by
    unfold lose
    congr 1
    funext y
    simp
  rw [e1] at a
  rw [e2] at b
  have c : ((R rows x).filter fun y => decide (y ∈ R orows x)).Perm ((R orows x).filter fun y => decide (y ∈ R rows x)) := by
    refine (List.perm_ext_iff_of_nodup ((R_nodup L.h1 hx).filter _) ((R_nodup L.h2 hx').filter _)).mpr fun y => ?_
    rw [List.mem_filter, List.mem_filter, decide_eq_true_iff, decide_eq_true_iff]
    exact ⟨fun h => ⟨h.2, h.1⟩, fun h => ⟨h.2, h.1⟩⟩
  have := c.length_eq
  omega
theorem Like.swap {rows orows : List (List Int)} (L : Like rows orows) {x y : Int} (hx : InR rows x) (h : y ∈ lose rows orows x) : InR rows y ∧ x ∈ lose orows rows y ∧ x ∉ R rows y := by
  rw [mem_lose] at h
  have r := L.h1.rng hx h.1
  have hy : InR rows y := r.1
  have l := L.len
  have n1 : x ∉ R rows y := (L.h1.other hy hx r.2).mp h.1
  have n2 : x ∈ R orows y := (L.h2.other (u := x) (v := y) (by unfold InR at hx; omega) (by unfold InR at hy; omega) (Ne.symm r.2)).mpr h.2
  exact ⟨hy, mem_lose.mpr ⟨n2, n1⟩, n1⟩
theorem Like.next {rows orows : List (List Int)} (L : Like rows orows) {x y : Int} (hx : InR rows x) (h : y ∈ lose rows orows x) : InR rows y ∧ lose rows orows y ≠ [] := by
  obtain ⟨hy, g, _⟩ := L.swap hx h
  refine ⟨hy, fun e => ?_⟩
  have := L.lens hy
  rw [e, List.length_nil] at this
  have := List.length_pos_of_mem g
  omega
theorem Like.first {rows orows : List (List Int)} (L : Like rows orows) (ne : rows ≠ orows) : ∃ x, InR rows x ∧ lose rows orows x ≠ [] := by
  refine Classical.byContradiction fun no => ne ?_
  have all : ∀ x, InR rows x → ∀ y, y ∈ R rows x → y ∈ R orows x := fun x hx y hy => Classical.byContradiction fun h => no ⟨x, hx, fun e => by
    have : y ∈ lose rows orows x := mem_lose.mpr ⟨hy, h⟩
    rw [e] at this
    cases this⟩
  have l := L.len
  refine hall_ext L.h1 L.h2 L.len fun i hi x => ?_
  have hi' : InR rows (i : Int) := ⟨by omega, by omega⟩
  rw [← R_nat', ← R_nat']
  refine ⟨all i hi' x, fun h => Classical.byContradiction fun n => ?_⟩
  have w := L.lens hi'
  have e1 : lose rows orows i = [] := Classical.byContradiction fun e => no ⟨i, hi', e⟩
  rw [e1, List.length_nil] at w
  have : x ∈ lose orows rows i := mem_lose.mpr ⟨h, n⟩
  have := List.length_pos_of_mem this
  omega
theorem Like.five {rows orows : List (List Int)} (L : Like rows orows) {x : Int} (hx : InR rows x) : (lose rows orows x).length ≤ 5 := by
  have w := L.lens hx
  have l := L.len
  have h12 := L.h1.hi
  have hx' : InR orows x := by unfold InR at *; omega
  have n1 : (lose rows orows x).Nodup := (R_nodup L.h1 hx).filter _
  have n2 : (lose orows rows x).Nodup := (R_nodup L.h2 hx').filter _
  have q := few_of_nodup rows.length (x :: (lose rows orows x ++ lose orows rows x)) (by
    rw [List.nodup_cons, List.nodup_append]
    refine ⟨fun h => ?_, n1, n2, fun a ha b hb e => ?_⟩
    · rcases List.mem_append.mp h with z | z
      · exact (L.h1.rng hx (mem_lose.mp z).1).2 rfl
      · exact (L.h2.rng hx' (mem_lose.mp z).1).2 rfl
    · rw [e] at ha
      exact (mem_lose.mp ha).2 (mem_lose.mp hb).1) (fun y hy => by
    rcases List.mem_cons.mp hy with z | z
    · rw [z]; exact hx
    · rcases List.mem_append.mp z with z | z
      · exact (L.h1.rng hx (mem_lose.mp z).1).1
      · have := (L.h2.rng hx' (mem_lose.mp z).1).1
        omega)
  rw [List.length_cons, List.length_append] at q
  omega
def dist (rows orows : List (List Int)) : Nat := ((nums rows.length).map fun x => (lose rows orows x).length).sum
theorem sum_le_mul {f : Int → Nat} {c : Nat} : ∀ {l : List Int}, (∀ x ∈ l, f x ≤ c) → (l.map f).sum ≤ l.length * c
  | [], _ => by simp
  | x :: r, h => by
    rw [List.map_cons, List.sum_cons, List.length_cons, Nat.add_mul, Nat.one_mul]
    have := h x (by simp)
    have := sum_le_mul (l := r) fun y hy => h y (by simp [hy])
    omega
theorem Like.dist {rows orows : List (List Int)} (L : Like rows orows) : dist rows orows ≤ 60 := by
  unfold KH.dist
  have h12 := L.h1.hi
  have := sum_le_mul (l := nums rows.length) (f := fun x => (lose rows orows x).length) (c := 5) fun x hx => L.five (mem_nums.mp hx)
  rw [nums_length] at this
  omega
theorem Wy.succ : ∀ {rest : List Int} {a z x : Int}, (x = a ∨ x ∈ rest) → ∃ y, Wy a rest z x y
  | [], a, z, x, h => by
    have : x = a := by simpa using h
    exact ⟨z, .inl ⟨this, rfl⟩⟩
  | b :: r, a, z, x, h => by
    rcases h with h | h
    · exact ⟨b, .inl ⟨h, rfl⟩⟩
    · obtain ⟨y, w⟩ := Wy.succ (rest := r) (a := b) (z := z) (List.mem_cons.mp h)
      exact ⟨y, .inr w⟩
theorem Wy.uniq : ∀ {rest : List Int} {a z x y y' : Int}, (a :: rest).Nodup → Wy a rest z x y → Wy a rest z x y' → y = y'
  | [], a, z, x, y, y', _, h, h' => by
    rcases h with h | h
    · rcases h' with h' | h'
      · rw [h.2, h'.2]
      · exact h'.elim
    · exact h.elim
  | b :: r, a, z, x, y, y', nd, h, h' => by
    rw [List.nodup_cons] at nd
    have no : ∀ {y}, Wy b r z a y → False := fun w => nd.1 (List.mem_cons.mpr (Wy.mem w).1)
    rcases h with h | h
    · rcases h' with h' | h'
      · rw [h.2, h'.2]
      · rw [h.1] at h'; exact (no h').elim
    · rcases h' with h' | h'
      · rw [h'.1] at h; exact (no h).elim
      · exact Wy.uniq nd.2 h h'
theorem Ed.app : ∀ {l m : List Int} {x y : Int}, Ed m x y → Ed (l ++ m) x y
  | [], _, _, _, h => h
  | [a], m, x, y, h => by
    cases m with
    | nil => exact h.elim
    | cons b r => exact .inr h
  | a :: b :: l, m, x, y, h => .inr (Ed.app (l := b :: l) h)
theorem Ed.snoc : ∀ {l : List Int} {p q x y : Int}, Ed (l ++ [p] ++ [q]) x y → Ed (l ++ [p]) x y ∨ (x = p ∧ y = q)
  | [], p, q, x, y, h => by
    rcases h with h | h
    · exact .inr h
    · exact h.elim
  | [a], p, q, x, y, h => by
    rcases h with h | h | h
    · exact .inl (.inl h)
    · exact .inr h
    · exact h.elim
  | a :: b :: l, p, q, x, y, h => by
    rcases h with h | h
    · exact .inl (.inl h)
    · rcases Ed.snoc (l := b :: l) h with z | z
      · exact .inl (.inr z)
      · exact .inr z
structure DRing (rows orows : List (List Int)) (r0 a : Int) (rest : List Int) : Prop where
  nd : (r0 :: a :: rest).Nodup
  ne : rest ≠ []
  rng : ∀ x ∈ r0 :: a :: rest, InR rows x
  ed : ∀ x y, Wy r0 (a :: rest) r0 x y → y ∈ lose rows orows x
theorem DRing.leads {rows orows : List (List Int)} {r0 a : Int} {rest : List Int} (h : IsHall rows) (D : DRing rows orows r0 a rest) : ∃ rows', Leads rows (thr rows r0 a rest) rows' ∧ RevBy rows rows' (Wy r0 (a :: rest) r0) := by
  have ed : ∀ x y, Wy r0 (a :: rest) r0 x y → y ∈ R rows x := fun x y w => (mem_lose.mp (D.ed x y w)).1
  obtain ⟨G, L, V⟩ := thr_leads rows r0 rest a rows h D.ne D.nd D.rng (ed r0 a (.inl ⟨rfl, rfl⟩)) (Chn.of_ed fun x y w => ed x y (.inr w)) fun b _ => Iff.rfl
  exact ⟨G, L, V.hall, V.len, V.rel⟩
theorem turned_wins {rows rows' : List (List Int)} {a b c : Int} (h : IsHall rows) (T3 : Three rows a b c) (ra : InR rows a) (rb : InR rows b) (rc : InR rows c) (t : TurnedBy rows rows' a b c) {x : Int} (hx : InR rows x) : (R rows' x).length = (R rows x).length := by
  have hx' : InR rows' x := by unfold InR at *; have := t.len; omega
  have n1 := R_nodup h hx
  have n2 := R_nodup t.hall hx'
  obtain ⟨t1, t2, t3⟩ := T3
  have nab := (h.rng ra t1).2
  have nbc := (h.rng rb t2).2
  have nca := (h.rng rc t3).2
  have m1 : c ∉ R rows a := fun z => (h.other rc ra nca.symm).mp z t3
  have m2 : a ∉ R rows b := fun z => (h.other ra rb nab.symm).mp z t1
  have m3 : b ∉ R rows c := fun z => (h.other rb rc nbc.symm).mp z t2
  have swap : ∀ u v : Int, u ∈ R rows x → v ∉ R rows x → (∀ y, y ∈ R rows' x ↔ (y ≠ u ∧ (y = v ∨ y ∈ R rows x))) → (R rows' x).length = (R rows x).length := fun u v hu hv hm => by
    have p : (R rows' x).Perm (v :: (R rows x).erase u) := by
      refine (List.perm_ext_iff_of_nodup n2 ?_).mpr fun y => ?_
      · rw [List.nodup_cons]
        exact ⟨fun z => hv (List.mem_of_mem_erase z), n1.erase _⟩
      · rw [hm, List.mem_cons, n1.mem_erase_iff]
        constructor
        · rintro ⟨y1, y2 | y2⟩
          · exact .inl y2
          · exact .inr ⟨y1, y2⟩
        · rintro (y1 | y1)
          · exact ⟨fun e => hv (by rw [← y1, e]; exact hu), .inl y1⟩
          · exact ⟨y1.1, .inr y1.2⟩
    have l := List.length_erase_of_mem hu
    have l0 := List.length_pos_of_mem hu
    rw [p.length_eq, List.length_cons, l]
    omega
  have rel := t.rel x hx.1 hx.2
  unfold OnRing at rel
  by_cases ea : x = a
  · subst ea
    exact swap b c t1 m1 fun y => by rw [rel]; constructor <;> (rintro ⟨y1, y2⟩; refine ⟨?_, ?_⟩) <;> first | omega | (rcases y2 with y2 | y2 <;> first | (left; omega) | (right; exact y2))
  by_cases eb : x = b
  · subst eb
    exact swap c a t2 m2 fun y => by rw [rel]; constructor <;> (rintro ⟨y1, y2⟩; refine ⟨?_, ?_⟩) <;> first | omega | (rcases y2 with y2 | y2 <;> first | (left; omega) | (right; exact y2))
  by_cases ec : x = c
  · subst ec
    exact swap a b t3 m3 fun y => by rw [rel]; constructor <;> (rintro ⟨y1, y2⟩; refine ⟨?_, ?_⟩) <;> first | omega | (rcases y2 with y2 | y2 <;> first | (left; omega) | (right; exact y2))
  exact ((List.perm_ext_iff_of_nodup n2 n1).mpr fun y => by
    rw [rel]
    constructor
    · rintro ⟨_, y2 | y2⟩
      · omega
      · exact y2
    · exact fun y1 => ⟨by omega, .inr y1⟩).length_eq
theorem Leads.wins {r r2 : List (List Int)} {ts} (h : Leads r ts r2) (i : IsHall r) : ∀ x, InR r x → (R r2 x).length = (R r x).length := by
  induction h with
  | nil r => exact fun _ _ => rfl
  | cons ra rb rc t h l ih =>
    intro x hx
    rw [ih h.hall x (by unfold InR at *; have := h.len; omega), turned_wins i t ra rb rc h hx]
theorem Leads.like {r r2 o : List (List Int)} {ts} (h : Leads r ts r2) (L : Like r o) : Like r2 o :=
  ⟨h.hall L.h1, L.h2, h.len.trans L.len, fun x hx => by
    have hx' : InR r x := by unfold InR at *; have := h.len; omega
    rw [h.wins L.h1 x hx']
    exact L.wins x hx'⟩
theorem sum_ind {f g : Int → Nat} {S : List Int} : ∀ {l : List Int}, l.Nodup → (∀ x ∈ l, f x = g x + if x ∈ S then 1 else 0) → (l.map f).sum = (l.map g).sum + (l.filter fun x => decide (x ∈ S)).length
  | [], _, _ => rfl
  | x :: r, nd, h => by
    rw [List.nodup_cons] at nd
    have ih := sum_ind (l := r) nd.2 fun y hy => h y (by simp [hy])
    have hx := h x (by simp)
    rw [List.map_cons, List.sum_cons, List.map_cons, List.sum_cons, ih, hx]
    by_cases c : x ∈ S
    · rw [if_pos c, List.filter_cons_of_pos (by simpa using c), List.length_cons]; omega
    · rw [if_neg c, List.filter_cons_of_neg (by simpa using c)]; omega
theorem DRing.less {rows orows rows' : List (List Int)} {r0 a : Int} {rest : List Int} (L : Like rows orows) (D : DRing rows orows r0 a rest) (V : RevBy rows rows' (Wy r0 (a :: rest) r0)) : dist rows' orows + (rest.length + 2) = dist rows orows := by
  unfold dist
  rw [V.len]
  have key : ∀ x ∈ nums rows.length, (lose rows orows x).length = (lose rows' orows x).length + if x ∈ r0 :: a :: rest then 1 else 0 := fun x hx => by
    have hx' : InR rows x := mem_nums.mp hx
    have hx2 : InR rows' x := by unfold InR at *; have := V.len; omega
    have n1 : (lose rows orows x).Nodup := (R_nodup L.h1 hx').filter _
    have n2 : (lose rows' orows x).Nodup := (R_nodup V.hall hx2).filter _
    have m : ∀ y, y ∈ lose rows' orows x ↔ (y ∈ lose rows orows x ∧ ¬ Wy r0 (a :: rest) r0 x y) := fun y => by
      rw [mem_lose, mem_lose, V.rel x hx'.1 hx'.2 y]
      constructor
      · rintro ⟨⟨y1, y2 | y2⟩, y3⟩
        · have hy : InR rows y := by
            have := (Wy.mem y2).1
            exact D.rng y (List.mem_cons.mpr this)
          exact absurd (mem_lose.mp (L.swap hy (D.ed y x y2)).2.1).1 y3
        · exact ⟨⟨y2, y3⟩, y1⟩
      · rintro ⟨⟨y1, y2⟩, y3⟩
        exact ⟨⟨y3, .inr y1⟩, y2⟩
    by_cases c : x ∈ r0 :: a :: rest
    · rw [if_pos c]
      obtain ⟨y, w⟩ := Wy.succ (z := r0) (List.mem_cons.mp c)
      have hy := D.ed x y w
      have p : (lose rows' orows x).Perm ((lose rows orows x).erase y) := by
        refine (List.perm_ext_iff_of_nodup n2 (n1.erase _)).mpr fun u => ?_
        rw [m, n1.mem_erase_iff]
        constructor
        · rintro ⟨u1, u2⟩
          exact ⟨fun e => u2 (by rw [e]; exact w), u1⟩
        · rintro ⟨u1, u2⟩
          exact ⟨u2, fun z => u1 (Wy.uniq D.nd z w)⟩
      have l := List.length_erase_of_mem hy
      have l0 := List.length_pos_of_mem hy
      rw [p.length_eq]
      omega
    · rw [if_neg c]
      refine (List.Perm.length_eq ((List.perm_ext_iff_of_nodup n1 n2).mpr fun u => ?_))
      rw [m]
      exact ⟨fun h => ⟨h, fun w => c (List.mem_cons.mpr (Wy.mem w).1)⟩, fun h => h.1⟩
  rw [sum_ind (nums_nodup _) key]
  congr 1
  have p : ((nums rows.length).filter fun x => decide (x ∈ r0 :: a :: rest)).Perm (r0 :: a :: rest) := by
    refine (List.perm_ext_iff_of_nodup ((nums_nodup _).filter _) D.nd).mpr fun x => ?_
    rw [List.mem_filter, decide_eq_true_iff, mem_nums]
    exact ⟨fun h => h.2, fun h => ⟨D.rng x h, h⟩⟩
  rw [p.length_eq]
  simp
structure WkI (rows orows : List (List Int)) (w : List Int) (p : Int) : Prop where
  nd : w.Nodup
  rng : ∀ x ∈ w, InR rows x
  rp : InR rows p
  go : lose rows orows p ≠ []
  ed : ∀ x y, Ed (w ++ [p]) x y → y ∈ lose rows orows x
theorem WkI.start {rows orows : List (List Int)} {p : Int} (hp : InR rows p) (h : lose rows orows p ≠ []) : WkI rows orows [] p := ⟨List.nodup_nil, (fun x h => by cases h), hp, h, fun x y h => h.elim⟩
theorem WkI.next {rows orows : List (List Int)} {w : List Int} {p q : Int} (L : Like rows orows) (I : WkI rows orows w p) (hp : p ∉ w) (hq : q ∈ lose rows orows p) : WkI rows orows (w ++ [p]) q := by
  obtain ⟨rq, gq⟩ := L.next I.rp hq
  refine ⟨?_, fun x hx => ?_, rq, gq, fun x y h => ?_⟩
  · rw [List.nodup_append]
    exact ⟨I.nd, by simp, fun x hx y hy e => hp (by rw [show y = p by simpa using hy] at e; exact e ▸ hx)⟩
  · rcases List.mem_append.mp hx with z | z
    · exact I.rng x z
    · rw [show x = p by simpa using z]; exact I.rp
  · rcases Ed.snoc h with z | ⟨z1, z2⟩
    · exact I.ed x y z
    · rw [z1, z2]; exact hq
theorem WkI.ring {rows orows : List (List Int)} {w : List Int} {p : Int} (L : Like rows orows) (I : WkI rows orows w p) {i : Nat} (hi : w[i]? = some p) : ∃ a rest, w.drop i = p :: a :: rest ∧ DRing rows orows p a rest := by
  obtain ⟨hl, e⟩ := List.getElem?_eq_some_iff.mp hi
  have ed : w.drop i = p :: w.drop (i + 1) := by rw [List.drop_eq_getElem_cons hl, e]
  have nd : (p :: w.drop (i + 1)).Nodup := by rw [← ed]; exact I.nd.sublist (List.drop_sublist _ _)
  have edge : ∀ x y, Wy p (w.drop (i + 1)) p x y → y ∈ lose rows orows x := fun x y h => I.ed x y (by
    have h' : Ed ((w.drop i) ++ [p]) x y := by rw [ed]; exact h
    have := Ed.app (l := w.take i) h'
    rw [← List.append_assoc, List.take_append_drop] at this
    exact this)
  generalize w.drop (i + 1) = r at ed nd edge
  have self : ∀ x, InR rows x → x ∉ lose rows orows x := fun x hx h => (L.h1.rng hx (mem_lose.mp h).1).2 rfl
  match r, ed, nd, edge with
  | [], ed, nd, edge => exact absurd (edge p p (.inl ⟨rfl, rfl⟩)) (self p I.rp)
  | [a], ed, nd, edge =>
    have h1 := edge p a (.inl ⟨rfl, rfl⟩)
    have h2 := edge a p (.inr (.inl ⟨rfl, rfl⟩))
    exact absurd (mem_lose.mp h2).1 (L.swap I.rp h1).2.2
  | a :: b :: rest, ed, nd, edge =>
    refine ⟨a, b :: rest, ed, nd, by simp, fun x hx => ?_, edge⟩
    exact I.rng x (by rw [← ed] at hx; exact List.mem_of_mem_drop hx)
end KH
namespace KH
structure Part (n : Nat) (rows : List (List Int)) (D : Int → Int → Prop) : Prop where
  len : rows.length = n
  nd : ∀ u : Int, 0 ≤ u → u < n → (R rows u).Nodup
  rng : ∀ u : Int, 0 ≤ u → u < n → ∀ x ∈ R rows u, 0 ≤ x ∧ x < n ∧ x ≠ u
  done : ∀ a b : Int, 0 ≤ a → a < b → b < n → D a b → (b ∈ R rows a ↔ ¬ a ∈ R rows b)
  todo : ∀ a b : Int, 0 ≤ a → a < b → b < n → ¬ D a b → b ∉ R rows a ∧ a ∉ R rows b
theorem Part.start (n : Nat) : Part n (List.replicate n []) (fun _ _ => False) := by
  have e : ∀ u : Int, R (List.replicate n []) u = [] := fun u => by
    unfold R
    rw [List.getD_eq_getElem?_getD, List.getElem?_replicate]
    split <;> rfl
  refine ⟨by simp, fun u _ _ => ?_, fun u _ _ x hx => ?_, fun a b _ _ _ h => h.elim, fun a b _ _ _ _ => ?_⟩
  · rw [e]; exact List.nodup_nil
  · rw [e] at hx; cases hx
  · rw [e, e]; exact ⟨List.not_mem_nil, List.not_mem_nil⟩
theorem Part.mono {n : Nat} {rows : List (List Int)} {D E : Int → Int → Prop} (P : Part n rows D) (h : ∀ a b : Int, 0 ≤ a → a < b → b < n → (D a b ↔ E a b)) : Part n rows E :=
  ⟨P.len, P.nd, P.rng, fun a b h0 h1 h2 d => P.done a b h0 h1 h2 ((h a b h0 h1 h2).mpr d), fun a b h0 h1 h2 d => P.todo a b h0 h1 h2 fun z => d ((h a b h0 h1 h2).mp z)⟩
theorem Part.win {n : Nat} {rows : List (List Int)} {D : Int → Int → Prop} (P : Part n rows D) {a b u v : Int} (a0 : 0 ≤ a) (ab : a < b) (bn : b < n) (nd : ¬ D a b) (h : (u = a ∧ v = b) ∨ (u = b ∧ v = a)) :
    Part n (push rows u v) (fun x y => D x y ∨ (x = a ∧ y = b)) := by
  have hu : 0 ≤ u ∧ u < n := by omega
  have hv : 0 ≤ v ∧ v < n := by omega
  have huv : v ≠ u := by omega
  have hlt : u.toNat < rows.length := by rw [P.len]; omega
  have RP : ∀ w : Int, 0 ≤ w → R (push rows u v) w = if w = u then R rows u ++ [v] else R rows w := fun w hw => R_push hu.1 hlt hw
  have td := P.todo a b a0 ab bn nd
  have fresh : v ∉ R rows u := by
    rcases h with ⟨e1, e2⟩ | ⟨e1, e2⟩ <;> rw [e1, e2]
    · exact td.1
    · exact td.2
  have mem : ∀ w x : Int, 0 ≤ w → (x ∈ R (push rows u v) w ↔ x ∈ R rows w ∨ (w = u ∧ x = v)) := fun w x hw => by
    rw [RP w hw]
    split
    · rename_i e; subst e; simp
    · rename_i e; simp [e]
  refine ⟨by rw [push_length]; exact P.len, fun w h0 h1 => ?_, fun w h0 h1 x hx => ?_, fun x y h0 h1 h2 d => ?_, fun x y h0 h1 h2 d => ?_⟩
  · rw [RP w h0]
    split
    · rw [List.nodup_append]
      refine ⟨P.nd u hu.1 hu.2, by simp, fun x hx y hy e => ?_⟩
      have : y = v := by simpa using hy
      subst this; subst e; exact fresh hx
    · exact P.nd w h0 h1
  · rcases (mem w x h0).mp hx with q | ⟨q1, q2⟩
    · exact P.rng w h0 h1 x q
    · subst q1 q2; exact ⟨hv.1, hv.2, huv⟩
  · rw [mem x y h0, mem y x (by omega)]
    by_cases c : x = a ∧ y = b
    · obtain ⟨rfl, rfl⟩ := c
      rcases h with ⟨rfl, rfl⟩ | ⟨rfl, rfl⟩
      · exact ⟨fun _ z => z.elim td.2 (fun z => by omega), fun _ => .inr ⟨rfl, rfl⟩⟩
      · exact ⟨fun z => z.elim (fun z => absurd z td.1) (fun z => by omega), fun z => absurd (.inr ⟨rfl, rfl⟩) z⟩
    · have q := P.done x y h0 h1 h2 (d.resolve_right c)
      have n1 : ¬ (x = u ∧ y = v) := fun z => by omega
      have n2 : ¬ (y = u ∧ x = v) := fun z => by omega
      simp only [n1, n2, or_false]
      exact q
  · rw [mem x y h0, mem y x (by omega)]
    have c : ¬ (x = a ∧ y = b) := fun z => d (.inr z)
    have q := P.todo x y h0 h1 h2 fun z => d (.inl z)
    have n1 : ¬ (x = u ∧ y = v) := fun z => by omega
    have n2 : ¬ (y = u ∧ x = v) := fun z => by omega
    simp only [n1, n2, or_false]
    exact q
theorem R_setR {rows : List (List Int)} {u w : Int} {r : List Int} (hu : 0 ≤ u) (h : u.toNat < rows.length) (hw : 0 ≤ w) : R (rows.set u.toNat r) w = if w = u then r else R rows w := by
  unfold R
  by_cases e : w = u
  · subst e
    rw [if_pos rfl, List.getD_eq_getElem?_getD, List.getElem?_set_self h]; rfl
  · rw [if_neg e, List.getD_eq_getElem?_getD, List.getElem?_set_ne (by omega), ← List.getD_eq_getElem?_getD]
theorem Part.wins {n : Nat} {rows : List (List Int)} {D : Int → Int → Prop} (P : Part n rows D) {v : Int} {won : List Int} (v0 : 0 ≤ v) (vn : v < n) (nd : won.Nodup) (hw : ∀ x ∈ won, v < x ∧ x < n ∧ ¬ D v x) :
    Part n (rows.set v.toNat (R rows v ++ won)) (fun x y => D x y ∨ (x = v ∧ y ∈ won)) := by
  have hlt : v.toNat < rows.length := by rw [P.len]; omega
  have key : ∀ k, k ≤ won.length → Part n (rows.set v.toNat (R rows v ++ won.take k)) (fun x y => D x y ∨ (x = v ∧ y ∈ won.take k)) := by
    intro k
    induction k with
    | zero =>
      intro _
      have e : rows.set v.toNat (R rows v ++ won.take 0) = rows := by
        rw [List.take_zero, List.append_nil]
        unfold R
        rw [getD_of_lt hlt, List.set_getElem_self]
      rw [e]
      exact P.mono fun a b _ _ _ => by simp
    | succ k ih =>
      intro hk
      have hk' : k < won.length := by omega
      have e := List.getElem?_eq_getElem hk'
      obtain ⟨x1, x2, x3⟩ := hw won[k] (List.getElem_mem hk')
      have nk : won[k] ∉ won.take k := fun h => by
        have : (won.take (k + 1)).Nodup := nd.sublist (List.take_sublist _ _)
        rw [take_snoc e, List.nodup_append] at this
        exact this.2.2 _ h won[k] (by simp) rfl
      have q := (ih (by omega)).win (u := v) (v := won[k]) v0 x1 x2 (fun z => z.elim x3 fun z => nk z.2) (.inl ⟨rfl, rfl⟩)
      have e2 : push (rows.set v.toNat (R rows v ++ won.take k)) v won[k] = rows.set v.toNat (R rows v ++ won.take (k + 1)) := by
        unfold push
        rw [R_setR v0 hlt v0, if_pos rfl, List.set_set, take_snoc e, List.append_assoc]
      rw [e2] at q
      refine q.mono fun a b _ _ _ => ?_
      rw [take_snoc e, List.mem_append]
      constructor
      · rintro ((z | z) | z)
        · exact .inl z
        · exact .inr ⟨z.1, .inl z.2⟩
        · exact .inr ⟨z.1, .inr (by simp [z.2])⟩
      · rintro (z | ⟨z, z2 | z2⟩)
        · exact .inl (.inl z)
        · exact .inl (.inr ⟨z, z2⟩)
        · exact .inr ⟨z, by simpa using z2⟩
  have := key won.length (Nat.le_refl _)
  rw [List.take_length] at this
  exact this
theorem Part.hall {n : Nat} {rows rows' : List (List Int)} {D : Int → Int → Prop} (P : Part n rows D) (hD : ∀ a b : Int, 0 ≤ a → a < b → b < n → D a b) (h1 : 1 ≤ n) (h12 : n ≤ 12) (hl : rows'.length = n)
    (hs : ∀ i, i < n → (rowAt rows' i).Perm (rowAt rows i) ∧ (rowAt rows' i).Pairwise (· ≤ ·)) : IsHall rows' := by
  have eR : ∀ i : Nat, R rows (i : Int) = rowAt rows i := fun i => by unfold R rowAt; rw [Int.toNat_natCast]
  have mem : ∀ i : Nat, i < n → ∀ x, x ∈ rowAt rows' i ↔ x ∈ R rows i := fun i hi x => by rw [eR]; exact (hs i hi).1.mem_iff
  refine ⟨by omega, by omega, fun i hi => ?_, fun i j hji hi => ?_⟩
  · rw [hl] at hi
    obtain ⟨hp, hw⟩ := hs i hi
    have nd : (rowAt rows' i).Nodup := hp.nodup_iff.mpr (by rw [← eR]; exact P.nd i (by omega) (by omega))
    refine ⟨?_, fun x hx => ?_⟩
    · have := hw.and (List.nodup_iff_pairwise_ne.mp nd)
      exact this.imp fun ⟨a, b⟩ => by omega
    · rw [hl]; exact P.rng i (by omega) (by omega) x ((mem i hi x).mp hx)
  · rw [hl] at hi
    rw [mem i hi, mem j (by omega)]
    have := P.done j i (by omega) (by omega) (by omega) (hD _ _ (by omega) (by omega) (by omega))
    rw [this]
    exact ⟨fun h z => z h, fun h => Classical.byContradiction h⟩
theorem Part.few {n : Nat} {rows : List (List Int)} {D : Int → Int → Prop} (P : Part n rows D) (k : Nat) (hk : k < n) : (rowAt rows k).length ≤ n := by
  have e : rowAt rows k = R rows (k : Int) := by unfold R rowAt; rw [Int.toNat_natCast]
  rw [e]
  exact few_of_nodup n _ (P.nd k (by omega) (by omega)) fun x hx => by
    have := P.rng k (by omega) (by omega) x hx
    omega
def domF (n v : Nat) : List Int := (nums n).drop v
theorem domF_cons {n v : Nat} (h : v < n) : domF n v = (v : Int) :: domF n (v + 1) := by
  unfold domF
  rw [List.drop_eq_getElem_cons (by rw [nums_length]; exact h)]
  congr 1
  unfold nums
  simp
theorem mem_domF {n v : Nat} {x : Int} : x ∈ domF n v ↔ (v : Int) ≤ x ∧ x < n := by
  by_cases h : v ≤ n
  · induction hk : n - v generalizing v with
    | zero =>
      have : v = n := by omega
      subst this
      unfold domF
      rw [List.drop_eq_nil_of_le (by rw [nums_length]; exact Nat.le_refl _)]
      constructor
      · intro z; cases z
      · intro z; omega
    | succ k ih =>
      rw [domF_cons (by omega), List.mem_cons, ih (by omega) (by omega)]
      omega
  · unfold domF
    rw [List.drop_eq_nil_of_le (by rw [nums_length]; omega)]
    constructor
    · intro z; cases z
    · intro z; omega
theorem domF_len (n v : Nat) : (domF n v).length = n - v := by unfold domF; rw [List.length_drop, nums_length]
structure Made (row : List Int) (v : Nat) (rows : List (List Int)) (mi : List Int) : Prop where
  part : Part row.length rows (fun x _ => x < v)
  ml : mi.length = row.length
  land : Land (rowF mi) (domF row.length v)
  c1 : ∀ i : Int, 0 ≤ i → i < v → ((R rows i).length : Int) = rowF row i
  c2 : ∀ i : Int, (v : Int) ≤ i → i < row.length → ((R rows i).length : Int) + rowF mi i = rowF row i
theorem Made.start {row : List Int} (S : SumsOk row) : Made row 0 (List.replicate row.length []) row := by
  have e : ∀ u : Int, R (List.replicate row.length ([] : List Int)) u = [] := fun u => by
    unfold R
    rw [List.getD_eq_getElem?_getD, List.getElem?_replicate]
    split <;> rfl
  refine ⟨(Part.start _).mono fun a b h0 _ _ => ?_, rfl, ?_, fun i h0 h1 => by omega, fun i h0 h1 => by rw [e]; simp⟩
  · constructor
    · intro h; exact h.elim
    · intro h; omega
  · unfold domF
    rw [List.drop_zero]
    exact S.land
theorem Made.some {row : List Int} {v : Nat} {rows : List (List Int)} {mi : List Int} (M : Made row v rows mi) (hv : v < row.length) : 0 ≤ rowF mi v ∧ rowF mi v ≤ row.length - (v + 1 : Nat) := by
  have L := M.land
  rw [domF_cons hv] at L
  have nd := L.nd
  rw [List.nodup_cons] at nd
  have a := L.sub [(v : Int)] (by simp) (by simp)
  have b := L.sub (domF row.length (v + 1)) nd.2 fun x hx => List.mem_cons_of_mem _ hx
  have c := L.all
  rw [sumF_cons, List.length_cons, tri_succ] at c
  rw [sumF_cons] at a
  have t1 : tri ([(v : Int)] : List Int).length = 0 := by rw [List.length_singleton]; rfl
  have t2 : sumF (rowF mi) [] = 0 := rfl
  have dl := domF_len row.length (v + 1)
  omega
structure Mid (row : List Int) (v : Nat) (mi0 won done : List Int) (rows : List (List Int)) (mi : List Int) : Prop where
  part : Part row.length rows (fun x y => x < v ∨ (x = v ∧ (y ∈ won ∨ y ∈ done)))
  ml : mi.length = row.length
  at_ : ∀ x : Int, 0 ≤ x → x < row.length → rowF mi x = rowF mi0 x - if x ∈ done then 1 else 0
  c1 : ∀ i : Int, 0 ≤ i → i ≤ v → ((R rows i).length : Int) = rowF row i
  c2 : ∀ i : Int, (v : Int) < i → i < row.length → ((R rows i).length : Int) + rowF mi i = rowF row i
theorem Made.mid {row : List Int} {v : Nat} {rows : List (List Int)} {mi ord : List Int} (M : Made row v rows mi) (hv : v < row.length) (hp : ord.Perm (domF row.length (v + 1))) :
    Mid row v mi (ord.take (rowF mi v).toNat) [] (rows.set v (R rows v ++ ord.take (rowF mi v).toNat)) mi := by
  have L := M.land
  rw [domF_cons hv] at L
  have nd := L.nd
  rw [List.nodup_cons] at nd
  have ndo : ord.Nodup := hp.nodup_iff.mpr nd.2
  have hb := M.some hv
  have ol := hp.length_eq
  rw [domF_len] at ol
  have q := M.part.wins (v := (v : Int)) (won := ord.take (rowF mi v).toNat) (by omega) (by omega) (ndo.sublist (List.take_sublist _ _)) fun x hx => by
    have := mem_domF.mp (hp.mem_iff.mp (List.mem_of_mem_take hx))
    exact ⟨by omega, by omega, by omega⟩
  rw [Int.toNat_natCast] at q
  have hlt : ((v : Int)).toNat < rows.length := by rw [M.part.len]; omega
  have RS : ∀ w : Int, 0 ≤ w → R (rows.set v (R rows v ++ ord.take (rowF mi v).toNat)) w = if w = v then R rows v ++ ord.take (rowF mi v).toNat else R rows w := fun w hw => by
    have := R_setR (rows := rows) (u := (v : Int)) (w := w) (r := R rows v ++ ord.take (rowF mi v).toNat) (by omega) hlt hw
    rw [Int.toNat_natCast] at this
    exact this
  refine ⟨q.mono fun a b _ _ _ => by simp, M.ml, fun x _ _ => by simp, fun i h0 h1 => ?_, fun i h0 h1 => ?_⟩
  · rw [RS i h0]
    by_cases e : i = v
    · rw [if_pos e, List.length_append, List.length_take, e]
      have := M.c2 v (by omega) (by omega)
      omega
    · rw [if_neg e]; exact M.c1 i h0 (by omega)
  · rw [RS i (by omega), if_neg (by omega)]
    exact M.c2 i (by omega) h1
theorem rowF_set {mi : List Int} {u w y : Int} (hu : 0 ≤ u) (h : u < mi.length) (hw : 0 ≤ w) : rowF (mi.set u.toNat y) w = if w = u then y else rowF mi w := by
  unfold rowF
  by_cases e : w = u
  · subst e
    rw [if_pos rfl, List.getD_eq_getElem?_getD, List.getElem?_set_self (by omega)]; rfl
  · rw [if_neg e, List.getD_eq_getElem?_getD, List.getElem?_set_ne (by omega), ← List.getD_eq_getElem?_getD]
theorem Mid.next {row : List Int} {v : Nat} {mi0 won done : List Int} {rows : List (List Int)} {mi : List Int} (M : Mid row v mi0 won done rows mi) {o : Int} (h1 : (v : Int) < o) (h2 : o < row.length) (n1 : o ∉ won) (n2 : o ∉ done) :
    Mid row v mi0 won (done ++ [o]) (push rows o v) (mi.set o.toNat (rowF mi o - 1)) := by
  have q := M.part.win (a := (v : Int)) (b := o) (u := o) (v := (v : Int)) (by omega) h1 h2 (fun z => by
    rcases z with z | ⟨_, z | z⟩
    · omega
    · exact n1 z
    · exact n2 z) (.inr ⟨rfl, rfl⟩)
  have hlt : o.toNat < rows.length := by rw [M.part.len]; omega
  have ml := M.ml
  have RP : ∀ w : Int, 0 ≤ w → R (push rows o v) w = if w = o then R rows o ++ [(v : Int)] else R rows w := fun w hw => R_push (by omega) hlt hw
  have RS : ∀ w : Int, 0 ≤ w → rowF (mi.set o.toNat (rowF mi o - 1)) w = if w = o then rowF mi o - 1 else rowF mi w := fun w hw => rowF_set (by omega) (by omega) hw
  refine ⟨q.mono fun a b _ _ _ => ?_, by rw [List.length_set]; exact ml, fun x h0 hx => ?_, fun i h0 hi => ?_, fun i h0 hi => ?_⟩
  · rw [List.mem_append, List.mem_singleton]
    constructor
    · rintro ((z | ⟨z, z2⟩) | ⟨z, z2⟩)
      · exact .inl z
      · exact .inr ⟨z, z2.elim .inl fun z => .inr (.inl z)⟩
      · exact .inr ⟨z, .inr (.inr z2)⟩
    · rintro (z | ⟨z, z2 | z2 | z2⟩)
      · exact .inl (.inl z)
      · exact .inl (.inr ⟨z, .inl z2⟩)
      · exact .inl (.inr ⟨z, .inr z2⟩)
      · exact .inr ⟨z, z2⟩
  · rw [RS x h0]
    have a := M.at_ x h0 hx
    by_cases e : x = o
    · subst e
      rw [if_neg n2] at a
      rw [if_pos rfl, if_pos (by simp), a]
      omega
    · rw [if_neg e, a]
      by_cases c : x ∈ done
      · rw [if_pos c, if_pos (by simp [c])]
      · rw [if_neg c, if_neg (by simp [c, e])]
  · rw [RP i h0, if_neg (by omega)]
    exact M.c1 i h0 hi
  · rw [RP i (by omega), RS i (by omega)]
    have a := M.c2 i h0 hi
    by_cases e : i = o
    · subst e
      rw [if_pos rfl, if_pos rfl, List.length_append, List.length_singleton]
      omega
    · rw [if_neg e, if_neg e]; exact a
theorem Mid.made {row : List Int} {v : Nat} {rows0 : List (List Int)} {mi0 ord : List Int} {rows : List (List Int)} {mi : List Int} (M0 : Made row v rows0 mi0) (hv : v < row.length) (hp : ord.Perm (domF row.length (v + 1))) (hs : ord.Pairwise fun x y => rowF mi0 x ≤ rowF mi0 y)
    (M : Mid row v mi0 (ord.take (rowF mi0 v).toNat) (ord.drop (rowF mi0 v).toNat) rows mi) : Made row (v + 1) rows mi := by
  have L := M0.land
  rw [domF_cons hv] at L
  have hb := M0.some hv
  have nd := L.nd
  rw [List.nodup_cons] at nd
  have ndo : ord.Nodup := hp.nodup_iff.mpr nd.2
  have ndt : (ord.take (rowF mi0 v).toNat ++ ord.drop (rowF mi0 v).toNat).Nodup := by rw [List.take_append_drop]; exact ndo
  rw [List.nodup_append] at ndt
  have memo : ∀ x, (x ∈ ord.take (rowF mi0 v).toNat ∨ x ∈ ord.drop (rowF mi0 v).toNat) ↔ ((v : Int) + 1 ≤ x ∧ x < row.length) := fun x => by
    rw [← List.mem_append, List.take_append_drop, hp.mem_iff, mem_domF]
    omega
  refine ⟨M.part.mono fun a b h0 h1 h2 => ?_, M.ml, ?_, fun i h0 h1 => M.c1 i h0 (by omega), fun i h0 h1 => M.c2 i (by omega) h1⟩
  · constructor
    · rintro (z | z)
      · omega
      · omega
    · intro z
      by_cases e : a < v
      · exact .inl e
      · exact .inr ⟨by omega, (memo b).mpr ⟨by omega, by omega⟩⟩
  · refine L.step hp hs (s := (rowF mi0 v).toNat) (by omega) (by rw [domF_len]; omega) (fun x hx => ?_) (fun x hx => ?_)
    · have r := (memo x).mp (.inl hx)
      rw [M.at_ x (by omega) (by omega), if_neg (fun z => ndt.2.2 x hx x z rfl)]
      omega
    · have r := (memo x).mp (.inr hx)
      rw [M.at_ x (by omega) (by omega), if_pos hx]
theorem Made.hall {row : List Int} {rows rows' : List (List Int)} {mi : List Int} (M : Made row row.length rows mi) (h1 : 1 ≤ row.length) (h12 : row.length ≤ 12) (hl : rows'.length = row.length)
    (hs : ∀ i, i < row.length → (rowAt rows' i).Perm (rowAt rows i) ∧ (rowAt rows' i).Pairwise (· ≤ ·)) : IsHall rows' ∧ rows'.map (fun r => (r.length : Int)) = row := by
  refine ⟨M.part.hall (fun a b _ _ _ => by omega) h1 h12 hl hs, ?_⟩
  refine List.ext_getElem (by rw [List.length_map]; exact hl) fun i a b => ?_
  have a' : i < rows'.length := by rw [List.length_map] at a; exact a
  have q := M.c1 (i : Int) (by omega) (by omega)
  have eR : R rows (i : Int) = rowAt rows i := by unfold R rowAt; rw [Int.toNat_natCast]
  have eF : rowF row (i : Int) = row[i] := by unfold rowF; rw [Int.toNat_natCast, getD_of_lt b]
  have e' : rowAt rows' i = rows'[i] := by unfold rowAt; rw [getD_of_lt a']
  rw [List.getElem_map, ← e', (hs i b).1.length_eq, ← eR, q, eF]
end KH
namespace KH
structure Raw (n : Nat) (rs : List (List Int)) (rel : Int → Int → Prop) : Prop where
  len : rs.length = n
  nd : ∀ x : Int, 0 ≤ x → x < n → (R rs x).Nodup
  mem : ∀ x : Int, 0 ≤ x → x < n → ∀ y, y ∈ R rs x ↔ rel x y
theorem Raw.start {rows : List (List Int)} (h : IsHall rows) : Raw rows.length rows (fun x y => y ∈ R rows x) := ⟨rfl, fun x h0 h1 => R_nodup h ⟨h0, h1⟩, fun _ _ _ _ => Iff.rfl⟩
theorem Raw.flip {n : Nat} {rs : List (List Int)} {rel : Int → Int → Prop} (A : Raw n rs rel) {w l : Int} (hw : 0 ≤ w ∧ w < n) (hl : 0 ≤ l ∧ l < n) (ne : w ≠ l) (h1 : rel w l) (h2 : ¬ rel l w) :
    Raw n ((rs.set w.toNat ((R rs w).erase l)).set l.toNat (R rs l ++ [w])) (fun x y => ¬ (x = w ∧ y = l) ∧ ((x = l ∧ y = w) ∨ rel x y)) := by
  have len := A.len
  have lw : w.toNat < rs.length := by omega
  have ll : l.toNat < (rs.set w.toNat ((R rs w).erase l)).length := by rw [List.length_set]; omega
  have RR : ∀ x : Int, 0 ≤ x → R ((rs.set w.toNat ((R rs w).erase l)).set l.toNat (R rs l ++ [w])) x = if x = l then R rs l ++ [w] else if x = w then (R rs w).erase l else R rs x := fun x hx => by
    rw [R_setR hl.1 ll hx, R_setR hw.1 lw hx]
  refine ⟨by rw [List.length_set, List.length_set]; exact len, fun x x0 x1 => ?_, fun x x0 x1 y => ?_⟩
  · rw [RR x x0]
    split
    · rw [List.nodup_append]
      refine ⟨A.nd l hl.1 hl.2, by simp, fun u hu v hv e => h2 ?_⟩
      rw [show v = w by simpa using hv] at e
      subst e
      exact (A.mem l hl.1 hl.2 u).mp hu
    · split
      · exact (A.nd w hw.1 hw.2).erase _
      · exact A.nd x x0 x1
  · rw [RR x x0]
    by_cases e1 : x = l
    · subst e1
      rw [if_pos rfl, List.mem_append, A.mem x x0 x1]
      constructor
      · rintro (z | z)
        · exact ⟨fun q => ne q.1.symm, .inr z⟩
        · exact ⟨fun q => ne q.1.symm, .inl ⟨rfl, by simpa using z⟩⟩
      · rintro ⟨_, z | z⟩
        · exact .inr (by simp [z.2])
        · exact .inl z
    · rw [if_neg e1]
      by_cases e2 : x = w
      · subst e2
        rw [if_pos rfl, (A.nd x x0 x1).mem_erase_iff, A.mem x x0 x1]
        constructor
        · rintro ⟨z1, z2⟩
          exact ⟨fun q => z1 q.2, .inr z2⟩
        · rintro ⟨z1, z2 | z2⟩
          · exact absurd z2.1 e1
          · exact ⟨fun q => z1 ⟨rfl, q⟩, z2⟩
      · rw [if_neg e2, A.mem x x0 x1]
        exact ⟨fun z => ⟨fun q => e2 q.1, .inr z⟩, fun z => z.2.elim (fun q => absurd q.1 e1) id⟩
def relT (rows : List (List Int)) (a b c : Int) : Nat → Int → Int → Prop
  | 0 => fun x y => y ∈ R rows x
  | 1 => fun x y => ¬ (x = c ∧ y = a) ∧ ((x = a ∧ y = c) ∨ y ∈ R rows x)
  | 2 => fun x y => ¬ (x = a ∧ y = b) ∧ ((x = b ∧ y = a) ∨ (¬ (x = c ∧ y = a) ∧ ((x = a ∧ y = c) ∨ y ∈ R rows x)))
  | _ => fun x y => ¬ (x = b ∧ y = c) ∧ ((x = c ∧ y = b) ∨ (¬ (x = a ∧ y = b) ∧ ((x = b ∧ y = a) ∨ (¬ (x = c ∧ y = a) ∧ ((x = a ∧ y = c) ∨ y ∈ R rows x)))))
def los (a b c : Int) : Nat → Int
  | 0 => a
  | 1 => b
  | _ => c
def win (a b c : Int) : Nat → Int
  | 0 => c
  | 1 => a
  | _ => b
theorem relT_at {rows : List (List Int)} {a b c : Int} (h : IsHall rows) (T3 : Three rows a b c) (ra : InR rows a) (rb : InR rows b) (rc : InR rows c) {i : Nat} (hi : i < 3) :
    InR rows (los a b c i) ∧ InR rows (win a b c i) ∧ win a b c i ≠ los a b c i ∧ relT rows a b c i (win a b c i) (los a b c i) ∧ ¬ relT rows a b c i (los a b c i) (win a b c i) ∧
      relT rows a b c (i + 1) = fun x y => ¬ (x = win a b c i ∧ y = los a b c i) ∧ ((x = los a b c i ∧ y = win a b c i) ∨ relT rows a b c i x y) := by
  obtain ⟨t1, t2, t3⟩ := T3
  have nab := (h.rng ra t1).2
  have nbc := (h.rng rb t2).2
  have nca := (h.rng rc t3).2
  have m1 : c ∉ R rows a := fun z => (h.other rc ra nca.symm).mp z t3
  have m2 : a ∉ R rows b := fun z => (h.other ra rb nab.symm).mp z t1
  have m3 : b ∉ R rows c := fun z => (h.other rb rc nbc.symm).mp z t2
  match i, hi with
  | 0, _ => exact ⟨ra, rc, nca.symm, t3, m1, rfl⟩
  | 1, _ =>
    show InR rows b ∧ InR rows a ∧ a ≠ b ∧ (¬ (a = c ∧ b = a) ∧ ((a = a ∧ b = c) ∨ b ∈ R rows a)) ∧ ¬ (¬ (b = c ∧ a = a) ∧ ((b = a ∧ a = c) ∨ a ∈ R rows b)) ∧ _
    refine ⟨rb, ra, nab.symm, ⟨by omega, .inr t1⟩, ?_, rfl⟩
    rintro ⟨_, z | z⟩
    · omega
    · exact m2 z
  | 2, _ =>
    show InR rows c ∧ InR rows b ∧ b ≠ c ∧ (¬ (b = a ∧ c = b) ∧ ((b = b ∧ c = a) ∨ (¬ (b = c ∧ c = a) ∧ ((b = a ∧ c = c) ∨ c ∈ R rows b)))) ∧ ¬ (¬ (c = a ∧ b = b) ∧ ((c = b ∧ b = a) ∨ (¬ (c = c ∧ b = a) ∧ ((c = a ∧ b = c) ∨ b ∈ R rows c)))) ∧ _
    refine ⟨rc, rb, nbc.symm, ⟨by omega, .inr ⟨by omega, .inr t2⟩⟩, ?_, rfl⟩
    rintro ⟨_, z | ⟨_, z | z⟩⟩
    · omega
    · omega
    · exact m3 z
theorem raw_turned {rows rs rows' : List (List Int)} {a b c : Int} (h : IsHall rows) (T3 : Three rows a b c) (ra : InR rows a) (rb : InR rows b) (rc : InR rows c) (A : Raw rows.length rs (relT rows a b c 3)) (hl : rows'.length = rows.length)
    (hs : ∀ i, i < rows.length → (rowAt rows' i).Perm (rowAt rs i) ∧ (rowAt rows' i).Pairwise (· ≤ ·)) : TurnedBy rows rows' a b c := by
  obtain ⟨t1, t2, t3⟩ := id T3
  have nab := (h.rng ra t1).2
  have nbc := (h.rng rb t2).2
  have nca := (h.rng rc t3).2
  obtain ⟨G, t⟩ := turned_ex h T3 ra rb rc
  have e : rows' = G := by
    refine List.ext_getElem (hl.trans t.len.symm) fun i h1 h2 => ?_
    have hi : i < rows.length := by omega
    have e1 : rowAt rows' i = rows'[i] := by unfold rowAt; rw [getD_of_lt h1]
    have e2 : rowAt G i = G[i] := by unfold rowAt; rw [getD_of_lt h2]
    rw [← e1, ← e2]
    have hG := t.hall.beat i h2
    refine sorted_uniq ?_ (hs i hi).2 (hG.1.imp fun z => by omega)
    have n1 : (rowAt rows' i).Nodup := (hs i hi).1.nodup_iff.mpr (by rw [← R_nat']; exact A.nd i (by omega) (by omega))
    refine (List.perm_ext_iff_of_nodup n1 (rowAt_nodup t.hall h2)).mpr fun y => ?_
    rw [(hs i hi).1.mem_iff, ← R_nat', A.mem i (by omega) (by omega), ← R_nat', t.rel i (by omega) (by omega) y]
    unfold relT OnRing
    constructor
    · rintro ⟨x1, x2 | ⟨x2, x3 | ⟨x3, x4 | x4⟩⟩⟩
      · exact ⟨by omega, .inl (.inr (.inl ⟨x2.2, x2.1⟩))⟩
      · exact ⟨by omega, .inl (.inl ⟨x3.2, x3.1⟩)⟩
      · exact ⟨by omega, .inl (.inr (.inr ⟨x4.2, x4.1⟩))⟩
      · exact ⟨by omega, .inr x4⟩
    · rintro ⟨x1, (x2 | x2 | x2) | x2⟩
      · exact ⟨by omega, .inr ⟨by omega, .inl ⟨x2.2, x2.1⟩⟩⟩
      · exact ⟨by omega, .inl ⟨x2.2, x2.1⟩⟩
      · exact ⟨by omega, .inr ⟨by omega, .inr ⟨by omega, .inl ⟨x2.2, x2.1⟩⟩⟩⟩
      · exact ⟨by omega, .inr ⟨by omega, .inr ⟨by omega, .inr x2⟩⟩⟩
  rw [e]
  exact t
end KH
namespace KH
open PySem L2
theorem cutTake {xs : List V} {k : Nat} {i : Int} (e : i = ((k : Nat) : Int)) : cutV xs none (some i) = xs.take k := by
  subst e
  unfold cutV
  rw [HT.sIx_nat, HT.sIx_none, Nat.sub_zero, List.drop_zero]
  by_cases h : k ≤ xs.length
  · rw [Nat.min_eq_left h]
  · rw [Nat.min_eq_right (by omega), List.take_length, List.take_of_length_le (by omega)]
theorem cutDrop {xs : List V} {k : Nat} {i : Int} (e : i = ((k : Nat) : Int)) : cutV xs (some i) none = xs.drop k := by
  subst e
  unfold cutV
  rw [HT.sIx_nat, HT.sIx_none]
  by_cases h : k ≤ xs.length
  · rw [Nat.min_eq_left h, List.take_of_length_le (by rw [List.length_drop]; omega)]
  · rw [Nat.min_eq_right (by omega), List.drop_eq_nil_of_le (Nat.le_refl _), List.drop_eq_nil_of_le (by omega)]
    simp
end KH
namespace L2
open PySem PySem.Spec PyProof.Rows
section
variable {X : Cx}
def rGetL (K : PySem.W.Frag) : V → V → Hp → VK → Prop := fun o i H Q => ∃ p xs k v, o = .ref p ∧ i = .int k ∧ 0 ≤ k ∧ SqL K H p xs ∧ atI xs k = some v ∧ Q v H
theorem get_list : PGet X (rGetL X.K) := by
  intro pins s σ H o i ov iv Q I ro ri h
  obtain ⟨p, xs, k, z, rfl, rfl, h0, hq, he, q⟩ := h
  cases ro
  obtain ⟨t, rfl⟩ := ri
  obtain ⟨its, r, pl, hz⟩ := I.list hq
  obtain ⟨j, h1, h2, h3, h4, h5⟩ := atI_get he
  obtain ⟨w, ew, rw'⟩ := r.get h2
  have hl := r.length
  have hn := line63
  have hj : k.toNat = j := by
    rw [seqIndex_of h0 h5] at h1
    exact Option.some.inj h1
  exact wpAny_getItem_list pl.isList h0 (by omega) (by rw [hj]; simpa using ew) ⟨z, H, I, rw', q⟩
end
end L2
namespace L2
open PySem PySem.Spec PyProof.Rows
def Itd (lo : Int) (n : Nat) : It := ⟨fun i _ => i < n, fun i H x H' => H' = H ∧ x = .int (lo - i), fun i _ => n ≤ i⟩
theorem turn_rangeD {P : Program} {w : World} {K : PySem.W.Frag} {tg : Expr} (it : Addr) (lo : Int) (n : Nat) : Turn P w K tg (Itd lo n) [it] it (fun i h => IsRangeIter h it (lo + (i : Nat) * (-1)) ((n : Int) - (i : Nat)) (-1)) where
  mem := by simp
  obj := fun i h st b hb => by
    have e : b = it := by simpa using hb
    subst e
    exact ⟨_, st, fun v z => by
      have z' : Data.fields _ = Data.cell v := z
      cases z'⟩
  keep := fun i h h' st k => k it (by simp) _ st
  item := by
    intro X hP hw hK hc i pins s σ H E I hf st hg
    subst hP hw hK
    obtain ⟨f0, f1, f2, f3, f4, f5⟩ := hf it (by simp)
    have W := Walks.range (prog := X.prog) (w := X.w) (I.ok.hd hc) it lo (-1) n
    refine W.item i s _ _ hg st fun v h' tk hv st' kk => ?_
    obtain ⟨t, rfl⟩ := hv
    have I1 : Inv X pins σ H { s with heap := h', toks := tk } := I.turned (fun b o hb e => kk b o (by simpa using hb) e) f0 f1 f3 f4 f5
    refine ⟨_, rfl, go_of (s := { s with heap := h', toks := tk }) (n := "range_iterator") st' rfl rfl (by decide) ⟨.int (lo - i), H, I1, ⟨t, ?_⟩, ⟨rfl, rfl⟩, st', fun b hb => (hf b hb).1⟩⟩
    congr 1
    omega
  done := by
    intro X hP hw hK hc i pins s σ H E I hf st hg
    subst hP hw hK
    obtain ⟨f0, f1, f2, f3, f4, f5⟩ := hf it (by simp)
    exact wpAny_pyNext_range_end (I.ok.hd hc) st (by have : n ≤ i := hg; omega) fun h' eb => ⟨rfl, I.turned (t' := s.toks) (fun b o hb e => eb b o hb e) f0 f1 f3 f4 f5⟩
  self := fun _ _ _ _ _ st h => wpAny_pyIter_rangeiter st h
theorem sizeD (a b : Int) : Builtin.Range.rangeSize a b (-1) = if a > b then a - b else 0 := by
  unfold Builtin.Range.rangeSize
  rw [if_neg (by decide), show -(-1 : Int) = 1 from rfl]
  split
  · rw [Int.ediv_one]; omega
  · rfl
theorem smallD {a b : Int} (ha : -1000 ≤ a) (ha' : a ≤ 1000) (hb : -1000 ≤ b) (hb' : b ≤ 1000) : Builtin.Range.small a b (-1) = true := by
  unfold Builtin.Range.small
  rw [sizeD]
  simp only [Builtin.Range.rangeFitsLong, Bool.and_eq_true, Bool.or_eq_true, decide_eq_true_eq, beq_iff_eq]
  split <;> (try simp) <;> omega
section
variable {X : Cx} {tg : Expr}
def iRngD (ta : TA) : TI := fun σ H R => ta σ H fun vs H1 => ∃ i j : Int, vs = [.int i, .int j, .int (-1)] ∧ (-1000 ≤ i ∧ i ≤ 1000 ∧ -1000 ≤ j ∧ j ≤ 1000) ∧ R (Itd i (i - j).toNat) H1
theorem pi_rangeD {a b c : Expr} {ta : TA} {p pos : Pos} (hg : Gl X "range") (hm : X.mg "range" = none) (ha : PA X [a, b, c] ta) (hs : starEach [a, b, c] X.env = (false, eval a X.env) :: starEach [b, c] X.env := by rfl) (hpl : (backTo pos (starEach [b, c] X.env)).any (·.1) = false := by rfl) :
    PI X tg (.Call (.Name "range" p) [a, b, c] [] pos) (iRngD ta) := by
  intro pins s σ H R I h
  refine Call_ (ld_blt I hg hm boot_range (PyProof.Rows.callWith_type1 (thn (ha pos pins s σ H _ I h) fun us s1 ⟨vs, H1, I1, r1, q1⟩ => ?_) hs hpl))
  obtain ⟨i, j, e, ⟨q1, q2, q3, q4⟩, q⟩ := q1
  subst e
  cases r1 with
  | cons r rr =>
    cases rr with
    | cons r' rr =>
      cases rr with
      | cons r'' rr =>
        cases rr
        obtain ⟨t, rfl⟩ := r
        obtain ⟨t', rfl⟩ := r'
        obtain ⟨t'', rfl⟩ := r''
        refine call_range_3 (by decide) ?_ (.inl (PyProof.noPylong_small (by decide)))
        refine wpAny_pyIter_range (IsRange.new ..) (smallD q1 q2 q3 q4) ?_
        have I2 : Inv X pins σ H1 { s1 with heap := s1.heap.push { cls := .type "range", data := .fields #[.int i t, .int j t', .int (-1) t''] }, toks := s1.toks } := I1.kept fun b o e => Heap.get?_push_of_some _ e
        refine ⟨(s1.heap.push { cls := .type "range", data := .fields #[.int i t, .int j t', .int (-1) t''] }).objs.size, [(s1.heap.push { cls := .type "range", data := .fields #[.int i t, .int j t', .int (-1) t''] }).objs.size], _, _, H1, rfl,
          I2.kept (t' := s1.toks) fun b o e => Heap.get?_push_of_some _ e, turn_rangeD _ i (i - j).toNat, ?_, fun b hb => ?_, q⟩
        · have e1 : i + ((0 : Nat) : Int) * (-1) = i := by simp
          have e2 : (((i - j).toNat : Nat) : Int) - ((0 : Nat) : Int) = Builtin.Range.rangeSize i j (-1) := by rw [sizeD]; split <;> omega
          show IsRangeIter _ _ (i + ((0 : Nat) : Int) * (-1)) ((((i - j).toNat : Nat) : Int) - ((0 : Nat) : Int)) (-1)
          rw [e1, e2]
          exact Heap.get?_push_size _ rfl
        · have e : b = (s1.heap.push { cls := .type "range", data := .fields #[.int i t, .int j t', .int (-1) t''] }).objs.size := by simpa using hb
          subst e
          exact I2.fpOk (Nat.le_refl _) (I2.hok.fresh (Nat.le_refl _))
theorem for_rangeD {lo : Int} {n : Nat} {g : TG} {tb : TS} {D : Ends} {σ : St} {H : Hp} (Pv : Nat → St → Hp → Prop) (h0 : Pv 0 σ H)
    (hs : ∀ i σ H, i < n → Pv i σ H → g (.int (lo - i)) σ H fun σ2 H2 => tb { D with nx := Pv (i + 1), ct := Pv (i + 1), bk := D.nx } σ2 H2) (hd : ∀ σ H, Pv n σ H → D.nx σ H) :
    ∃ W : Nat → Nat → St → Hp → Prop, (∃ m, W 0 m σ H) ∧ ∀ i m σ H, W i m σ H →
      ((Itd lo n).stop i H ∧ D.nx σ H) ∨ ((Itd lo n).go i H ∧ ∃ N : St → Hp → Prop, (∀ σ' H', N σ' H' → ∃ m', m' < m ∧ W (i + 1) m' σ' H') ∧ ∀ x H', (Itd lo n).yld i H x H' → g x σ H' fun σ2 H2 => tb { D with nx := N, ct := N, bk := D.nx } σ2 H2) := by
  refine ⟨fun i m σ H => m = n - i ∧ i ≤ n ∧ Pv i σ H, ⟨n, by simp, Nat.zero_le _, h0⟩, ?_⟩
  rintro i m σ H ⟨rfl, hi, p⟩
  by_cases hlt : i < n
  · refine .inr ⟨hlt, Pv (i + 1), fun σ' H' p' => ⟨n - (i + 1), by omega, rfl, hlt, p'⟩, fun x H' y => ?_⟩
    obtain ⟨e, y⟩ := y
    subst e y
    exact hs i σ _ hlt p
  · have e : i = n := by omega
    subst e
    exact .inl ⟨Nat.le_refl _, hd σ H p⟩
theorem pt_truthK {K : PySem.W.Frag} {a : Expr} {ta : TE} (hK : X.K = K) (ha : PE X a ta) (he : ∀ whole, isTrue a X.env whole = (do let v ← whole; standAt a.pos; holding [v] (truthy v))) :
    PT X a (fun σ H Q => ta σ H fun x H' => ∃ k, TruV K x H' k ∧ Q k H') := by subst hK; exact pt_truth ha he
end
def rIndexI : V → List V → Hp → VK → Prop := fun x vs H Q => ∃ (l : Addr) (ns : List Int) (k : Int) (j : Nat), x = .ref l ∧ vs = [.int k] ∧ H l = some (.lst (ns.map V.int)) ∧ ns.length ≤ 1000 ∧ ns[j]? = some k ∧ (∀ i, i < j → ns[i]? ≠ some k) ∧ Q (.int j) H
theorem mt_indexI {X : Cx} : MtM X "list.index" rIndexI := by
  intro pins s σ H x vs v us Q I rx rv h
  obtain ⟨l, ns, k, j, rfl, rfl, hH, hz, hj, hno, q⟩ := h
  cases rx
  obtain ⟨u, rfl, ru⟩ := rv.one
  obtain ⟨t, rfl⟩ := ru
  obtain ⟨z, its, n, r, hl, e⟩ := I.lstM hH
  have hml : (ns.map V.int).length = ns.length := List.length_map _
  have at_ : ∀ i (hi : i < its.length), ∃ t, its[i] = Value.int (ns.getD i 0) t := fun i hi => by
    have hin : i < ns.length := by omega
    obtain ⟨u, e1, t, e2⟩ := r.get (i := i) (x := .int ns[i]) (by rw [List.getElem?_map, List.getElem?_eq_getElem hin]; rfl)
    rw [List.getElem?_eq_getElem hi] at e1
    refine ⟨t, ?_⟩
    rw [Option.some.inj e1, e2, List.getD_eq_getElem?_getD, List.getElem?_eq_getElem hin]; rfl
  have hjn : j < ns.length := (List.getElem?_eq_some_iff.mp hj).1
  refine call_meets F.slot_list_index ⟨_, e, rfl⟩ F.entry_list_index (F.args_list_index_2 _ _) (SeqAt.list_indexAt l its.toArray n none #[] (.int k t) (Value.isInt k) j (by rw [List.size_toArray]; omega) (by omega) ?_ (fun m hm hlt => ?_)) ⟨e, fun y hy => ?_, ?_⟩
  · obtain ⟨t', e'⟩ := at_ j (by omega)
    show Value.isInt k its[j] = true
    rw [e', List.getD_eq_getElem?_getD, hj]
    simp [Value.isInt]
  · have hm' : m < its.length := by simpa using hm
    obtain ⟨t', e'⟩ := at_ m hm'
    show Value.isInt k its[m] = false
    have hmn : m < ns.length := by omega
    have q1 := hno m hlt
    rw [List.getElem?_eq_getElem hmn] at q1
    have q2 : ns[m] ≠ k := fun z => q1 (by rw [z])
    rw [e', List.getD_eq_getElem?_getD, List.getElem?_eq_getElem hmn]
    simp [Value.isInt, q2]
  · obtain ⟨i, hi, rfl⟩ := List.mem_iff_getElem.mp (show y ∈ its by simpa using hy)
    obtain ⟨t', e'⟩ := at_ i hi
    rw [e']
    exact (MeetsSeq.EqGives.int _ k t' t).at _ _
  · exact ⟨.int _, H, I.tok _, ⟨_, rfl⟩, q⟩
end L2
namespace L2
open PySem PySem.Spec PyProof.Rows PySem.W
structure LScope (X : Cx) (scope : Scope) (N' : List Str) (caps : List (Option Nat)) (p : Str) : Prop where
  kind : scope.kind = .function
  co : scope.isCoroutine = false
  gen : scope.isGenerator = false
  uniq : (scope.names.map (·.1)).Nodup
  nocell : ∀ x ∈ scope.names, x.2 ≠ .cell
  free : ∀ x ∈ scope.names, x.2 = .free → X.env.kindOf x.1 = some .cell ∨ X.env.kindOf x.1 = some .free
  len : caps.length = N'.length
  cap : ∀ (j i : Nat) (x : Str), caps[j]? = some (some i) → N'[j]? = some x → X.N[i]? = some x ∧ (x, NameKind.free) ∈ scope.names
  par : N'[0]? = some p
  loc : scope.names.lookup p = some .local
  cap0 : caps[0]? = some none
def cxL (X : Cx) (A : Around) (scope : Scope) (N' : List Str) (qual : Str) (f : Addr) (cd : Value) (s : Shared) (H : Hp) : Cx where
  prog := X.prog
  w := X.w
  K := X.K
  mg := X.mg
  base := X.base
  A := A.deeper (envX qual scope s.heap.objs.size f cd (clFor X.env.cells scope.names []))
  N := N'
  s₀ := s
  H₀ := H
  env := envX qual scope s.heap.objs.size f cd (clFor X.env.cells scope.names [])
  outer := X.stack
  stack := envX qual scope s.heap.objs.size f cd (clFor X.env.cells scope.names []) :: X.stack
  ex := []
  fn := fun _ => false
  calm := X.calm
  pn := []
  xe := fun _ _ => False
def startL (caps : List (Option Nat)) (σ : St) (v : V) : St := (startC caps σ).set 0 (some v)
section
variable {X : Cx} {pins : List (Addr × Obj)} {σ : St} {H : Hp} {s : Shared} {scope : Scope} {N' : List Str} {caps : List (Option Nat)} {p : Str} {qual : Str} {f : Addr} {cd : Value} {A : Around}
theorem LScope.clos (S : LScope X scope N' caps p) (ok : X.Ok) : closureFor scope X.env = pure (clFor X.env.cells scope.names []) :=
  closureFor_eq fun x hx hf => ok.has x.1 (S.free x hx hf)
theorem inv_lam (I : Inv X pins σ H s) (S : LScope X scope N' caps p) {v : V} {u : Value} (rv : RelV v u) {h1 : Heap} {t1 : Nat} (hA : A.frames = some X.stack) (hh : X.calm = true → A.handled = none)
    (hns : h1.Ns s.heap.objs.size (fun x => [(p, u)].reverse.lookup x)) (keep : ∀ b o, s.heap.get? b = some o → h1.get? b = some o) :
    Inv (cxL X A scope N' qual f cd s H) [] (startL caps σ v) H { s with heap := h1, toks := t1 } := by
  have accLt : ∀ x c, (clFor X.env.cells scope.names []).lookup x = some c → (x, NameKind.free) ∈ scope.names ∧ X.env.cells.lookup x = some c := fun x c e => by
    rcases clFor_of _ _ _ e with q | q
    · cases q
    · exact q
  have freeCell : ∀ x c, (x, NameKind.free) ∈ scope.names → X.env.cells.lookup x = some c → (clFor X.env.cells scope.names []).lookup x = some c := fun x c hx e => clFor_has _ e _ _ hx
  have noA : ∀ b : Addr, b ∉ (cxL X A scope N' qual f cd s H).ex := fun b z => absurd (show b ∈ ([] : List Addr) from z) (by simp)
  refine ⟨⟨I.mod, S.kind, rfl, rfl, Nat.le_refl _, fun x y c a b => I.ok.inj x y c (accLt x c a).2 (accLt y c b).2, fun x hx => ?has, fun x c hf => (by cases hf), fun hc => hh hc, Around.frames_deeper hA, .inr ⟨rfl, rfl⟩, fun b z => absurd z (noA b), I.bs, Nat.le_trans I.ok.bsz I.sz, fun b _ _ => noA b, fun b z => absurd z (noA b), I.stack, I.stkFree⟩,
    rfl, I.bare, Un.kept keep, ⟨_, hns, fun i x w h1' h2 h3 => ?loc⟩, fun x c e => ?cell, I.hok.fresh (Nat.le_refl _), fun x c e => I.freeC x c (accLt x c e).2, fun q hq => absurd (show q ∈ ([] : List (Addr × Obj)) from hq) (by simp), I.hok.kept keep, ?len⟩
  case has =>
    have hx : scope.names.lookup x = some .cell ∨ scope.names.lookup x = some .free := hx
    rcases hx with hx | hx
    · exact absurd rfl (S.nocell _ (PySem.mem_of_lookup hx))
    · have hm := PySem.mem_of_lookup hx
      obtain ⟨c, hc⟩ := I.ok.has x (S.free _ hm rfl)
      exact ⟨c, freeCell x c hm hc⟩
  case cell =>
    obtain ⟨v', z⟩ := I.cell x c (accLt x c e).2
    exact ⟨v', z.keeps keep⟩
  case len =>
    show (startL caps σ v).length = N'.length
    unfold startL startC
    rw [List.length_set, List.length_map, S.len]
  case loc =>
    have h1'' : N'[i]? = some x := h1'
    unfold startL at h2
    by_cases hi : i = 0
    · subst hi
      have ex : x = p := by rw [S.par] at h1''; exact (Option.some.inj h1'').symm
      subst ex
      have hl : 0 < (startC caps σ).length := by
        have := (List.getElem?_eq_some_iff.mp S.cap0).1
        unfold startC; rw [List.length_map]; exact this
      rw [List.getElem?_set_self hl] at h2
      have e : v = w := by injection h2 with h2; injection h2
      subst e
      refine ⟨u, rv, .inl ⟨S.loc, ?_⟩⟩
      simp
    · rw [List.getElem?_set_ne (fun z => hi z.symm)] at h2
      unfold startC at h2
      rw [List.getElem?_map] at h2
      cases hc : caps[i]? with
      | none => rw [hc] at h2; cases h2
      | some o =>
        rw [hc] at h2
        cases o with
        | none => cases h2
        | some k =>
          have h2' : ((σ[k]?).bind fun v => v) = some w := by simpa using h2
          obtain ⟨e1, e2⟩ := S.cap i k x hc h1''
          have hσ : σ[k]? = some (some w) := by
            cases hq : σ[k]? with
            | none => rw [hq] at h2'; cases h2'
            | some y => rw [hq] at h2'; simp at h2'; rw [h2']
          have hkd := S.free _ e2 rfl
          obtain ⟨m, hn, hl⟩ := I.loc
          obtain ⟨u', r, lk⟩ := hl k x w e1 hσ (by rcases hkd with q | q; exact .inr (.inl q); exact .inr (.inr q))
          refine ⟨u', r, ?_⟩
          rcases lk with ⟨q, _⟩ | ⟨q, c, e, z⟩
          · rcases hkd with z | z
            · rw [q] at z; cases z
            · rw [q] at z; cases z
          · exact .inr ⟨.inr (lookup_of_mem S.uniq e2), c, freeCell x c e2 e, z.keeps keep⟩
theorem lam_call {name : Str} {params : Arguments} {body : Expr} {pm ctv : Value} {c' : Addr} {tb : TE} {u : Value} {v : V} {E : Value → Shared → Prop} {Q : Value → Shared → Prop} {kk : Int} (I : Inv X pins σ H s) (S : LScope X scope N' caps p) (rv : RelV v u)
    (hA : A.frames = some X.stack) (hh : X.calm = true → A.handled = none) (hroom : A.depth < recursionLimit)
    (ho : s.heap.get? f = some (kla_obj name qual params body scope (clFor X.env.cells scope.names []) pm c' ctv)) (hcd : s.heap.CodeRec (.ref c') qual)
    (hbind : bindArgs (kla_fn name qual params body scope (clFor X.env.cells scope.names []) pm (.ref c') ctv) ⟨[u], []⟩ = pure [(p, u)])
    (hb : ∀ (s : Shared) (H : Hp), PE (cxL X A scope N' qual f (.ref c') s H) body tb) (ht : tb (startL caps σ v) H fun y H3 => H3 = H ∧ y = .int kk)
    (q : ∀ s' t, Inv X pins σ H s' → (∀ b o, s.heap.get? b = some o → H b = none → b ∉ frs X.stack → s'.heap.get? b = some o) → Q (.int kk t) s') :
    wpAny (model X.prog X.w) A (call (.ref f) [u]) Q E s := by
  refine wpAny_call (kla_callFunE hroom ho rfl S.co S.gen rfl hcd ?_)
  rw [hbind]
  refine wpAny_pure (wpAny_newFunctionEnv S.nocell (fun x hx => by have : x = (p, u) := by simpa using hx
                                                                   rw [this]; exact S.loc) (fun h1 hns hsb => ⟨?_, ?_⟩) S.kind)
  · exact I.nolimit.fresh _ hsb
  have keep : ∀ b o, s.heap.get? b = some o → h1.get? b = some o := fun b o e => hsb.extBut b o (Nat.ne_of_lt (Heap.lt_size e)) (Heap.get?_push_of_some _ e)
  show codeAny _ _ (.expr body (envX qual scope s.heap.objs.size f (.ref c') (clFor X.env.cells scope.names []))) _ _
  have J := inv_lam (qual := qual) (f := f) (cd := .ref c') (t1 := s.toks + 1) I S rv hA hh hns keep
  refine kla_codeExpr (wpAny_mono (hb s H [] _ _ _ _ J ht) (fun y s' h' => ?_) fun _ _ z => z.elim)
  obtain ⟨yv, H3, J3, r3, e1, e2⟩ := h'
  rw [e1] at J3
  rw [e2] at r3
  obtain ⟨t, rfl⟩ := r3
  have un : Un (frs X.stack) [] H H s.heap s'.heap := J3.base
  exact q s' t (I.call' J3.os un J3.hok J3.bare fun b hb => absurd (show b ∈ ([] : List Addr) from hb) (by simp)) fun b o e hn hf => un.keep b o e hn hf (by simp)
end
end L2
namespace L2
open PySem PySem.Spec PyProof.Rows PySem.W
section
variable {prog : Program} {w : World} {A : Around} {E : Value → Shared → Prop} {s : Shared} {la ks : Addr} {xs : List Value} {kz : List Int} {kar : Array Value} {ek el : Nat} {P : PySem.Fin → Shared → Prop}
def But2 (la ks : Addr) (h h' : Heap) : Prop := ∀ b o, b ≠ la → b ≠ ks → h.get? b = some o → h'.get? b = some o
theorem sk_tail {st : SortSt} (nk : s.heap.get? ks = some (seqObj "list" kar ek)) (na : s.heap.get? la = some (seqObj "list" #[] el)) (ne : ks ≠ la) (z1 : kar.size ≤ 64) (z2 : (arrOf st).size ≤ 64) (nf : failedOf st = none)
    (q : ∀ h' c, But2 la ks s.heap h' → h'.get? la = some (seqObj "list" ((arrOf st).map (·.2)) c) → P (.done (.ret .none)) { s with heap := h' }) : wpAny (model prog w) A (ksk_tail la false el (.ref ks) st) P E s := by
  have t1 := Heap.SameBut.update s.heap ks (Obj.mapSeq fun _ => (#[] : Array Value))
  have na1 : (s.heap.update ks (Obj.mapSeq fun _ => (#[] : Array Value))).get? la = some (seqObj "list" #[] el) := (t1.2 la ne.symm).trans na
  have t2 := Heap.SameBut.update (s.heap.update ks (Obj.mapSeq fun _ => (#[] : Array Value))) la (Obj.mapSeq fun _ => (arrOf st).map (·.2))
  have na2 := get?_update_seq na1 fun _ => (arrOf st).map (·.2)
  unfold ksk_tail
  dsimp only
  refine wpAny_bind (listUpdate_at nk rfl ?_ (by rw [sizeLine_eq]; omega) (Nat.zero_le _))
  refine wpAny_bind (wpAny_letGo (wpAny_bind (seqEpoch_at na1 rfl ?_)))
  refine wpAny_bind (listUpdate_at na1 rfl ?_ (Nat.zero_le _) (by simp only [Bool.false_eq_true, if_false]; rw [Array.size_map, sizeLine_eq]; omega))
  rw [nf]
  simp only [bne_self_eq_false, Bool.false_eq_true, if_false]
  exact wpAny_pure (q _ _ (fun b o hb hb' e => (t2.2 b hb).trans ((t1.2 b hb').trans e)) na2)
theorem sk_end (nk : s.heap.get? ks = some (seqObj "list" kar ek)) (na : s.heap.get? la = some (seqObj "list" #[] el)) (ne : ks ≠ la) (hk : IntsAre kar.toList kz) (hl : kz.length = xs.length) (h64 : xs.length < 64)
    (q : ∀ h' out c, But2 la ks s.heap h' → h'.get? la = some (seqObj "list" out c) → KskOut false kz xs out.toList → P (.done (.ret .none)) { s with heap := h' }) : wpAny (model prog w) A (ksk_end la false xs.toArray el (.ref ks) kar) P E s := by
  have e1 : kar.size = xs.length := by
    have := hk.length
    rw [Array.length_toList] at this
    omega
  have e2 : (kar.zip xs.toArray).size = xs.length := by rw [Array.size_zip, e1, List.size_toArray, Nat.min_self]
  unfold ksk_end
  dsimp only
  simp only [Bool.false_eq_true, if_false]
  by_cases c : xs.toArray.size < 2
  · rw [if_pos c, if_pos c]
    refine wpAny_bind (wpAny_pure ?_)
    rw [StateT.run_pure]
    refine wpAny_bind (wpAny_pure (sk_tail (st := SortSt.mk' general' (kar.zip xs.toArray) #[] 7 none) nk na ne (by omega) (by show (kar.zip xs.toArray).size ≤ 64; omega) rfl fun h' c' k g => q h' _ c' k g ?_))
    have srt : SortedTo (kar.zip xs.toArray) (kar.zip xs.toArray).size := by
      intro i j hij hj
      rw [e2] at hj
      rw [List.size_toArray] at c
      have : i = j := by omega
      rw [this]; exact Int.le_refl _
    exact ksk_out (b := false) hk (Array.Perm.refl _) srt
  · rw [if_neg c, if_neg c]
    rw [List.size_toArray] at c
    rw [ksk_kind hk (by omega)]
    refine wpAny_bind (wpAny_pure (wpAny_bind (wpAny_mono (wpS_sortRuns (a₀ := kar.zip xs.toArray) (st := SortSt.mk' oneType' (kar.zip xs.toArray) #[] 7 none)
      (Q := fun _ st => (arrOf st).Perm (kar.zip xs.toArray) ∧ failedOf st = none ∧ SortedTo (arrOf st) (kar.zip xs.toArray).size) (ksk_intKeys hk) ⟨Array.Perm.refl _, rfl, rfl, rfl⟩ (by omega) (by omega) fun st x y z => ⟨x, y, z⟩) ?_ fun _ _ z => z)))
    rintro ⟨⟨⟩, st⟩ s' ⟨rfl, pm, nf, so⟩
    refine sk_tail nk na ne (by omega) (by rw [pm.size_eq]; omega) nf fun h' c' k g => q h' _ c' k g ?_
    exact ksk_out (b := false) hk pm (by rw [pm.size_eq]; exact so)
end
section
variable {X : Cx} {pins : List (Addr × Obj)} {σ : St} {H : Hp} {s : Shared} {A : Around} {E : Value → Shared → Prop} {la f : Addr} {xs : List Value} {ns : List Int} {n0 : Nat} {P : PySem.Fin → Shared → Prop}
def Kept (X : Cx) (H : Hp) (la : Addr) (h h' : Heap) : Prop := ∀ b o, b ≠ la → H b = none → b ∉ frs X.stack → h.get? b = some o → h'.get? b = some o
theorem sk_run (key : Int → Int) (I : Inv X pins σ H s) (fa : FpOk X pins H la) (nfa : la ∉ frs X.stack) (ho : s.heap.get? la = some (seqObj "list" xs.toArray n0)) (hi : IntsAre xs ns) (h64 : ns.length < 64)
    (turn : ∀ (s1 : Shared) (n : Int) (t : Tok), n ∈ ns → Inv X pins σ H s1 → Kept X H la s.heap s1.heap → wpAny (model X.prog X.w) A (call (.ref f) [.int n t]) (fun v s2 => (∃ t', v = .int (key n) t') ∧ Inv X pins σ H s2 ∧
      ∀ b o, s1.heap.get? b = some o → H b = none → b ∉ frs X.stack → s2.heap.get? b = some o) (fun _ _ => False) s1)
    (done : ∀ s' out ns' c, Inv X pins σ H s' → s'.heap.get? la = some (seqObj "list" out c) → IntsAre out.toList ns' → ns'.Perm ns → ns'.Pairwise (fun x y => key x ≤ key y) → P (.done (.ret .none)) s') :
    wpAny (model X.prog X.w) A (ksk_tree la (.ref f) false) P E s := by
  obtain ⟨f0, f1, f2, f3, f4, f5⟩ := id fa
  have hl := hi.length
  have lt : la < s.heap.objs.size := Heap.lt_size ho
  have t1 := Heap.SameBut.update s.heap la (Obj.mapSeq fun _ => (#[] : Array Value))
  have ho1 := get?_update_seq ho fun _ => (#[] : Array Value)
  generalize (if ((fun _ => (#[] : Array Value)) xs.toArray).size == xs.toArray.size then n0 else n0 + 1) = e1 at ho1
  unfold ksk_tree
  refine wpAny_bind (listItems_at ho rfl ?_)
  refine wpAny_bind (listUpdate_at ho rfl ?_ (by rw [List.size_toArray, sizeLine_eq]; omega) (Nat.zero_le _))
  refine wpAny_bind (seqEpoch_at ho1 rfl ?_)
  refine wpAny_bind (wpAny_newTuple ?_ (by show xs.length ≤ _; rw [sizeLine_eq]; omega))
  refine wpAny_bind (wpAny_newList ?_ (Nat.zero_le _))
  refine wpAny_holding ?_
  -- where the keys are kept
  have z0 : ((s.heap.update la (Obj.mapSeq fun _ => (#[] : Array Value))).push (seqObj "tuple" xs.toArray 0)).objs.size = s.heap.objs.size + 1 := by rw [size_push', Heap.size_update]
  show wpAny _ A (ksk_rest la (.ref f) false xs.toArray e1 (.ref ((s.heap.update la (Obj.mapSeq fun _ => (#[] : Array Value))).push (seqObj "tuple" xs.toArray 0)).objs.size)) P E { s with heap := ((s.heap.update la (Obj.mapSeq fun _ => (#[] : Array Value))).push (seqObj "tuple" xs.toArray 0)).push (seqObj "list" #[] 0) }
  rw [z0]
  have kp : ∀ b o, b ≠ la → s.heap.get? b = some o → (((s.heap.update la (Obj.mapSeq fun _ => (#[] : Array Value))).push (seqObj "tuple" xs.toArray 0)).push (seqObj "list" #[] 0)).get? b = some o := fun b o hb e =>
    Heap.get?_push_of_some _ (Heap.get?_push_of_some _ ((t1.2 b hb).trans e))
  have I1 : Inv X pins σ H { s with heap := ((s.heap.update la (Obj.mapSeq fun _ => (#[] : Array Value))).push (seqObj "tuple" xs.toArray 0)).push (seqObj "list" #[] 0) } := I.turned (t' := s.toks) kp f0 f1 f3 f4 f5
  have nk1 : (((s.heap.update la (Obj.mapSeq fun _ => (#[] : Array Value))).push (seqObj "tuple" xs.toArray 0)).push (seqObj "list" #[] 0)).get? (s.heap.objs.size + 1) = some (seqObj "list" #[] 0) := by rw [← z0]; exact Heap.get?_push_size _ rfl
  have na1 : (((s.heap.update la (Obj.mapSeq fun _ => (#[] : Array Value))).push (seqObj "tuple" xs.toArray 0)).push (seqObj "list" #[] 0)).get? la = some (seqObj "list" #[] e1) := Heap.get?_push_of_some _ (Heap.get?_push_of_some _ ho1)
  have fk : FpOk X pins H (s.heap.objs.size + 1) := I.fpOk (Nat.le_succ _) (I.hok.fresh (Nat.le_succ _))
  have nfk : s.heap.objs.size + 1 ∉ frs X.stack := fun hm => by
    rcases List.mem_cons.mp (I.stkSub _ hm) with e | e
    · exact fk.2.1 e
    · exact fk.2.2.1 e
  have nla : s.heap.objs.size + 1 ≠ la := Nat.ne_of_gt (Nat.lt_succ_of_lt lt)
  have K1 : Kept X H la s.heap (((s.heap.update la (Obj.mapSeq fun _ => (#[] : Array Value))).push (seqObj "tuple" xs.toArray 0)).push (seqObj "list" #[] 0)) := fun b o hb _ _ e => kp b o hb e
  generalize hks : s.heap.objs.size + 1 = ks at nk1 fk nfk nla
  generalize hs1 : ({ s with heap := ((s.heap.update la (Obj.mapSeq fun _ => (#[] : Array Value))).push (seqObj "tuple" xs.toArray 0)).push (seqObj "list" #[] 0) } : Shared) = s1 at I1
  have hh1 : ((s.heap.update la (Obj.mapSeq fun _ => (#[] : Array Value))).push (seqObj "tuple" xs.toArray 0)).push (seqObj "list" #[] 0) = s1.heap := by rw [← hs1]
  rw [hh1] at nk1 na1 K1
  have kne : ∀ b o, s.heap.get? b = some o → b ≠ ks := fun b o e z => by
    have := Heap.lt_size e
    rw [z, ← hks] at this
    exact absurd this (Nat.not_lt.mpr (Nat.le_succ _))
  unfold ksk_rest
  refine wpAny_bind (wpAny_rule ?_)
  rw [List.forIn_toArray]
  refine wpAny_bind (ksk_fold (fun i s' => ∃ kA e, Inv X pins σ H s' ∧ Kept X H la s.heap s'.heap ∧ s'.heap.get? ks = some (seqObj "list" kA e) ∧ s'.heap.get? la = some (seqObj "list" #[] e1) ∧ IntsAre kA.toList ((ns.map key).take i)) xs 0 s1
    ⟨#[], 0, I1, K1, nk1, na1, by simpa using IntsAre.nil⟩ ?step ?done)
  case step =>
    rintro j x s2 hx ⟨kA, e, I2, K2, nk2, na2, hk⟩
    simp only [Nat.zero_add] at hk ⊢
    have hj : j < xs.length := (List.getElem?_eq_some_iff.mp hx).1
    have hjn : j < ns.length := by omega
    obtain ⟨t, ht⟩ := hi.get j ns[j] (List.getElem?_eq_getElem hjn)
    rw [ht] at hx
    cases hx
    have ksz : kA.size ≤ xs.length := by
      have h1 := hk.length
      rw [Array.length_toList, List.length_take, List.length_map] at h1
      omega
    refine wpAny_bind (wpAny_attempt (wpAny_mono (turn s2 ns[j] t (List.getElem_mem hjn) I2 K2) (fun v s3 he => ?_) fun _ _ hF => hF.elim))
    obtain ⟨⟨t', rfl⟩, I3, k3⟩ := he
    have nk3 := k3 _ _ nk2 fk.1 nfk
    have na3 := k3 _ _ na2 f0 nfa
    have t3 := Heap.SameBut.update s3.heap ks (Obj.mapSeq (·.push (.int (key ns[j]) t')))
    have nk4 := get?_update_seq nk3 (·.push (.int (key ns[j]) t'))
    refine wpAny_bind (listUpdate_at nk3 rfl ?_ (by rw [sizeLine_eq]; omega) (by rw [Array.size_push, sizeLine_eq]; omega))
    refine wpAny_pure ⟨rfl, kA.push (.int (key ns[j]) t'), _, ?_, fun b o hb hn hf e0 => ?_, nk4, (t3.2 la nla.symm).trans na3, ?_⟩
    · exact I3.turned (t' := s3.toks) (fun b o hb e0 => (t3.2 b hb).trans e0) fk.1 fk.2.1 fk.2.2.2.1 fk.2.2.2.2.1 fk.2.2.2.2.2
    · exact (t3.2 b (kne b o e0)).trans (k3 b o (K2 b o hb hn hf e0) hn hf)
    · have ea : (kA.push (Value.int (key ns[j]) t')).toList = kA.toList ++ [Value.int (key ns[j]) t'] := by simp
      rw [ea, List.take_add_one, List.getElem?_map, List.getElem?_eq_getElem hjn]
      exact ksk_snoc hk
  case done =>
    rintro s2 ⟨kA, e, I2, K2, nk2, na2, hk⟩
    rw [Nat.zero_add, List.take_of_length_le (by rw [List.length_map]; omega)] at hk
    refine wpAny_bind (listItems_at nk2 rfl ?_)
    refine sk_end (xs := xs) (kz := ns.map key) nk2 na2 nla hk (by rw [List.length_map]; omega) (by omega) fun h' out c bt ga ko => ?_
    -- what came out
    obtain ⟨ps, pm, eo, so⟩ := ko
    have rel : ∀ p, p ∈ (ns.map key).zip xs → p.1 = key (numOf p.2) ∧ p.2 ∈ xs := by
      rw [← hi.nums, List.map_map, List.zip_map_left]
      intro p hp
      obtain ⟨⟨u, v⟩, hq, rfl⟩ := List.mem_map.mp hp
      have h1 : u = v ∧ u ∈ xs := mem_zip_self hq
      exact ⟨by show key (numOf u) = key (numOf v); rw [h1.1], by show v ∈ xs; rw [← h1.1]; exact h1.2⟩
    have a1 : IntsAre (ps.map Prod.snd) ((ps.map Prod.snd).map numOf) := intsAre_map _ fun v hv => by
      obtain ⟨p, hp', rfl⟩ := List.mem_map.mp hv
      exact hi.all _ (rel p (pm.mem_iff.mp hp')).2
    have a2 : ((ps.map Prod.snd).map numOf).Perm ns := by
      have h1 := (pm.map Prod.snd).map numOf
      rw [List.map_snd_zip (by rw [List.length_map]; omega), hi.nums] at h1
      exact h1
    have a3 : ((ps.map Prod.snd).map numOf).Pairwise (fun x y => key x ≤ key y) := by
      rw [List.pairwise_map, List.pairwise_map]
      refine so.imp_of_mem fun {p q} hp' hq' hr => ?_
      have hr' : p.1 ≤ q.1 := hr
      rw [(rel p (pm.mem_iff.mp hp')).1, (rel q (pm.mem_iff.mp hq')).1] at hr'
      exact hr'
    rw [← eo] at a1 a2 a3
    refine done _ out _ c ?_ ga a1 a2 a3
    -- first the keys, then the list
    have nh : ∀ b u, H b = some u → b ≠ la ∧ b ≠ ks := fun b u e => ⟨fun z => (by rw [z, f0] at e; cases e), fun z => (by rw [z, fk.1] at e; cases e)⟩
    have un : Un (frs X.stack) [la, ks] H H s2.heap h' :=
      ⟨fun b o e _ _ hx => bt b o (fun z => hx (by simp [z])) (fun z => hx (by simp [z])) e, fun b o e _ _ hx => ⟨o.slots, bt b o (fun z => hx (by simp [z])) (fun z => hx (by simp [z])) e⟩, fun b o _ n _ => n,
        fun b o e hx => ⟨o, bt b o (fun z => hx (by simp [z])) (fun z => hx (by simp [z])) e⟩, fun b ys e => e, fun b o u e => e, fun b qs e => ⟨#[], by rw [e]; simp⟩⟩
    refine I2.call' (s' := { s2 with heap := h' }) rfl un (I2.hok.keptOn fun b u o e1 e2 => bt b u (nh b o e1).1 (nh b o e1).2 e2) I2.bare fun b hb => ?_
    have hb' : b = la ∨ b = ks := by simpa using hb
    rcases hb' with z | z
    · rw [z]; exact ⟨f3, f1, f4, f5⟩
    · rw [z]; exact ⟨fk.2.2.2.1, fk.2.1, fk.2.2.2.2.1, fk.2.2.2.2.2⟩
end
end L2
namespace L2
open PySem PySem.Spec PyProof.Rows PySem.W
section
variable {prog : Program} {w : World} {A : Around} {E : Value → Shared → Prop} {s : Shared}
theorem plain_iadd : plainId "list.__iadd__" = true := by decide +kernel
end
section
variable {X : Cx} {pins : List (Addr × Obj)} {σ : St} {H : Hp} {s : Shared} {A : Around} {E : Value → Shared → Prop} {f r : Addr} {n : Nat} {Q : Value → Shared → Prop}
theorem Inv.track {b : Addr} {o : HO} (I : Inv X pins σ H s) (fa : FpOk X pins H b) (h0 : X.s₀.heap.get? b = none) (new : ObjOk X.prog X.w (upd H b o) s.heap b o) : Inv X pins σ (upd H b o) s := by
  obtain ⟨f0, f1, f2, f3, f4, f5⟩ := fa
  have neH : ∀ c q, H c = some q → c ≠ b := fun c q e z => by rw [z, f0] at e; cases e
  have u := I.base
  refine ⟨I.ok, I.os, I.bare, ⟨u.keep, u.slot, fun c q e n hx => ?_, u.there, fun c ys e => ?_, fun c q v e => ?_, fun c qs e => ?_⟩, I.loc, I.cell, ?_, fun x c e => ?_, fun q hq => ?_, fun c q e => ?_, I.len⟩
  · rw [upd_ne (fun z => by rw [z, h0] at e; cases e)]; exact u.free c q e n hx
  · have z := u.tups c ys e
    rw [upd_ne (neH c _ z)]; exact z
  · have z := u.frzs c q v e
    rw [upd_ne (neH c _ z)]; exact z
  · obtain ⟨more, z⟩ := u.tbls c qs e
    exact ⟨more, by rw [upd_ne (neH c _ z)]; exact z⟩
  · rw [upd_ne (Ne.symm f1)]; exact I.free
  · rw [upd_ne (f4 x c e)]; exact I.freeC x c e
  · obtain ⟨p1, p2, p3⟩ := I.pin q hq
    exact ⟨p1, by rw [upd_ne (f5 q hq)]; exact p2, p3⟩
  · by_cases z : c = b
    · subst z
      rw [upd_same] at e
      cases e
      exact new
    · rw [upd_ne z] at e
      exact (I.hok c q e).stay (fun _ _ _ y => y) (fun d y => by rw [upd_ne (neH d _ y)]; exact y) fun d ys y => by rw [upd_ne (neH d _ y)]; exact y
end
end L2
namespace L2
open PySem PySem.Spec PyProof.Rows PySem.W
def CodeOb (c : Addr) (qual : Str) : HO := .ext fun h => h.CodeRec (.ref c) qual
theorem codeOb_ok {P : Program} {w : World} {H : Hp} {h : Heap} {c : Addr} {qual : Str} (e : h.CodeRec (.ref c) qual) : ObjOk P w H h c (CodeOb c qual) := by
  refine ⟨e, ?_, fun h1 h2 x k => ?_⟩
  · obtain ⟨c2, oc, vs, t, e2, g, _⟩ := e
    cases e2
    exact ⟨oc, g⟩
  · obtain ⟨c2, oc, vs, t, e2, g, r⟩ := x
    cases e2
    exact ⟨c, oc, vs, t, rfl, k oc g, r⟩
def TabOk (pos : Pos) (qual : Str) (ps : Array Value) (H : Hp) : Prop := ps = #[] ∨ ∃ c, ps = #[rawInt pos.line, rawInt pos.col, .ref c] ∧ H c = some (CodeOb c qual)
def SameT (P : Addr) (H H' : Hp) : Prop := ∀ b o, b ≠ P → H b = some o → H' b = some o
def BMain (mg : Str → Option Value) (h : Heap) : Prop := ∃ bm ob, mg "__builtins__" = some (.ref bm) ∧ bm ≠ builtinsNs ∧ h.get? bm = some ob ∧ ob.cls = .type "module" ∧ ob.dict = some builtinsNs ∧ ob.data = .plain
structure TabF (K : PySem.W.Frag) (mg : Str → Option Value) (base : Heap) (cd : Value) (P : Addr) : Prop where
  hd : ∃ c, cd = .ref c ∧ codeHdIn K c P = true
  mP : mainGlobals ≠ P
  bm : BMain mg base
section
variable {X : Cx} {pins : List (Addr × Obj)} {σ : St} {H : Hp} {s : Shared} {P : Addr} {ps : Array Value} {qual : Str}
theorem Inv.grown {h' : Heap} {tk : Nat} {c : Addr} {more : Array Value} (I : Inv X pins σ H s) (hP : H P = some (.tbl ps)) (hx : Heap.ExtBut P s.heap h') (hc : s.heap.objs.size ≤ c) (rec : h'.CodeRec (.ref c) qual) (ht : h'.get? P = some (tabObj (ps ++ more))) :
    Inv X pins σ (upd (upd H P (.tbl (ps ++ more))) c (CodeOb c qual)) { s with heap := h', toks := tk } := by
  have hn : H c = none := I.hok.fresh hc
  have ncP : c ≠ P := fun z => by rw [z, hP] at hn; cases hn
  have gP : s.heap.get? P = some (tabObj ps) := (show ObjOk X.prog X.w H s.heap P (.tbl ps) from I.hok P _ hP)
  have gc : s.heap.get? c = none := Heap.get?_none_of_le hc
  have ne : ∀ b o, s.heap.get? b = some o → b ≠ c := fun b o e z => by rw [z, gc] at e; cases e
  have neH : ∀ b o, H b = some o → b ≠ c := fun b o e z => by rw [z, hn] at e; cases e
  have un : Un (frs X.stack) [] H (upd (upd H P (.tbl (ps ++ more))) c (CodeOb c qual)) s.heap h' := by
    have nP : ∀ b, H b = none → b ≠ P := fun b e z => by rw [z, hP] at e; cases e
    refine ⟨fun b o e n _ _ => hx b o (nP b n) e, fun b o e n _ _ => ⟨o.slots, hx b o (nP b n) e⟩, fun b o e n _ => ?_, fun b o e _ => ?_, fun b ys e => ?_, fun b o u e => ?_, fun b qs e => ?_⟩
    · rw [upd_ne (ne b o e), upd_ne (nP b n)]; exact n
    · by_cases z : b = P
      · rw [z]; exact ⟨_, ht⟩
      · exact ⟨o, hx b o z e⟩
    · rw [upd_ne (neH b _ e), upd_ne (fun z => by rw [z, hP] at e; cases e)]; exact e
    · rw [upd_ne (neH b _ e), upd_ne (fun z => by rw [z, hP] at e; cases e)]; exact e
    · by_cases z : b = P
      · subst z
        rw [hP] at e
        cases e
        exact ⟨more, by rw [upd_ne ncP.symm, upd_same]⟩
      · exact ⟨#[], by rw [upd_ne (neH b _ e), upd_ne z, e]; simp⟩
  refine I.call' (s' := { s with heap := h', toks := tk }) rfl un (fun a q e => ?_) I.bare fun b hb => absurd (show b ∈ ([] : List Addr) from hb) (by simp)
  by_cases z : a = c
  · subst z
    rw [upd_same] at e
    cases e
    exact codeOb_ok rec
  · rw [upd_ne z] at e
    by_cases z2 : a = P
    · subst z2
      rw [upd_same] at e
      cases e
      exact ht
    · rw [upd_ne z2] at e
      refine (I.hok a q e).stay (fun b u hb g => ?_) (fun b y => ?_) fun b ys y => ?_
      · refine hx b u (fun y => ?_) g
        rcases hb with y2 | y2
        · exact z2 (y2.symm.trans y)
        · rw [y, hP] at y2; cases y2
      · rw [upd_ne (neH b _ y), upd_ne (fun w => by rw [w, hP] at y; cases y)]; exact y
      · rw [upd_ne (neH b _ y), upd_ne (fun w => by rw [w, hP] at y; cases y)]; exact y
theorem lam_made {params : Arguments} {body : Expr} {scope : Scope} {pos : Pos} {N' : List Str} {caps : List (Option Nat)} {p : Str} {E : Value → Shared → Prop} {Q : Value → Shared → Prop} (I : Inv X pins σ H s) (T : TabF X.K X.mg X.base X.env.code P) (S : LScope X scope N' caps p)
    (hP : H P = some (.tbl ps)) (ok : TabOk pos (X.env.qual ++ "<lambda>") ps H) (hdf : defaultsOf params X.env = ([], []))
    (q : ∀ s' f c ctv pm H' ps', Inv X pins σ H' s' → SameT P H H' → H' P = some (.tbl ps') → TabOk pos (X.env.qual ++ "<lambda>") ps' H' → H' f = none → f ∉ frs X.stack → (∀ b, H b = none → b ≠ c → H' b = none) →
      s'.heap.get? f = some (kla_obj "<lambda>" (X.env.qual ++ "<lambda>") params body scope (clFor X.env.cells scope.names []) pm c ctv) → H' c = some (CodeOb c (X.env.qual ++ "<lambda>")) → Q (.ref f) s') :
    wpAny (model X.prog X.w) X.A (eval (.Lambda params body scope pos) X.env) Q E s := by
  obtain ⟨⟨c0, ec, hd⟩, mP, bm, ob, b1, b2, b3, b4, b5, b6⟩ := T
  have hg : s.heap.Ns mainGlobals X.mg := I.mod.glob.keeps I.bk
  have CH : CodeHd s.heap c0 P := codeHd_of_K I.kIn hd
  have gP : s.heap.get? P = some (tabObj ps) := (show ObjOk X.prog X.w H s.heap P (.tbl ps) from I.hok P _ hP)
  have nG : bm ≠ mainGlobals := fun z => by
    obtain ⟨o, es, ep, e, d, _⟩ := I.mod.glob
    rw [z, e] at b3
    cases b3
    rw [d] at b6; cases b6
  have nbP : bm ≠ P := fun z => by
    have := (I.bs _ _ b3).2
    rw [z, hP] at this; cases this
  have hB : s.heap.BuiltinsAt X.mg P := ⟨bm, ob, b1, b2, nG, nbP, I.bk _ _ b3, b4, b5, b6⟩
  have low : ∀ {h' : Heap} {o : Obj}, s.heap.objs.size ≤ h'.objs.size → h'.objs.size ∉ frs X.stack := fun {h' o} sz hm => by
    have fk := I.fpOk (b := h'.objs.size) sz (I.hok.fresh sz)
    rcases List.mem_cons.mp (I.stkSub _ hm) with e | e
    · exact fk.2.1 e
    · exact fk.2.2.1 e
  refine kla_eval hdf ?_
  rcases ok with rfl | ⟨c, rfl, hc⟩
  · refine kla_makeFunction (mg := X.mg) (S.clos I.ok) I.ok.glob hg ec CH gP trivial rfl mP hB fun c ctv h' tk hx hge hlt rec htb => ?_
    have I2 := I.grown (tk := tk) (more := #[rawInt pos.line, rawInt pos.col, .ref c]) hP hx hge rec htb
    have hn : H c = none := I.hok.fresh hge
    have ncP : c ≠ P := fun z => by rw [z, hP] at hn; cases hn
    have sz : s.heap.objs.size ≤ h'.objs.size := Nat.le_trans hge (Nat.le_of_lt hlt)
    refine q _ h'.objs.size c ctv _ _ _ (I2.kept fun b o e => Heap.get?_push_of_some _ e) (fun b o hb e => ?_) (by rw [upd_ne ncP.symm, upd_same]) (.inr ⟨c, by simp, upd_same⟩) ?_ (low (o := default) sz) (fun b e z => ?_) (Heap.get?_push_size _ rfl) upd_same
    · rw [upd_ne (fun z => by rw [z, hn] at e; cases e), upd_ne hb]; exact e
    · exact I2.hok.fresh (Nat.le_refl _)
    · rw [upd_ne z, upd_ne (fun y => by rw [y, hP] at e; cases e)]; exact e
  · have hf : codeAmong pos (#[rawInt pos.line, rawInt pos.col, Value.ref c] : Array Value).toList = some (.ref c) := by
      have := codeAmong_snoc (pos := pos) (c := .ref c) [] trivial rfl
      simpa using this
    refine kla_makeFunctionHit (mg := X.mg) (S.clos I.ok) I.ok.glob hg ec CH gP ?_ hf hB fun ctv h' tk hk sz => ?_
    · simp [TriplesOk, rawInt]
    · refine q _ h'.objs.size c ctv _ H _ (I.kept fun b o e => Heap.get?_push_of_some _ (hk b o e)) (fun b o _ e => e) hP (.inr ⟨c, rfl, hc⟩) (I.hok.fresh sz) (low (o := default) sz) (fun b e _ => e) (Heap.get?_push_size _ rfl) hc
end
end L2
namespace L2
open PySem PySem.Spec PyProof.Rows PySem.W
section
variable {X : Cx} {arg body : Expr} {ta tb : TE} {caps : List (Option Nat)} {P : Addr} {params : Arguments} {scope : Scope} {lpos kpos np pos : Pos} {N' : List Str} {p : Str}
end
end L2
namespace L2
open PySem PySem.Spec PyProof.Rows PySem.W
theorem Fun.okC {P : Program} {w : World} {K : PySem.W.Frag} {mg : Str → Option Value} {base : Heap} {x qual : Str} {st : Stmt} {f : Addr} {fd : FuncData} {N ps : List Str} {k : Nat} {sp : Sp} {cd0 : Value} (F : Fun K x qual st f fd) (ecd : fd.code = cd0) (S : FnScope N ps (defScope st)) (len : ∀ vs H Q E, sp vs H Q E → vs.length = ps.length)
    (hbody : ∀ (A : Around) (outer : List Env) (s : Shared) (H : Hp) (vs : List V) (Q : VK) (E : XK), Room k (A.deeper (envOfC qual (defScope st) s.heap.objs.size f cd0)) → sp vs H Q E →
      ∃ t, PSs (cxOf CX0 P w K mg base N qual (defScope st) f cd0 A outer s H E).nox (defBody st) t ∧ t { nx := fun _ H' => Q .non H', rt := Q } (start N vs) H) : FnOk P w K mg base CX0 (k + 1) f fd ps sp := by
  obtain ⟨oc, od, kV, doc, pm, an, cdv, ct, osl, rfl, lk, hcd⟩ := F.ex
  have e : cdv = cd0 := ecd
  subst e
  refine fn_of lk hcd S len fun A outer s H vs Q E hr hsp => ?_
  obtain ⟨t, h, q⟩ := hbody A outer s H vs Q E hr hsp
  exact ⟨t, h.nox, q⟩
theorem lscope {X : Cx} {scope : Scope} {N' : List Str} {caps : List (Option Nat)} {p : Str} (C : CScope X scope N' caps) (hco : scope.isCoroutine = false := by rfl) (hgen : scope.isGenerator = false := by rfl) (hnc : (scope.names.all fun x => x.2 != .cell) = true := by rfl)
    (hp : N'[0]? = some p := by rfl) (hl : scope.names.lookup p = some .local := by rfl) (h0 : caps[0]? = some none := by rfl) : LScope X scope N' caps p :=
  ⟨C.kind, hco, hgen, C.uniq, fun x hx e => by have := List.all_eq_true.mp hnc x hx; rw [e] at this; simp at this, C.free, C.len, C.cap, hp, hl, h0⟩
theorem Same.toT {P : Addr} {H H' : Hp} (s : Same H H') : SameT P H H' := fun b o _ e => s b o e
theorem SameT.refl (P : Addr) (H : Hp) : SameT P H H := fun _ _ _ e => e
theorem SameT.trans {P : Addr} {H H1 H2 : Hp} (a : SameT P H H1) (b : SameT P H1 H2) : SameT P H H2 := fun c o n e => b c o n (a c o n e)
theorem SameT.free {P : Addr} {H H' : Hp} (s : SameT P H H') {ps : Array Value} (hP : H' P = some (.tbl ps)) {l : Addr} (h : H' l = none) : H l = none := by
  cases e : H l with
  | none => rfl
  | some o =>
    have := s l o (fun z => by rw [z, hP] at h; cases h) e
    rw [h] at this; cases this
theorem SameT.sq {K : PySem.W.Frag} {P : Addr} {H H' : Hp} {ps : Array Value} (s : SameT P H H') (hP : H P = some (.tbl ps)) {a : Addr} {xs : List V} (h : SqL K H a xs) : SqL K H' a xs := by
  rcases h with (h | ⟨o, h⟩) | h
  · exact .inl (.inl (s _ _ (fun z => by rw [z, hP] at h; cases h) h))
  · exact .inl (.inr ⟨o, s _ _ (fun z => by rw [z, hP] at h; cases h) h⟩)
  · exact .inr h
theorem TabOk.same {pos : Pos} {qual : Str} {ps : Array Value} {H H' : Hp} {P : Addr} (t : TabOk pos qual ps H) (s : SameT P H H') (hP : H P = some (.tbl ps)) : TabOk pos qual ps H' := by
  rcases t with e | ⟨c, e, h⟩
  · exact .inl e
  · exact .inr ⟨c, e, s _ _ (fun z => by rw [z, hP] at h; cases h) h⟩
theorem law_callT {P : Program} {w : World} {K : PySem.W.Frag} {mg mb : Str → Option Value} {k : Nat} {fa a Pt c : Addr} {fd : FuncData} {x : Str} {sp : Sp} {s₁ : Shared} {vs : List Value} {ns : List Int}
    (KX : K.In s₁.heap) (hns : s₁.heap.Ns mainGlobals mg) (hb : s₁.heap.Ns builtinsNs mb) (hbb : ∀ x : Str, x ≠ "__name__" → mb x = bootBuiltins x) (hlim : s₁.heap.NoLimit) (hg : s₁.gens = #[])
    (hT : s₁.heap.get? Pt = some (tabObj #[])) (hKP : K.lookup Pt = none) (hcH : codeHdIn K c Pt = true)
    (ha : s₁.heap.get? a = some { cls := .type "list", data := .seq vs.toArray }) (hi : IntsAre vs ns) (hl : ns.length ≤ sizeLine) (hr : Room k callerA)
    (hBM : BMain mg s₁.heap) (F : ∀ base : Heap, K.In base → base.Ns mainGlobals mg → BMain mg base → FnOk P w K mg base CX0 k fa fd [x] sp) (hbind : ∀ (s : Shared) (u : Value), BindsTo s fd ⟨[u], []⟩ [(x, u)])
    (hsp : ∀ H : Hp, H Pt = some (.tbl #[]) → SqL K H a (ns.map V.int) → sp [.ref a] H (fun v _ => v = .bl true) fun _ _ _ => False) :
    codeAny (model P w) callerA (.call (.ref fa) ⟨[.ref a], []⟩) (fun r s' => r = .ok (.ret (.bool true)) ∧ OldK s₁.heap s'.heap ∧ s'.os = s₁.os ∧ AllBare s'.gens) s₁ := by
  have rv := vals_ints hi
  have lenV := hi.length
  have neP : a ≠ Pt := fun z => by rw [z, hT] at ha; cases ha
  have core : ∀ H : Hp, H Pt = some (.tbl #[]) → (∀ b, b ≠ Pt → H b = none ∨ ∃ o xs, H b = some (.frz o (.lst xs))) → SqL K H a (ns.map V.int) → HOk P w H s₁.heap → (∀ b, H b ≠ none → b = a ∨ b = Pt) → (H a ≠ none → K.lookup a = none) →
      codeAny (model P w) callerA (.call (.ref fa) ⟨[.ref a], []⟩) (fun r s' => r = .ok (.ret (.bool true)) ∧ OldK s₁.heap s'.heap ∧ s'.os = s₁.os ∧ AllBare s'.gens) s₁ := by
    intro H hPt hO hS hok hA hK
    have base_of : ∀ {b : Addr} {o : Obj}, s₁.heap.get? b = some o → H b = none → (hidT s₁.heap H).get? b = some o := fun e n => hidT_get e n
    have noA : ∀ {b : Addr} {o : Obj} {es : Array DictEntry} {ep : Nat}, s₁.heap.get? b = some o → o.data = .dict es ep → H b = none := fun {b o es ep} e d => by
      cases q : H b with
      | none => rfl
      | some u =>
        rcases hA b (by rw [q]; simp) with z | z
        · rw [z, ha] at e; cases e; cases d
        · rw [z, hT] at e; cases e; cases d
    have nsK : ∀ {b : Addr} {m : Str → Option Value}, s₁.heap.Ns b m → (hidT s₁.heap H).Ns b m := fun {b m} ⟨o, es, ep, e, d, r⟩ => ⟨o, es, ep, base_of e (noA e d), d, r⟩
    have hKb : K.In (hidT s₁.heap H) := fun b o e => base_of (KX b o e) (by
      cases q : H b with
      | none => rfl
      | some u =>
        rcases hA b (by rw [q]; simp) with z | z
        · rw [z] at q e
          rw [hK (by rw [q]; simp)] at e; cases e
        · rw [z, hKP] at e; cases e)
    have hBb : BMain mg (hidT s₁.heap H) := by
      obtain ⟨bm, ob, b1, b2, b3, b4, b5, b6⟩ := hBM
      refine ⟨bm, ob, b1, b2, base_of b3 ?_, b4, b5, b6⟩
      cases q : H bm with
      | none => rfl
      | some u =>
        rcases hA bm (by rw [q]; simp) with z | z
        · rw [z, ha] at b3; cases b3; cases b6
        · rw [z, hT] at b3; cases b3; cases b4
    have hM : Mod K mg (hidT s₁.heap H) := ⟨hKb, nsK hns, ⟨mb, nsK hb, hbb⟩, let ⟨mc, h1, h2⟩ := hlim; ⟨mc, nsK h1, h2⟩⟩
    have e0 : Env0 P w K mg (hidT s₁.heap H) callerA [] s₁ H := ⟨rfl, hM, fun b o e => of_hidT e, Nat.le_of_eq (hidT_size _ _), trivial, fun b hb => absurd (show b ∈ ([] : List Addr) from hb) (by simp), hok, .of_eq hg⟩
    refine codeAny_mono ((F _ hKb (nsK hns) hBb).run callerA [] s₁ H ⟨[.ref a], []⟩ [.ref a] [.ref a] _ _ hr e0 (hbind s₁ (.ref a)) (.cons rfl .nil) (hsp H hPt hS)) fun r s' h => ?_
    cases r with
    | error e => exact False.elim h
    | ok fl =>
      cases fl with
      | next => exact False.elim h
      | brk => exact False.elim h
      | cont => exact False.elim h
      | ret u =>
        obtain ⟨v, H', os, bare, un, hok', r', q⟩ := h
        have q' : v = .bl true := q
        subst q'
        obtain rfl : u = Value.bool true := r'
        have old : ∀ b o, b ≠ Pt → s₁.heap.get? b = some o → s'.heap.get? b = some o := fun b o hb e => by
          cases q : H b with
          | none => exact un.keep b o e q (by intro z; exact absurd (show b ∈ ([] : List Addr) from z) (by simp)) (by simp)
          | some u =>
            rcases hO b hb with z | ⟨ob, xs, z⟩
            · rw [q] at z; cases z
            · have z2 := un.frzs b ob _ z
              obtain ⟨e1, _⟩ := hok b _ z
              obtain ⟨e2, _⟩ := hok' b _ z2
              rw [e] at e1; cases e1
              exact e2
        obtain ⟨more, ht⟩ := un.tbls Pt #[] hPt
        have gt : s'.heap.get? Pt = some (tabObj (#[] ++ more)) := (show ObjOk P w H' s'.heap Pt (.tbl _) from hok' Pt _ ht)
        refine ⟨rfl, ⟨fun b o e => ?_, fun b o e => ?_⟩, os, bare⟩
        · by_cases z : b = Pt
          · subst z
            rw [hT] at e
            cases e
            exact .inr (.inl ⟨((codeHd_of_K KX hcH).tab hT).isCodeTable, rfl, #[], more, rfl, gt⟩)
          · exact .inl (old b o z e)
        · by_cases z : b = Pt
          · rw [z]; exact ⟨_, gt⟩
          · exact ⟨o, old b o z e⟩
  have tb : ∀ H : Hp, H Pt = some (.tbl #[]) → ObjOk P w H s₁.heap Pt (.tbl #[]) := fun H _ => hT
  cases hk : K.lookup a with
  | some o =>
    have e := KX a o hk
    rw [ha] at e
    cases e
    refine core (fun b => if b = Pt then some (.tbl #[]) else none) (if_pos rfl) (fun b hb => .inl (if_neg hb)) (.inr ⟨_, vs.toArray, _, hk, rfl, rfl, rfl, by rw [List.size_toArray, lenV]; exact hl, by simpa using rv⟩) (fun b u z => ?_) (fun b z => ?_) fun z => absurd (if_neg neP) z
    · by_cases y : b = Pt
      · have z' := (if_pos y).symm.trans z
        cases z'
        rw [y]; exact hT
      · have z' := (if_neg y).symm.trans z
        cases z'
    · by_cases y : b = Pt
      · exact .inr y
      · exact absurd (if_neg y) z
  | none =>
    let H0 : Hp := fun b => if b = Pt then some (.tbl #[]) else if b = a then some (.frz { cls := .type "list", data := .seq vs.toArray } (.lst (ns.map V.int))) else none
    have h1 : H0 Pt = some (.tbl #[]) := if_pos rfl
    have h2 : H0 a = some (.frz { cls := .type "list", data := .seq vs.toArray } (.lst (ns.map V.int))) := (if_neg neP).trans (if_pos rfl)
    have h3 : ∀ b, b ≠ Pt → b ≠ a → H0 b = none := fun b x y => (if_neg x).trans (if_neg y)
    refine core H0 h1 (fun b hb => ?_) (.inl (.inr ⟨_, h2⟩)) (fun b u z => ?_) (fun b z => ?_) fun _ => hk
    · by_cases y : b = a
      · rw [y]; exact .inr ⟨_, _, h2⟩
      · exact .inl (h3 b hb y)
    · by_cases y : b = Pt
      · subst y
        rw [h1] at z
        cases z
        exact hT
      · by_cases y2 : b = a
        · subst y2
          rw [h2] at z
          cases z
          exact ⟨ha, by rw [List.length_map]; exact hl, vs, _, rv, ha⟩
        · rw [h3 b y y2] at z; cases z
    · by_cases y : b = Pt
      · exact .inr y
      · by_cases y2 : b = a
        · exact .inl y2
        · exact absurd (h3 b y y2) z
theorem walk_ofT {l : PySem.W.OpenLaw} {n k : Nat} {q : Program} {loose : List Str} {XP : (Str → Option Value) → Heap → Prop} {YP : World → Heap → Prop} {d : DefRec} {K : Params → PySem.W.Frag} {sp : World → Sp} {x : Str} {Pt : Addr}
    (hn : l.most = some n) (hn2 : n ≤ sizeLine) (hdf : d.params.defaults = []) (hr : Room k callerA)
    (hY : ∀ (w : World) (h : Heap), YP w h → (K w.params).In h ∧ h.get? Pt = some (tabObj #[])) (hKP : ∀ w : World, (K w.params).lookup Pt = none)
    (F : ∀ (w : World) (mg : Str → Option Value) (fa : Addr) (h : Heap), (K w.params).In h → h.Ns mainGlobals mg → mg d.name = some (.ref fa) →
      (∃ c, codeHdIn (K w.params) c Pt = true) ∧ ∃ fd : FuncData, (∀ (s : Shared) (u : Value), BindsTo s fd ⟨[u], []⟩ [(x, u)]) ∧
        ∀ base : Heap, (K w.params).In base → base.Ns mainGlobals mg → BMain mg base → FnOk l.prog w (K w.params) mg base CX0 k fa fd [x] (sp w))
    (hsp : ∀ (w : World) (H : Hp) (a : Addr) (ns : List Int), ns.length ≤ n → H Pt = some (.tbl #[]) → SqL (K w.params) H a (ns.map V.int) → sp w [.ref a] H (fun v _ => v = .bl true) fun _ _ _ => False) :
    PySem.W.WalkO q loose XP YP l.row.toRowW d [] (fun f vs => PySem.call f vs) := by
  refine Att.attach_call hn hdf fun w s₀ s₁ mg mb fa o pm cd doc a vs ns G Y ho hd hcd hmg hobj hints hlen hg => ?_
  obtain ⟨KX, hT⟩ := hY w _ Y
  obtain ⟨⟨c, hcH⟩, fd, hb, hF⟩ := F w mg fa _ KX G.T.g hmg
  exact law_callT KX G.T.g G.T.b G.T.builtins G.T.nolimit hg hT (hKP w) hcH hobj hints (Nat.le_trans hlen hn2) hr G.T.bmain hF hb (fun H hO hS => hsp w H a ns hlen hO hS)
end L2
namespace L2
open PySem PySem.Spec PyProof.Rows
section
variable {κ : Type} [DecidableEq κ]
def valV (kvs : List (κ × V)) (k : κ) : Option V := (kvs.find? fun kv => decide (kv.1 = k)).map (·.2)
def putK (kvs : List (κ × V)) (k : κ) (v : V) : List (κ × V) :=
  if (kvs.any fun kv => decide (kv.1 = k)) = true then kvs.map (fun kv => if kv.1 = k then (kv.1, v) else kv) else kvs ++ [(k, v)]
def dropK (kvs : List (κ × V)) (k : κ) : List (κ × V) := kvs.filter fun kv => decide (kv.1 ≠ k)
theorem valV_pos {p : κ × V} {r : List (κ × V)} {k : κ} (e : p.1 = k) : valV (p :: r) k = some p.2 := by simp [valV, List.find?_cons, e]
theorem valV_neg {p : κ × V} {r : List (κ × V)} {k : κ} (e : ¬ p.1 = k) : valV (p :: r) k = valV r k := by simp [valV, List.find?_cons, e]
theorem valV_any (k : κ) : ∀ kvs : List (κ × V), (kvs.any fun kv => decide (kv.1 = k)) = (valV kvs k).isSome
  | [] => rfl
  | p :: r => by
    rw [List.any_cons]
    by_cases e : p.1 = k
    · simp only [valV_pos e, decide_eq_true e, Bool.true_or, Option.isSome_some]
    · rw [valV_neg e, decide_eq_false e, Bool.false_or]; exact valV_any k r
theorem RelO.isSome_eq {o : Option V} {u : Option Value} (r : RelO o u) : o.isSome = u.isSome := by
  cases o with
  | none => cases u with
    | none => rfl
    | some _ => exact (show False from r).elim
  | some _ => cases u with
    | none => exact (show False from r).elim
    | some _ => rfl
theorem RelO.getD {o : Option V} {u : Option Value} {d : V} {d' : Value} (r : RelO o u) (rd : RelV d d') : RelV (o.getD d) (u.getD d') := by
  cases o with
  | none => cases u with
    | none => exact rd
    | some _ => exact (show False from r).elim
  | some _ => cases u with
    | none => exact (show False from r).elim
    | some _ => exact r
theorem KV.val {kvs : List (κ × V)} {vs : List (κ × Value)} (r : KV kvs vs) (k : κ) : RelO (valV kvs k) (valueAt vs k) := by
  unfold KV at r
  induction r with
  | nil => exact True.intro
  | @cons p q ps qs h t ih =>
    obtain ⟨h1, h2⟩ := h
    by_cases e : p.1 = k
    · have e' : q.1 = k := h1.symm.trans e
      have b : valueAt (q :: qs) k = some q.2 := by simp [valueAt, List.find?_cons, e']
      rw [valV_pos e, b]; exact h2
    · have e' : ¬ q.1 = k := fun z => e (h1.trans z)
      have b : valueAt (q :: qs) k = valueAt qs k := by simp [valueAt, List.find?_cons, e']
      rw [valV_neg e, b]; exact ih
theorem KV.any {kvs : List (κ × V)} {vs : List (κ × Value)} (r : KV kvs vs) (k : κ) : (kvs.any fun kv => decide (kv.1 = k)) = vs.any fun kv => decide (kv.1 = k) := by
  unfold KV at r
  induction r with
  | nil => rfl
  | cons h t ih => rw [List.any_cons, List.any_cons, ih, h.1]
theorem KV.repl {kvs : List (κ × V)} {vs : List (κ × Value)} (r : KV kvs vs) (k : κ) {y : V} {u : Value} (ry : RelV y u) :
    KV (kvs.map fun kv => if kv.1 = k then (kv.1, y) else kv) (vs.map fun kv => if kv.1 = k then (kv.1, u) else kv) := by
  unfold KV at r ⊢
  induction r with
  | nil => exact .nil
  | @cons p q ps qs h t ih =>
    rw [List.map_cons, List.map_cons]
    refine .cons ?_ ih
    obtain ⟨h1, h2⟩ := h
    by_cases e : p.1 = k
    · rw [if_pos e, if_pos (h1.symm.trans e)]; exact ⟨h1, ry⟩
    · rw [if_neg e, if_neg (fun z => e (h1.trans z))]; exact ⟨h1, h2⟩
theorem KV.put {kvs : List (κ × V)} {vs : List (κ × Value)} (r : KV kvs vs) (k : κ) {y : V} {u : Value} (ry : RelV y u) : KV (putK kvs k y) (stored vs k u) := by
  unfold putK stored
  rw [r.any k]
  by_cases e : (vs.any fun kv => decide (kv.1 = k)) = true
  · rw [if_pos e, if_pos e]; exact r.repl k ry
  · rw [if_neg e, if_neg e]; exact Paired.snoc r ⟨rfl, ry⟩
theorem KV.drop {kvs : List (κ × V)} {vs : List (κ × Value)} (r : KV kvs vs) (k : κ) : KV (dropK kvs k) (without vs k) := by
  unfold KV at r ⊢
  unfold dropK without
  induction r with
  | nil => exact .nil
  | @cons p q ps qs h t ih =>
    obtain ⟨h1, h2⟩ := h
    rw [List.filter_cons, List.filter_cons]
    by_cases e : p.1 = k
    · have a : ¬ decide (p.1 ≠ k) = true := by simp [e]
      have b : ¬ decide (q.1 ≠ k) = true := by simp [h1.symm.trans e]
      rw [if_neg a, if_neg b]; exact ih
    · have e' : ¬ q.1 = k := fun z => e (h1.trans z)
      have a : decide (p.1 ≠ k) = true := by simp [e]
      have b : decide (q.1 ≠ k) = true := by simp [e']
      rw [if_pos a, if_pos b]; exact .cons ⟨h1, h2⟩ ih
theorem KV.keys {kvs : List (κ × V)} {vs : List (κ × Value)} (r : KV kvs vs) : kvs.map (·.1) = vs.map (·.1) := by
  unfold KV at r
  induction r with
  | nil => rfl
  | cons h t ih => rw [List.map_cons, List.map_cons, ih, h.1]
theorem KV.length {kvs : List (κ × V)} {vs : List (κ × Value)} (r : KV kvs vs) : kvs.length = vs.length := Paired.length r
end
abbrev KT (H : Hp) : List (List Key × V) → List (List Key × Addr × Value) → Prop := Paired fun p q => p.1 = q.1 ∧ H q.2.1 = some (.tup (p.1.map kV)) ∧ RelV p.2 q.2.2
theorem KT.val {H : Hp} {kvs : List (List Key × V)} {xs : List (List Key × Addr × Value)} (r : KT H kvs xs) (k : List Key) : RelO (valV kvs k) ((atKey xs k).map (·.2)) := by
  induction r with
  | nil => exact True.intro
  | @cons p q ps qs h t ih =>
    obtain ⟨h1, _, h2⟩ := h
    by_cases e : p.1 = k
    · have e' : q.1 = k := h1.symm.trans e
      have b : atKey (q :: qs) k = some q.2 := by simp [atKey, List.find?_cons, e']
      rw [valV_pos e, b]; exact h2
    · have e' : ¬ q.1 = k := fun z => e (h1.trans z)
      have b : atKey (q :: qs) k = atKey qs k := by simp [atKey, List.find?_cons, e']
      rw [valV_neg e, b]; exact ih
theorem KT.repl {H : Hp} {kvs : List (List Key × V)} {xs : List (List Key × Addr × Value)} (r : KT H kvs xs) (k : List Key) {y : V} {u : Value} (ry : RelV y u) :
    KT H (kvs.map fun kv => if kv.1 = k then (kv.1, y) else kv) (xs.map (putAt k u)) := by
  induction r with
  | nil => exact .nil
  | @cons p q ps qs h t ih =>
    rw [List.map_cons, List.map_cons]
    refine .cons ?_ ih
    obtain ⟨h1, h2, h3⟩ := h
    unfold putAt
    by_cases e : p.1 = k
    · rw [if_pos e, if_pos (h1.symm.trans e)]; exact ⟨h1, h2, ry⟩
    · rw [if_neg e, if_neg (fun z => e (h1.trans z))]; exact ⟨h1, h2, h3⟩
theorem KT.put {H : Hp} {kvs : List (List Key × V)} {xs : List (List Key × Addr × Value)} (r : KT H kvs xs) (k : List Key) {b : Addr} {y : V} {u : Value} (hb : H b = some (.tup (k.map kV))) (ry : RelV y u) :
    KT H (putK kvs k y) (storedH xs k b u) := by
  have e : (kvs.any fun kv => decide (kv.1 = k)) = (atKey xs k).isSome := by
    rw [valV_any, (r.val k).isSome_eq, Option.isSome_map]
  unfold putK storedH
  rw [e]
  by_cases q : (atKey xs k).isSome = true
  · rw [if_pos q, if_pos q]; exact r.repl k ry
  · rw [if_neg q, if_neg q]; exact Paired.snoc r ⟨rfl, hb, ry⟩
theorem KT.keeps {H H' : Hp} {kvs : List (List Key × V)} {xs : List (List Key × Addr × Value)} (r : KT H kvs xs) (ht : ∀ b ys, H b = some (.tup ys) → H' b = some (.tup ys)) : KT H' kvs xs :=
  Paired.mapP r fun _ _ z => ⟨z.1, ht _ _ z.2.1, z.2.2⟩
section
variable {P : Program} {w : World} {H : Hp} {h : Heap} {a : Addr}
end
def DGet (H : Hp) (a : Addr) (y : V) (r : Option V) : Prop :=
  (∃ kvs k, Rd H a (.dK kvs) ∧ y = kV k ∧ r = valV kvs k) ∨ ∃ kvs k b, Rd H a (.dT kvs) ∧ y = .ref b ∧ H b = some (.tup (k.map kV)) ∧ r = valV kvs k
def DPut (H : Hp) (a : Addr) (y v : V) (H' : Hp) : Prop :=
  (∃ kvs k, H a = some (.dK kvs) ∧ y = kV k ∧ kvs.length < sizeLine ∧ H' = upd H a (.dK (putK kvs k v))) ∨
  ∃ kvs k b, H a = some (.dT kvs) ∧ y = .ref b ∧ H b = some (.tup (k.map kV)) ∧ kvs.length < sizeLine ∧ H' = upd H a (.dT (putK kvs k v))
theorem DGet.k {H : Hp} {a : Addr} {kvs : List (Key × V)} {k : Key} (e : H a = some (.dK kvs)) : DGet H a (kV k) (valV kvs k) := .inl ⟨kvs, k, .inl e, rfl, rfl⟩
theorem DGet.t {H : Hp} {a b : Addr} {kvs : List (List Key × V)} {k : List Key} (e : H a = some (.dT kvs)) (eb : H b = some (.tup (k.map kV))) : DGet H a (.ref b) (valV kvs k) := .inr ⟨kvs, k, b, .inl e, rfl, eb, rfl⟩
theorem DPut.k {H : Hp} {a : Addr} {kvs : List (Key × V)} {k : Key} {v : V} (e : H a = some (.dK kvs)) (hl : kvs.length < sizeLine) : DPut H a (kV k) v (upd H a (.dK (putK kvs k v))) := .inl ⟨kvs, k, e, rfl, hl, rfl⟩
theorem DPut.t {H : Hp} {a b : Addr} {kvs : List (List Key × V)} {k : List Key} {v : V} (e : H a = some (.dT kvs)) (eb : H b = some (.tup (k.map kV))) (hl : kvs.length < sizeLine) :
    DPut H a (.ref b) v (upd H a (.dT (putK kvs k v))) := .inr ⟨kvs, k, b, e, rfl, eb, hl, rfl⟩
section
variable {X : Cx} {pins : List (Addr × Obj)} {σ : St} {H : Hp} {s : Shared} {a : Addr} {y v : V} {u r : Value} {o : Option V} {A : Around} {E : Value → Shared → Prop}
end
section
variable {X : Cx} {pins : List (Addr × Obj)} {σ : St} {H : Hp} {s : Shared} {a : Addr} {kvs : List (Key × V)} {k : Key} {u : Value} {A : Around} {E : Value → Shared → Prop}
end
section
variable {X : Cx} {o i e value : Expr} {pos pos' tpos : Pos} {td ty tv : TE}
end
section
variable {X : Cx} {pos : Pos}
end
structure M1 (X : Cx) (o : Expr) (m : Str) (apos : Pos) (e : Expr) (cpos : Pos) : Prop where
  base : attributeBase o m X.env (eval o X.env) = eval o X.env
  few : ((backTo cpos (starEach [e] X.env)).all (fun x => !x.1) && (backToKw cpos (keywordEach [] X.env)).all (fun x => x.1.isSome)
    && decide (([e] : List Expr).length + ([] : List Keyword).length + (if ([] : List Keyword).isEmpty then 0 else 1) < 30)) = true
  line : (apos.endLine == cpos.line) = true
  trees : backTo cpos (starEach [e] X.env) = [(false, eval e X.env)]
section
variable {X : Cx} {pins : List (Addr × Obj)} {σ : St} {H : Hp} {s : Shared} {a : Addr} {y d : V} {u r : Value} {o : Option V} {A : Around} {E : Value → Shared → Prop}
end
section
variable {X : Cx} {o e f : Expr} {apos cpos : Pos} {td ty tx : TE}
end
section
variable {X : Cx} {pins : List (Addr × Obj)} {σ : St} {H : Hp} {s : Shared} {a : Addr} {kvs : List (Key × V)} {A : Around} {E : Value → Shared → Prop}
end
section
variable {X : Cx} {pins : List (Addr × Obj)} {σ : St} {H : Hp} {s : Shared} {a : Addr} {y : V} {u : Value} {A : Around} {E : Value → Shared → Prop}
end
end L2
namespace L2
open PySem PySem.Spec PyProof.Rows
section
variable {κ : Type} [DecidableEq κ]
end
end L2
namespace KH
open PySem L2
def Ents (rows : List (List Int)) (p : Int) (H0 H : Hp) (ent : List (Int × V)) : Prop := ∀ e ∈ ent, ∃ (a : Addr) (l : List Int) (k : Nat), e.2 = .ref a ∧ H0 a = none ∧ H a = some (.lst (l.map V.int)) ∧ Dist rows p e.1 k ∧ Way rows p e.1 k l
def Off (b : Addr) (ent : List (Int × V)) : Prop := ∀ e ∈ ent, e.2 ≠ .ref b
theorem Ents.upd {rows : List (List Int)} {p : Int} {H0 H : Hp} {ent : List (Int × V)} (h : Ents rows p H0 H ent) {b : Addr} (o : HO) (hb : Off b ent) : Ents rows p H0 (upd H b o) ent := fun e he => by
  obtain ⟨a, l, k, e1, e2, e3, r⟩ := h e he
  refine ⟨a, l, k, e1, e2, ?_, r⟩
  rw [upd_ne (fun z => hb e he (by rw [e1, z]))]
  exact e3
theorem Ents.same {rows : List (List Int)} {p : Int} {H0 H H' : Hp} {ent : List (Int × V)} (h : Ents rows p H0 H ent) (s : Same H H') : Ents rows p H0 H' ent := fun e he => by
  obtain ⟨a, l, k, e1, e2, e3, r⟩ := h e he
  exact ⟨a, l, k, e1, e2, s _ _ e3, r⟩
theorem Ents.snoc {rows : List (List Int)} {p q : Int} {H0 H : Hp} {ent : List (Int × V)} (h : Ents rows p H0 H ent) {a : Addr} {l : List Int} {k : Nat} (h0 : H0 a = none) (ha : H a = some (.lst (l.map V.int))) (hd : Dist rows p q k) (hw : Way rows p q k l) :
    Ents rows p H0 H (ent ++ [(q, .ref a)]) := fun e he => by
  rcases List.mem_append.mp he with z | z
  · exact h e z
  · have : e = (q, .ref a) := by simpa using z
    subst this
    exact ⟨a, l, k, rfl, h0, ha, hd, hw⟩
theorem Off.snoc {b a : Addr} {q : Int} {ent : List (Int × V)} (h : Off b ent) (hne : a ≠ b) : Off b (ent ++ [(q, .ref a)]) := fun e he z => by
  rcases List.mem_append.mp he with y | y
  · exact h e y z
  · have : e = (q, .ref a) := by simpa using y
    subst this
    injection z with z
    exact hne z
end KH
namespace KH
open PySem L2
def fk (l : List Int) (f : List Nat) : List (Int × V) := l.zip (f.map fun (k : Nat) => V.int (k : Int))
end KH
namespace KH
open PySem L2
theorem sameT_upd {P b : Addr} {H H2 : Hp} (s : SameT P H H2) (hb : H b = none) (o : HO) : SameT P H (upd H2 b o) := fun c u n e => by
  rw [upd_ne (fun z => by rw [z, hb] at e; cases e)]; exact s c u n e
def NoTab (H : Hp) (b : Addr) : Prop := (∀ ps, H b ≠ some (.tbl ps)) ∧ ∀ φ, H b ≠ some (.ext φ)
theorem noTab_none {H : Hp} {b : Addr} (h : H b = none) : NoTab H b := ⟨fun ps z => (by rw [h] at z; cases z), fun φ z => (by rw [h] at z; cases z)⟩
theorem noTab_lst {H : Hp} {b : Addr} {xs : List V} (h : H b = some (.lst xs)) : NoTab H b := ⟨fun ps z => (by rw [h] at z; cases z), fun φ z => (by rw [h] at z; cases z)⟩
structure Tab (pos : Pos) (qual : Str) (P : Addr) (H : Hp) : Prop where
  ex : ∃ ps, H P = some (.tbl ps) ∧ TabOk pos qual ps H
theorem Tab.upd {pos : Pos} {qual : Str} {P b : Addr} {H : Hp} (t : Tab pos qual P H) (nb : NoTab H b) (o : HO) : Tab pos qual P (upd H b o) := by
  obtain ⟨ps, h, ok⟩ := t.ex
  refine ⟨ps, by rw [upd_ne (fun (z : P = b) => nb.1 ps (by rw [← z]; exact h))]; exact h, ?_⟩
  rcases ok with e | ⟨c, e, g⟩
  · exact .inl e
  · exact .inr ⟨c, e, by rw [upd_ne (fun (z : c = b) => nb.2 _ (by rw [← z]; exact g))]; exact g⟩
theorem Tab.same {pos : Pos} {qual : Str} {P : Addr} {H H' : Hp} (t : Tab pos qual P H) (s : Same H H') : Tab pos qual P H' := by
  obtain ⟨ps, h, ok⟩ := t.ex
  refine ⟨ps, s _ _ h, ?_⟩
  rcases ok with e | ⟨c, e, g⟩
  · exact .inl e
  · exact .inr ⟨c, e, s _ _ g⟩
theorem Tab.ne {pos : Pos} {qual : Str} {P b : Addr} {H : Hp} (t : Tab pos qual P H) (nb : NoTab H b) : b ≠ P := fun z => by
  obtain ⟨ps, h, _⟩ := t.ex
  exact nb.1 ps (by rw [z]; exact h)
theorem hallAt_sameT {P : Addr} {pos : Pos} {qual : Str} {H H' : Hp} {p : Addr} {as : List Addr} {rows : List (List Int)} (h : HallAt H p as rows) (t : Tab pos qual P H) (s : SameT P H H') : HallAt H' p as rows :=
  ⟨s _ _ (t.ne (noTab_lst h.top)) h.top, paired_imp h.row fun a r _ q => s _ _ (t.ne (noTab_lst q)) q, h.nd, h.ne⟩
theorem sq_sameT {K : PySem.W.Frag} {P : Addr} {pos : Pos} {qual : Str} {H H' : Hp} {a : Addr} {xs : List V} (h : SqL K H a xs) (t : Tab pos qual P H) (s : SameT P H H') : SqL K H' a xs := by
  obtain ⟨ps, hP, _⟩ := t.ex
  exact s.sq hP h
theorem hallAt_upd {H : Hp} {p b : Addr} {as : List Addr} {rows : List (List Int)} (h : HallAt H p as rows) (hb : b ≠ p ∧ b ∉ as) (o : HO) : HallAt (L2.upd H b o) p as rows :=
  ⟨by rw [upd_ne hb.1.symm]; exact h.top, paired_imp h.row fun a r ha q => by rw [upd_ne (fun (z : a = b) => hb.2 (z ▸ ha))]; exact q, h.nd, h.ne⟩
theorem hallAt_apart {H : Hp} {p b : Addr} {as : List Addr} {rows : List (List Int)} (h : HallAt H p as rows) (hb : H b = none) : b ≠ p ∧ b ∉ as := by
  refine ⟨(ne_of_none h.top hb).symm, fun hm => ?_⟩
  obtain ⟨i, hi, e⟩ := List.mem_iff_getElem.mp hm
  obtain ⟨r', _, q⟩ := paired_getA h.row (List.getElem?_eq_getElem hi)
  rw [e, hb] at q
  cases q
end KH
namespace L2
open PySem PySem.Spec PyProof.Rows
section
variable {X : Cx}
def rNeTwo (K : PySem.W.Frag) : R2 := fun x y H Q => ∃ (l m a b c d : Addr) (r1 r2 : List (List Int)), x = .ref l ∧ y = .ref m ∧ SqL K H l [.ref a, .ref b] ∧ SqL K H m [.ref c, .ref d] ∧ HallR K H a r1 ∧ HallR K H b r2 ∧ HallR K H c r1 ∧ HallR K H d r2 ∧ Q (.bl false) H
theorem op_ne_two (hu : X.A.units + 2 < cLine) : OpR X (compareOp .NotEq) (rNeTwo X.K) := by
  intro pins s σ H x y v u Q I rx ry h
  obtain ⟨l, m, a, b, c, d, r1, r2, rfl, rfl, hl, hm, ha, hb, hc, hd, q⟩ := h
  cases rx; cases ry
  obtain ⟨its, v1, p1, z1⟩ := I.list hl
  obtain ⟨its2, v2, p2, z2⟩ := I.list hm
  have u1 : X.A.in1.units ≤ X.A.units + 1 := by first | exact Nat.le_refl _ | simp [Around.in1]
  have u2 : X.A.in1.in1.units ≤ X.A.units + 2 := by first | exact Nat.le_refl _ | simp [Around.in1]
  obtain ⟨w0, e0, q0⟩ := v1.get (i := 0) (x := .ref a) rfl
  obtain ⟨w1, e1, q1⟩ := v1.get (i := 1) (x := .ref b) rfl
  obtain ⟨y0, g0, k0⟩ := v2.get (i := 0) (x := .ref c) rfl
  obtain ⟨y1, g1, k1⟩ := v2.get (i := 1) (x := .ref d) rfl
  cases q0; cases q1; cases k0; cases k1
  have i1 : its = [.ref a, .ref b] := by
    have := v1.length
    match its, this, e0, e1 with
    | [x, y], _, e0, e1 => simp at e0 e1; rw [e0, e1]
  have i2 : its2 = [.ref c, .ref d] := by
    have := v2.length
    match its2, this, g0, g1 with
    | [x, y], _, g0, g1 => simp at g0 g1; rw [g0, g1]
  subst i1 i2
  have eq : ∀ {x y : Addr} {r : List (List Int)}, HallR X.K H x r → HallR X.K H y r → SeqAt.EqAt X.A.in1 s (.ref x) (.ref y) true := fun {x y r} hx hy => by
    by_cases e : x = y
    · subst e; exact SeqAt.EqAt.same _
    · obtain ⟨as, sx, rx⟩ := hx
      obtain ⟨bs, sy, ry⟩ := hy
      have := eqAt_rows (A := X.A.in1) I sx sy rx ry (by omega) (by omega)
      rw [decide_eq_true rfl] at this
      exact SeqAt.EqAt.of_refs e this
  have q' := SeqAt.RcNeAt.lists (A := X.A) (e := fun _ => true) p1.isList p2.isList rfl (by omega) (fun j h1 h2 => by
    have : j = 0 ∨ j = 1 := by
      have : j < 2 := h1
      omega
    rcases this with rfl | rfl
    · exact eq ha hc
    · exact eq hb hd)
  exact q' X.prog X.w X.xe _ ⟨.bl _, H, I, rfl, q⟩
end
end L2
namespace KH
def among (rows : List (List Int)) (S : List Int) : Int → Int := fun y => ((S.filter fun z => decide (z ∈ R rows y)).length : Int)
theorem among_sum {rows : List (List Int)} (h : IsHall rows) : ∀ {S : List Int}, S.Nodup → (∀ x ∈ S, InR rows x) → sumF (among rows S) S = tri S.length
  | [], _, _ => rfl
  | x :: T, nd, hS => by
    rw [List.nodup_cons] at nd
    have ih := among_sum h (S := T) nd.2 fun y hy => hS y (by simp [hy])
    have hx := hS x (by simp)
    have self : x ∉ R rows x := fun m => (h.rng hx m).2 rfl
    rw [sumF_cons]
    have e1 : among rows (x :: T) x = ((T.filter fun z => decide (z ∈ R rows x)).length : Int) := by
      unfold among
      rw [List.filter_cons_of_neg (by simpa using self)]
    have e2 : sumF (among rows (x :: T)) T = sumF (among rows T) T + ((T.filter fun y => decide (x ∈ R rows y)).length : Int) := by
      have gen : ∀ U : List Int, sumF (among rows (x :: T)) U = sumF (among rows T) U + ((U.filter fun y => decide (x ∈ R rows y)).length : Int) := by
        intro U
        induction U with
        | nil => rfl
        | cons y U ih =>
          rw [sumF_cons, sumF_cons, ih]
          have : among rows (x :: T) y = among rows T y + (if x ∈ R rows y then 1 else 0) := by
            unfold among
            by_cases c : x ∈ R rows y
            · rw [List.filter_cons_of_pos (by simpa using c), if_pos c, List.length_cons]; omega
            · rw [List.filter_cons_of_neg (by simpa using c), if_neg c]; omega
          rw [this]
          by_cases c : x ∈ R rows y
          · rw [if_pos c, List.filter_cons_of_pos (by simpa using c), List.length_cons]; omega
          · rw [if_neg c, List.filter_cons_of_neg (by simpa using c)]; omega
      exact gen T
    have e3 : (T.filter fun z => decide (z ∈ R rows x)).length + (T.filter fun y => decide (x ∈ R rows y)).length = T.length := by
      have := len_split (fun z => decide (z ∈ R rows x)) T
      have e : (T.filter fun z => !decide (z ∈ R rows x)) = T.filter fun y => decide (x ∈ R rows y) := by
        refine List.filter_congr fun y hy => ?_
        have hy' := hS y (by simp [hy])
        have ne : x ≠ y := fun z => nd.1 (z ▸ hy)
        have o := h.other hx hy' ne
        by_cases c : y ∈ R rows x
        · rw [decide_eq_true c, decide_eq_false (fun m => o.mp m c)]; rfl
        · rw [decide_eq_false c, decide_eq_true (o.mpr c)]; rfl
      rw [e] at this
      omega
    rw [e1, e2, ih, List.length_cons]
    have t1 := tri_add T.length 1
    have : tri 1 = 0 := by decide
    rw [t1, this]
    simp only [Int.natCast_one, Int.mul_one]
    omega
theorem among_le {rows : List (List Int)} (h : IsHall rows) {S : List Int} (nd : S.Nodup) {y : Int} (hy : InR rows y) : among rows S y ≤ ((R rows y).length : Int) := by
  unfold among
  have := len_le_of_sub (S := S.filter fun z => decide (z ∈ R rows y)) (T := R rows y) (nd.filter _) fun x hx => by simpa using (List.mem_filter.mp hx).2
  omega
theorem among_all {rows : List (List Int)} (h : IsHall rows) {y : Int} (hy : InR rows y) : among rows (nums rows.length) y = ((R rows y).length : Int) := by
  have a := among_le h (nums_nodup rows.length) hy
  have b := len_le_of_sub (S := R rows y) (T := (nums rows.length).filter fun z => decide (z ∈ R rows y)) (R_nodup h hy) fun x hx => by
    rw [List.mem_filter]
    exact ⟨mem_nums.mpr (h.rng hy hx).1, by simpa using hx⟩
  unfold among at *
  omega
theorem sumF_le {m m' : Int → Int} : ∀ {T : List Int}, (∀ x ∈ T, m x ≤ m' x) → sumF m T ≤ sumF m' T
  | [], _ => Int.le_refl 0
  | x :: T, h => by
    rw [sumF_cons, sumF_cons]
    have := h x (by simp)
    have := sumF_le (T := T) fun y hy => h y (by simp [hy])
    omega
def wnF (rows : List (List Int)) : Int → Int := fun x => ((R rows x).length : Int)
theorem wnF_map (rows : List (List Int)) : (nums rows.length).map (wnF rows) = rows.map fun r => (r.length : Int) := by
  unfold nums wnF
  rw [List.map_map]
  refine List.ext_getElem (by simp) fun i h1 h2 => ?_
  rw [List.length_map] at h2
  rw [List.getElem_map, List.getElem_map, List.getElem_range]
  show ((R rows (i : Int)).length : Int) = _
  rw [R_nat']
  unfold rowAt
  rw [getD_of_lt h2]
theorem by_values {f : Int → Int} : ∀ {ms D : List Int}, ms.Perm (D.map f) → ∃ ord : List Int, ord.Perm D ∧ ord.map f = ms
  | [], D, h => by
    have : D.map f = [] := h.symm.eq_nil
    have : D = [] := List.map_eq_nil_iff.mp this
    subst this
    exact ⟨[], .refl _, rfl⟩
  | m :: ms, D, h => by
    have hm : m ∈ D.map f := h.mem_iff.mp (by simp)
    obtain ⟨x, hx, e⟩ := List.mem_map.mp hm
    have p1 := List.perm_cons_erase hx
    have p2 : (m :: ms).Perm (m :: (D.erase x).map f) := h.trans (by have := p1.map f; rw [List.map_cons, e] at this; exact this)
    obtain ⟨ord, o1, o2⟩ := by_values (List.Perm.cons_inv p2)
    exact ⟨x :: ord, (List.Perm.cons x o1).trans p1.symm, by rw [List.map_cons, e, o2]⟩
theorem hall_sums {rows : List (List Int)} (h : IsHall rows) : SumsOk (rows.map fun r => (r.length : Int)) := by
  have inr : ∀ x ∈ nums rows.length, InR rows x := fun x hx => mem_nums.mp hx
  refine ⟨by rw [List.length_map]; exact h.lo, by rw [List.length_map]; exact h.hi, ?_, fun ms hp hs k k1 k2 => ?_⟩
  · rw [← wnF_map, List.length_map, nums_length]
    have e := among_sum h (nums_nodup rows.length) inr
    rw [nums_length, sumF_congr (m' := wnF rows) fun x hx => among_all h (inr x hx)] at e
    exact e
  · rw [← wnF_map] at hp
    obtain ⟨ord, o1, o2⟩ := by_values hp
    rw [← o2, ← List.map_take]
    rw [List.length_map] at k2
    have nd : (ord.take k).Nodup := (o1.nodup_iff.mpr (nums_nodup _)).sublist (List.take_sublist _ _)
    have ir : ∀ x ∈ ord.take k, InR rows x := fun x hx => inr x (o1.mem_iff.mp (List.mem_of_mem_take hx))
    have a := among_sum h nd ir
    have b := sumF_le (m := among rows (ord.take k)) (m' := wnF rows) (T := ord.take k) fun x hx => among_le h nd (ir x hx)
    have l : (ord.take k).length = k := by rw [List.length_take, o1.length_eq, nums_length]; omega
    rw [l] at a
    unfold sumF at *
    omega
theorem like_of {rows orows : List (List Int)} (h1 : IsHall rows) (h2 : IsHall orows) (e : (rows.map fun r => (r.length : Int)) = orows.map fun r => (r.length : Int)) : Like rows orows := by
  have len : rows.length = orows.length := by have := congrArg List.length e; simpa using this
  refine ⟨h1, h2, len, fun x hx => ?_⟩
  obtain ⟨x0, x1⟩ := hx
  obtain ⟨i, rfl⟩ : ∃ i : Nat, x = (i : Int) := ⟨x.toNat, by omega⟩
  have hi : i < rows.length := by omega
  have := congrArg (fun l => l[i]?) e
  simp only [List.getElem?_map, List.getElem?_eq_getElem hi, List.getElem?_eq_getElem (show i < orows.length by omega), Option.map_some] at this
  rw [R_nat', R_nat']
  unfold rowAt
  rw [getD_of_lt hi, getD_of_lt (show i < orows.length by omega)]
  have := Option.some.inj this
  omega
theorem like_refl {rows : List (List Int)} (h : IsHall rows) : Like rows rows := ⟨h, h, rfl, fun _ _ => rfl⟩
theorem like_turn {rows r r' : List (List Int)} {a b c : Int} (L : Like rows r) (ra : InR r a) (rb : InR r b) (rc : InR r c) (T3 : Three r a b c) (h : TurnedBy r r' a b c) : Like rows r' :=
  (Leads.like (Leads.cons ra rb rc T3 h (.nil _)) L.symm).symm
def conR (rows : List (List Int)) (i : Nat) : List Int := (nums rows.length).filter fun x => decide (x ≠ (i : Int) ∧ x ∉ rowAt rows i)
def conTo (rows : List (List Int)) (i : Nat) : List (List Int) := (List.range i).map (conR rows)
theorem conTo_succ (rows : List (List Int)) (i : Nat) : conTo rows (i + 1) = conTo rows i ++ [conR rows i] := by unfold conTo; rw [List.range_succ, List.map_append]; rfl
theorem conTo_row {rows : List (List Int)} {n i : Nat} (h : i < n) : rowAt (conTo rows n) i = conR rows i := by
  unfold rowAt conTo
  rw [getD_of_lt (by simpa using h)]
  simp
theorem nums_rising (n : Nat) : (nums n).Pairwise (· < ·) := by
  unfold nums
  rw [List.pairwise_map]
  exact List.pairwise_lt_range.imp fun h => by omega
theorem con_hall {rows : List (List Int)} (h : IsHall rows) : IsHall (conTo rows rows.length) := by
  have len : (conTo rows rows.length).length = rows.length := by unfold conTo; simp
  refine ⟨by rw [len]; exact h.lo, by rw [len]; exact h.hi, fun i hi => ?_, fun i j hji hi => ?_⟩
  · rw [len] at hi
    rw [conTo_row hi, len]
    unfold conR
    refine ⟨(nums_rising _).sublist List.filter_sublist, fun x hx => ?_⟩
    obtain ⟨x1, x2⟩ := List.mem_filter.mp hx
    have := mem_nums.mp x1
    exact ⟨this.1, this.2, (of_decide_eq_true x2).1⟩
  · rw [len] at hi
    rw [conTo_row hi, conTo_row (by omega)]
    unfold conR
    rw [List.mem_filter, List.mem_filter, decide_eq_true_iff, decide_eq_true_iff]
    have o := h.one i j hji hi
    have m1 : (j : Int) ∈ nums rows.length := mem_nums.mpr ⟨by omega, by omega⟩
    have m2 : (i : Int) ∈ nums rows.length := mem_nums.mpr ⟨by omega, by omega⟩
    constructor
    · rintro ⟨_, _, c⟩ ⟨_, _, d⟩
      exact c (o.mpr d)
    · intro n
      refine ⟨m1, by omega, fun c => n ⟨m2, by omega, o.mp c⟩⟩
end KH
namespace L2
open PySem PySem.Spec PyProof.Rows PySem.W
section
variable {prog : Program} {w : World} {A : Around} {E : Value → Shared → Prop} {s : Shared}
def CollEnd2 (s : Shared) (lo : Int) (n : Nat) : Result → Shared → Prop := fun rr s' => ∃ h' tk acc c', rr = .ok (.ret (.ref s.heap.objs.size)) ∧ s' = { s with heap := h', toks := tk } ∧ (∀ b o, s.heap.get? b = some o → h'.get? b = some o) ∧
  h'.get? s.heap.objs.size = some { cls := .type "list", dict := none, data := .seq acc c', slots := #[] } ∧ ItemsOf (fun (i : Nat) v => ∃ t, v = Value.int (lo + (i : Int) * 1) t) acc n
theorem collect_rng2 {r : Addr} {t u v : Tok} {lo : Int} {n : Nat} {Q : List Value → Shared → Prop} (hh : A.handled = none) (hr : IsRange s.heap r lo (lo + (n : Int)) 1 t u v) (hlo : 0 ≤ lo) (hlo2 : lo ≤ 1000) (hn : n ≤ 1000)
    (q : ∀ h' tk acc, (∀ b o, s.heap.get? b = some o → h'.get? b = some o) → s.heap.objs.size < h'.objs.size → ItemsOf (fun i v => ∃ t, v = .int (lo + i * 1) t) acc n → Q acc.toList { s with heap := h', toks := tk }) : wpAny (model prog w) A (collect (.ref r)) Q E s := by
  have e2 : Builtin.Range.rangeSize lo (lo + (n : Int)) 1 = (n : Nat) := by rw [rangeSize_one]; split <;> omega
  have hS : (s.heap.push (seqObj "list" #[] 0)).get? s.heap.objs.size = some { cls := .type "list", data := .seq #[] } := Heap.get?_push_size _ rfl
  unfold collect
  refine wpAny_bind (wpAny_runValue (codeAny_mono (R := CollEnd2 s lo n) (codeAny_builtin entry_proto_collect' ?_) ?_))
  · show wpAny _ _ (do again (.builtin "list.__iadd__" ⟨[← newList [], .ref r], []⟩)) _ _ s
    refine wpAny_bind (wpAny_newList (wpAny_pure ⟨plainId_quiet plain_iadd _, codeAny_builtin entry_list_iadd' ?_⟩))
    rw [Around.under_plainId plain_iadd _]
    show wpAny _ _ (Builtin.List.listExtendWith (.ref s.heap.objs.size) (.ref r) (.ref s.heap.objs.size)) _ _ { s with heap := s.heap.push (seqObj "list" #[] 0) }
    refine wpAny_extend_range (R := CollEnd2 s lo n) (s := { s with heap := s.heap.push (seqObj "list" #[] 0) }) (n := n) hh (Heap.get?_push_of_some _ hr) (small_one (by omega) (by omega) (by omega) (by omega)) e2 (by omega) s.heap.objs.size _ 0 hS fun h' tk acc c' k1 g hI => ?_
    exact ⟨h', tk, acc, c', rfl, rfl, fun b o e => k1 b o (Nat.ne_of_lt (Heap.lt_size e)) (Heap.get?_push_of_some _ e), g, hI⟩
  · rintro rr s' ⟨h', tk, acc, c', rfl, rfl, k1, g, hI⟩
    refine wpAny_bind (wpAny_load g ?_)
    exact wpAny_pure (q h' tk acc k1 (Heap.lt_size g) hI)
end
section
variable {X : Cx} {pins : List (Addr × Obj)} {σ : St} {H : Hp} {s : Shared} {A : Around} {E : Value → Shared → Prop} {f r : Addr} {lo : Int} {n : Nat} {Q : Value → Shared → Prop}
theorem ints_of_items2 {acc : Array Value} (hI : ItemsOf (fun (i : Nat) v => ∃ t, v = Value.int (lo + (i : Int) * 1) t) acc n) : IntsAre acc.toList ((List.range n).map fun (i : Nat) => lo + (i : Int)) := by
  have key : ∀ (l : List Value) (k : Nat), (∀ j x, l[j]? = some x → ∃ t, x = Value.int (lo + ((k + j : Nat) : Int)) t) → IntsAre l ((List.range' k l.length).map fun (i : Nat) => lo + (i : Int)) := by
    intro l
    induction l with
    | nil => intro k _; exact .nil
    | cons x r ih =>
      intro k hk
      obtain ⟨t, e⟩ := hk 0 x rfl
      rw [List.length_cons, List.range'_succ, List.map_cons, e]
      refine .cons _ t (ih (k + 1) fun j y hj => ?_)
      obtain ⟨t', e'⟩ := hk (j + 1) y (by simpa using hj)
      exact ⟨t', by rw [e']; congr 1; omega⟩
  have z := key acc.toList 0 fun j x hj => by
    obtain ⟨t, e⟩ := hI.2 j x (by simpa using hj)
    exact ⟨t, by rw [e, Int.mul_one, Nat.zero_add]⟩
  rw [Array.length_toList, show acc.size = n from hI.1, ← List.range_eq_range'] at z
  exact z
theorem sorted_rng2 (key : Int → Int) (I : Inv X pins σ H s) (hh : A.handled = none) (hr : H r = some (.rng lo (lo + (n : Int)))) (hlo : 0 ≤ lo) (hlo2 : lo ≤ 1000) (hn : n < 64)
    (turn : ∀ (s1 : Shared) (i : Int) (t : Tok), lo ≤ i → i < lo + n → Inv X pins σ H s1 → (∀ b o, H b = none → b ∉ frs X.stack → s.heap.get? b = some o → s1.heap.get? b = some o) →
      wpAny (model X.prog X.w) A.in1.in1 (call (.ref f) [.int i t]) (fun v s2 => (∃ t', v = .int (key i) t') ∧ Inv X pins σ H s2 ∧ ∀ b o, s1.heap.get? b = some o → H b = none → b ∉ frs X.stack → s2.heap.get? b = some o) (fun _ _ => False) s1)
    (done : ∀ s' (l : Addr) (ord : List Int), H l = none → Inv X pins σ (upd H l (.lst (ord.map V.int))) s' → ord.Perm ((List.range n).map fun (i : Nat) => lo + (i : Int)) → ord.Pairwise (fun x y => key x ≤ key y) → Q (.ref l) s') :
    wpAny (model X.prog X.w) A (call (.builtin "sorted") [.ref r] [(Str.ofString "key", .ref f)]) Q E s := by
  obtain ⟨t, u, v, er⟩ := (show ObjOk X.prog X.w H s.heap r (.rng lo (lo + (n : Int))) from I.hok r _ hr)
  refine call_function_entry_kw kind_sorted plain_sorted entry_sorted (ksk_s1 _ _) ?_
  unfold Builtin.«sorted»
  refine wpAny_bind (m := checkCount "sorted" 1 1 _) (wpAny_pure ?_)
  refine wpAny_bind (collect_rng2 (A := A.in1) hh er hlo hlo2 (by omega) fun h1 tk acc k1 sz hI => ?_)
  have hi := ints_of_items2 hI
  have hl := hi.length
  rw [List.length_map, List.length_range] at hl
  refine wpAny_bind (wpAny_newList ?_ (by rw [sizeLine_eq]; omega))
  have k2 : ∀ b o, s.heap.get? b = some o → (h1.push (seqObj "list" acc.toList.toArray 0)).get? b = some o := fun b o e => Heap.get?_push_of_some _ (k1 b o e)
  have I2 : Inv X pins σ H { s with heap := h1.push (seqObj "list" acc.toList.toArray 0), toks := tk } := I.kept k2
  have ho : (h1.push (seqObj "list" acc.toList.toArray 0)).get? h1.objs.size = some (seqObj "list" acc.toList.toArray 0) := Heap.get?_push_size _ rfl
  have fa : FpOk X pins H h1.objs.size := I.fpOk (Nat.le_of_lt sz) (I.hok.fresh (Nat.le_of_lt sz))
  have nfa : h1.objs.size ∉ frs X.stack := fun hm => by
    rcases List.mem_cons.mp (I.stkSub _ hm) with e | e
    · exact fa.2.1 e
    · exact fa.2.2.1 e
  have ne : ∀ b o, s.heap.get? b = some o → b ≠ h1.objs.size := fun b o e => Nat.ne_of_lt (Nat.lt_trans (Heap.lt_size e) sz)
  show wpAny _ _ _ _ _ { s with heap := h1.push (seqObj "list" acc.toList.toArray 0), toks := tk }
  refine wpAny_bind (wpAny_holding (wpAny_call_entry_kw slot_list_sort ⟨_, ho, rfl⟩ entry_list_sort ?body (ksk_l1 _ _)))
  show wpAny (model X.prog X.w) A.in1.in1 (Builtin.«list.sort» ⟨[.ref h1.objs.size], [(Str.ofString "key", .ref f)]⟩) _ _ _
  rw [ksk_t1]
  refine sk_run key I2 fa nfa ho hi (by rw [List.length_map, List.length_range]; exact hn) (fun s1 i t' hm J kp => ?_) fun s' out ns' c J g a1 a2 a3 => ⟨_, rfl, ?_⟩
  · obtain ⟨j, hj, e⟩ := List.mem_map.mp hm
    have hj' := List.mem_range.mp hj
    exact turn s1 i t' (by omega) (by omega) J fun b o hb hf e0 => kp b o (ne b o e0) hb hf (k2 b o e0)
  · refine wpAny_pure ⟨_, rfl, done s' _ ns' fa.1 ?_ a2 a3⟩
    have z0 : X.s₀.heap.get? h1.objs.size = none := Heap.get?_none_of_le (Nat.le_trans I.sz (Nat.le_of_lt sz))
    have hl' : ns'.length = n := by rw [a2.length_eq, List.length_map, List.length_range]
    have oz := a1.length
    refine J.track fa z0 (show ObjOk X.prog X.w _ s'.heap _ (.lst (ns'.map V.int)) from ⟨?_, out.toList, c, vals_ints a1, ?_⟩)
    · rw [List.length_map, sizeLine_eq]; omega
    · rw [Array.toArray_toList]; exact g
end
def tSortK2 (ta : TE) (tb : TE) (caps : List (Option Nat)) (P : Addr) (pos : Pos) (qual : Str) : TE := fun σ H Q => ta σ H fun v H1 => ∃ (r : Addr) (lo : Int) (n : Nat) (key : Int → Int) (ps : Array Value), v = .ref r ∧ H1 r = some (.rng lo (lo + (n : Int))) ∧ 0 ≤ lo ∧ lo ≤ 1000 ∧ n < 64 ∧
  H1 P = some (.tbl ps) ∧ TabOk pos qual ps H1 ∧ (∀ (i : Int) (H2 : Hp), lo ≤ i → i < lo + n → SameT P H1 H2 → tb (startL caps σ (.int i)) H2 fun y H3 => H3 = H2 ∧ y = .int (key i)) ∧
  ∀ (l : Addr) (ord : List Int) (H2 : Hp) (ps2 : Array Value), SameT P H1 H2 → H2 P = some (.tbl ps2) → TabOk pos qual ps2 H2 → H2 l = none → ord.Perm ((List.range n).map fun (i : Nat) => lo + (i : Int)) → ord.Pairwise (fun x y => key x ≤ key y) → Q (.ref l) (upd H2 l (.lst (ord.map V.int)))
section
variable {X : Cx} {arg body : Expr} {ta tb : TE} {caps : List (Option Nat)} {P : Addr} {params : Arguments} {scope : Scope} {lpos kpos np pos : Pos} {N' : List Str} {p : Str}
theorem pe_sortK2 (hc : X.calm = true) (hroom : X.A.depth < recursionLimit) (T : TabF X.K X.mg X.base X.env.code P) (S : LScope X scope N' caps p) (hg : Gl X "sorted") (hm : X.mg "sorted" = none) (ha : PE X arg ta)
    (hb : ∀ (A : Around) (f c : Addr) (s : Shared) (H : Hp), PE (cxL X A scope N' (X.env.qual ++ "<lambda>") f (.ref c) s H) body tb)
    (hbind : ∀ (cl : List (Str × Addr)) (pm cd ctv u : Value), bindArgs (kla_fn "<lambda>" (X.env.qual ++ "<lambda>") params body scope cl pm cd ctv) ⟨[u], []⟩ = pure [(p, u)] := by intros; rfl) (hdf : defaultsOf params X.env = ([], []) := by rfl)
    (he : starEach [arg] X.env = [(false, eval arg X.env)] := by rfl) :
    PE X (.Call (.Name "sorted" np) [arg] [⟨some "key", .Lambda params body scope lpos, kpos⟩] pos) (tSortK2 ta tb caps P lpos (X.env.qual ++ "<lambda>")) := by
  intro pins s σ H Q I h
  refine wpAny_Call_Name_kw (ld_blt I hg hm (show bootBuiltins "sorted" = some (.builtin "sorted") by decide +kernel) ?_ (by decide) (by decide))
  have eb : backTo pos (starEach [arg] X.env) = [(false, eval arg X.env)] := by rw [he]; rfl
  refine PyProof.Rows.callWith_builtin_kwB (by rw [eb]; rfl) (by rfl) ?_
  rw [eb]
  refine PyProof.Rows.evalArgs_kwB (by rfl) ?_
  refine Calls.spliced_cons (thn (ha pins s σ H _ I h) fun u s1 ⟨x, H1, I1, r1, q1⟩ => Calls.spliced_nil ?_)
  obtain ⟨r, lo, n, key, ps, rfl, hr, hlo, hlo2, hn, hP, ok, hk, q⟩ := q1
  obtain rfl : u = Value.ref r := r1
  show wpAny _ _ (evalAll [do let v ← eval (.Lambda params body scope lpos) X.env; standAt pos; pure v]) _ _ s1
  refine wpAny_evalAll_cons (wpAny_bind (lam_made I1 T S hP ok hdf fun s2 f c ctv pm H2 ps2 I2 sm hP2 ok2 hf nf fr ho hcd => wpAny_bind (wpAny_standAt (wpAny_pure (wpAny_evalAll_nil ?_)))))
  have hd : X.A.handled = none := I.ok.hd hc
  have hr2 : H2 r = some (.rng lo (lo + (n : Int))) := sm r _ (fun z => by rw [z, hP] at hr; cases hr) hr
  show wpAny _ _ (call (.builtin "sorted") ([] ++ [Value.ref r]) [(Str.ofString "key", .ref f)]) _ _ s2
  refine sorted_rng2 key I2 hd hr2 hlo hlo2 hn (fun s3 i t h0 h1 J kp => ?_) fun s' l ord hl J pm so => ⟨.ref l, _, J, rfl, q l ord H2 ps2 sm hP2 ok2 hl pm so⟩
  have ho3 := kp f _ hf nf ho
  have rc : s3.heap.CodeRec (.ref c) (X.env.qual ++ "<lambda>") := (show ObjOk X.prog X.w H2 s3.heap c (CodeOb c _) from J.hok c _ hcd).1
  exact lam_call (A := X.A.in1.in1) (v := .int i) J S ⟨t, rfl⟩ I.ok.frames (fun _ => hd) hroom ho3 rc (hbind _ _ _ _ _) (fun s H => hb _ _ _ s H) (hk i H2 h0 h1 sm) fun s4 t4 J4 k4 => ⟨⟨t4, rfl⟩, J4, k4⟩
end
def rRange2 : List V → Hp → VK → Prop := fun xs H Q => ∃ i j : Int, xs = [.int i, .int j] ∧ ∀ p, H p = none → Q (.ref p) (upd H p (.rng i j))
theorem call_range2 {X : Cx} : CallR X (.type "range") rRange2 := by
  intro pins s σ H xs us Q I r h
  obtain ⟨i, j, rfl, q⟩ := h
  cases r with
  | cons r0 rr => cases rr with
    | cons r1 rr =>
      cases rr
      obtain ⟨t, rfl⟩ := r0
      obtain ⟨t2, rfl⟩ := r1
      exact call_range_2 ⟨.ref s.heap.objs.size, _, I.laid (fun b o e => Heap.get?_push_of_some _ e) (Nat.le_refl _) (show ObjOk X.prog X.w _ _ _ (.rng i j) from ⟨_, _, _, Heap.get?_push_size _ rfl⟩), rfl, q _ I.fresh⟩
end L2
namespace KH
open PySem L2
def top (i : Nat) : Stmt := PySem.Challenge.pw_kinghall_k15_whole_led_into_one_another.main.body.getD i (.Pass ⟨0, 0, 0, 0⟩)
abbrev s_is_hall : Stmt := top 8
abbrev s_is_beaten_list : Stmt := top 9
abbrev s_one_of_each_two_won : Stmt := top 10
abbrev s_need_hall : Stmt := top 11
abbrev s_is_player : Stmt := top 12
abbrev s_wins_of : Stmt := top 13
abbrev s_turned : Stmt := top 15
abbrev s_is_ring : Stmt := top 16
abbrev s_turnings : Stmt := top 17
abbrev s_ring_to_turn : Stmt := top 18
abbrev s_to_lose : Stmt := top 19
abbrev s_threes_for : Stmt := top 20
abbrev s_can_be : Stmt := top 22
abbrev s_meetings_of : Stmt := top 23
abbrev s_made : Stmt := top 24
abbrev s_by_rising : Stmt := top 25
abbrev s_law_cell : Stmt := top 27
abbrev s_law_whole : Stmt := top 28
abbrev s_law_next : Stmt := top 29
abbrev s_law_order : Stmt := top 30
abbrev s_law_first_wins : Stmt := top 31
abbrev s_law_hall : Stmt := top 32
abbrev s_law_copy : Stmt := top 33
abbrev s_law_good : Stmt := top 34
abbrev s_law_turn : Stmt := top 35
abbrev s_law_threes : Stmt := top 36
abbrev s_law_walked : Stmt := top 37
abbrev s_law_right : Stmt := top 38
abbrev s_law_contrary : Stmt := top 39
abbrev s_law : Stmt := top 40
def cell (ns : List Int) (k : Int) : Int := if k < ns.length then ns.getD k.toNat 0 else (ns.getD 0 0 % 65521 * 48271 + k * 30103) % 65521
def spCell (K : PySem.W.Frag) : Sp := fun vs H Q _ => ∃ (a : Addr) (ns : List Int) (k : Int), vs = [.ref a, .int k] ∧ SqL K H a (ns.map V.int) ∧ 0 ≤ k ∧ k ≤ 1000 ∧ Q (.int (cell ns k)) H
section
variable {P : Program} {w : World} {K : PySem.W.Frag} {mg : Str → Option Value} {base : Heap} {f : Addr} {fd : FuncData}
theorem sc_cell : FnScope ["script", "k", "base"] ["script", "k"] (defScope s_law_cell) := ⟨rfl, rfl, rfl, by decide +kernel, rfl, by decide +kernel, by decide +kernel⟩
theorem ok_cell (F : Fun K "_law_cell" "_law_cell" s_law_cell f fd) (z : Blt mg) : FnOk P w K mg base CX0 1 f fd ["script", "k"] (spCell K) := by
  refine F.ok sc_cell (fun vs H Q E h => ?_) (fun cdv A outer s H vs Q E hr h => ?_)
  · obtain ⟨a, ns, k, rfl, _⟩ := h
    rfl
  obtain ⟨a, ns, k, rfl, hS, h0, h1, q⟩ := h
  have nd := sc_cell.nd
  have hl : (ns.map V.int).length = ns.length := List.length_map _
  refine ⟨_, (pss_cons (ps_if (pt_cmpR op_lt (pv 1) (pe_callB call_len_seq rfl z.len (by decide +kernel) (pa_cons (pv 0) pa_nil)) (nomark _)) (pss_one (ps_ret (pe_ix ix_list (pv 0) (pv 1) (fun _ _ => rfl)))) pss_nil)
  (pss_cons (ps_set (i := 2) nd rfl (by first | exact Or.inl rfl | exact Or.inr rfl) pe_int)
  (pss_cons (ps_if (pt_cmpR op_gt (pe_callB call_len_seq rfl z.len (by decide +kernel) (pa_cons (pv 0) pa_nil)) pe_int (nomark _)) (pss_one (ps_set (i := 2) nd rfl (by first | exact Or.inl rfl | exact Or.inr rfl) (pe_ix ix_list (pv 0) pe_int (fun _ _ => rfl)))) pss_nil)
  (pss_one (ps_ret (pe_op op_mod (pe_op op_add (pe_op op_mul (pe_op op_mod (pv 2) pe_int) pe_int) (pe_op op_mul (pv 1) pe_int)) pe_int)))))), ?_⟩
  refine ⟨_, rfl, _, rfl, a, _, rfl, .inl hS, _, _, rfl, rfl, _, rfl, ?_⟩
  refine ite2 (fun c => ?_) (fun c => ?_)
  · have c' := of_decide_eq_true c
    rw [hl] at c'
    refine ⟨_, rfl, _, rfl, a, _, _, _, rfl, rfl, hS, at_int h0 c', ?_⟩
    show Q (.int (ns.getD k.toNat 0)) H
    unfold cell at q
    rw [if_pos c'] at q
    exact q
  · have c' : ¬ k < (ns.length : Int) := by
      have c' := of_decide_eq_false (Bool.eq_false_iff.mpr c)
      rw [hl] at c'
      exact c'
    unfold cell at q
    rw [if_neg c'] at q
    refine ⟨_, rfl, a, _, rfl, .inl hS, _, _, rfl, rfl, _, rfl, ?_⟩
    refine ite2 (fun d => ?_) (fun d => ?_)
    · have d' := of_decide_eq_true d
      rw [hl] at d'
      refine ⟨_, rfl, a, _, _, _, rfl, rfl, hS, at_int (Int.le_refl 0) d', ?_⟩
      refine ⟨_, rfl, _, _, rfl, rfl, (by show (0 : Int) < _; decide), _, _, rfl, rfl, .inr ⟨by decide, by decide⟩, _, rfl, _, _, rfl, rfl, .inr ⟨by decide, by decide⟩, _, _, rfl, rfl, _, _, rfl, rfl, (by show (0 : Int) < _; decide), ?_⟩
      exact q
    · have d' := of_decide_eq_false (Bool.eq_false_iff.mpr d)
      rw [hl] at d'
      have hn : ns = [] := by
        cases ns with
        | nil => rfl
        | cons x r => simp only [List.length_cons] at d'; omega
      subst hn
      refine ⟨_, rfl, _, _, rfl, rfl, (by show (0 : Int) < _; decide), _, _, rfl, rfl, .inr ⟨by decide, by decide⟩, _, rfl, _, _, rfl, rfl, .inr ⟨by decide, by decide⟩, _, _, rfl, rfl, _, _, rfl, rfl, (by show (0 : Int) < _; decide), ?_⟩
      exact q
end
end KH
namespace KH
open PySem L2
def nextI (s : Int) : Int := (s * 48271 + 11) % 2147483647
def spNext : Sp := fun vs H Q _ => ∃ s : Int, vs = [.int s] ∧ Q (.int (nextI s)) H
def spOrder (K : PySem.W.Frag) : Sp := fun vs H Q _ => ∃ (a : Addr) (ns : List Int) (k m : Int), vs = [.ref a, .int k, .int m] ∧ SqL K H a (ns.map V.int) ∧ 0 ≤ k ∧ k ≤ 1000 ∧ 0 ≤ m ∧ m ≤ 100 ∧
  ∀ (r : Addr) (H' : Hp) (ord : List Int), H r = none → Same H H' → H' r = some (.lst (ord.map V.int)) → ord.Perm (nums m.toNat) → Q (.ref r) H'
def spFirst : Sp := fun vs H Q _ => ∃ (w o t m s : Int), vs = [.int w, .int o, .int t, .int m, .int s] ∧ 0 < m ∧ ∀ b : Bool, Q (.bl b) H
section
variable {P : Program} {w : World} {K : PySem.W.Frag} {mg : Str → Option Value} {base : Heap} {f : Addr} {fd : FuncData}
theorem sc_next : FnScope ["step"] ["step"] (defScope s_law_next) := ⟨rfl, rfl, rfl, by decide +kernel, rfl, by decide +kernel, by decide +kernel⟩
theorem ok_next (F : Fun K "_law_next" "_law_next" s_law_next f fd) : FnOk P w K mg base CX0 1 f fd ["step"] spNext := by
  refine F.ok sc_next (fun vs H Q E h => ?_) (fun cdv A outer s H vs Q E hr h => ?_)
  · obtain ⟨s, rfl, _⟩ := h
    rfl
  obtain ⟨s, rfl, q⟩ := h
  refine ⟨_, (pss_one (ps_ret (pe_op op_mod (pe_op op_add (pe_op op_mul (pv 0) pe_int) pe_int) pe_int))), ?_⟩
  refine ⟨_, rfl, _, _, rfl, rfl, .inr ⟨by decide, by decide⟩, _, _, rfl, rfl, _, _, rfl, rfl, (by show (0 : Int) < _; decide), ?_⟩
  exact q
theorem sc_order : FnScope ["script", "k", "many", "step", "order", "player"] ["script", "k", "many"] (defScope s_law_order) := ⟨rfl, rfl, rfl, by decide +kernel, rfl, by decide +kernel, by decide +kernel⟩
theorem ok_order (F : Fun K "_law_order" "_law_order" s_law_order f fd) (z : Blt mg) (C_law_cell : Has P w K mg base 1 "_law_cell" ["script", "k"] (spCell K)) (C_law_next : Has P w K mg base 1 "_law_next" ["step"] spNext) :
    FnOk P w K mg base CX0 2 f fd ["script", "k", "many"] (spOrder K) := by
  refine F.ok sc_order (fun vs H Q E h => ?_) (fun cdv A outer s H vs Q E hr h => ?_)
  · obtain ⟨a, ns, k, m, rfl, _⟩ := h
    rfl
  obtain ⟨a, ns, k, m, rfl, hS, h0, h1, m0, m1, q⟩ := h
  have nd := sc_order.nd
  refine ⟨_, (pss_cons (ps_set (i := 3) nd rfl (by first | exact Or.inl rfl | exact Or.inr rfl) (pe_callH C_law_next (hr.mono (by decide)) rfl (pa_cons (pe_op op_add (pe_op op_mod (pe_op op_mul (pe_callH C_law_cell (hr.mono (by decide)) rfl (pa_cons (pv 0) (pa_cons (pv 1) pa_nil))) pe_int) pe_int) pe_int) pa_nil)))
  (pss_cons (ps_set (i := 4) nd rfl (by first | exact Or.inl rfl | exact Or.inr rfl) (pe_lst pa_nil))
  (pss_cons (ps_for PassesOwn.never rfl (pi_range1 rfl z.range (pa_cons (pv 2) pa_nil)) (pg_name (i := 5) nd rfl (by first | exact Or.inl rfl | exact Or.inr rfl)) (pss_cons (ps_set (i := 3) nd rfl (by first | exact Or.inl rfl | exact Or.inr rfl) (pe_callH C_law_next (hr.mono (by decide)) rfl (pa_cons (pv 3) pa_nil)))
  (pss_one (ps_expr (pe_bm PySem.F.plainAttrs_list PySem.F.slot_list_insert PySem.F.type_list_insert mt_insert (pv 4) (pa_cons (pe_op op_mod (pe_op op_fdiv (pv 3) pe_int) (pe_op op_add (pv 5) pe_int)) (pa_cons (pv 5) pa_nil)))))))
  (pss_one (ps_ret (pv 4)))))), ?_⟩
  refine ⟨_, rfl, _, rfl, a, ns, k, rfl, hS, h0, h1, ?_⟩
  refine ⟨_, _, rfl, rfl, .inr ⟨by decide, by decide⟩, _, _, rfl, rfl, (by show (0 : Int) < _; decide), _, _, rfl, rfl, _, rfl, ?_⟩
  refine ⟨(by decide), fun L hL => ?_⟩
  refine ⟨_, rfl, _, rfl, by omega, by omega, ?_⟩
  refine for_range (lo := 0) (n := m.toNat) (fun i σ H2 => ∃ (st : Int) (v : Option V) (ord : List Int), σ = [some (.ref a), some (.int k), some (.int m), some (.int st), some (.ref L), v] ∧ Same H H2 ∧ H2 L = some (.lst (ord.map V.int)) ∧ ord.Perm (nums i))
    ⟨_, none, [], rfl, same_new hL _, upd_same, by simp [nums]⟩ ?_ ?_
  · rintro i σ H2 hi ⟨st, v, ord, rfl, s2, hL2, hp⟩
    have hlen : ord.length = i := hp.length_eq.trans (nums_length i)
    refine ⟨_, rfl, _, rfl, ?_⟩
    have pos : (0 : Int) < 0 + (i : Int) + 1 := by omega
    have mlt := Int.emod_lt_of_pos (nextI st / 64) pos
    have mge := Int.emod_nonneg (nextI st / 64) (Int.ne_of_gt pos)
    refine ⟨_, rfl, .inl ⟨rfl, _, SqL.of hL2⟩, _, rfl, _, _, rfl, rfl, ⟨by decide, by decide⟩, _, rfl, _, _, rfl, rfl, _, _, rfl, rfl, pos, _, rfl, _, _, _, _, rfl, rfl, hL2, mge, ?_, ?_, ?_⟩
    · rw [List.length_map]; omega
    · rw [List.length_map]; exact smallL (by omega)
    · refine ⟨_, _, ord.take (nextI st / 64 % (0 + (i : Int) + 1)).toNat ++ (0 + (i : Int)) :: ord.drop (nextI st / 64 % (0 + (i : Int) + 1)).toNat, rfl, fun b o e => ?_, ?_, ?_⟩
      · rw [upd_ne (fun z => by rw [z, hL] at e; cases e)]; exact s2 b o e
      · rw [upd_same]; simp [List.map_take, List.map_drop]
      · have pp := perm_insert (x := 0 + (i : Int)) hp (nextI st / 64 % (0 + (i : Int) + 1)).toNat
        rw [nums_succ]
        rw [show nums i ++ [(i : Int)] = nums i ++ [0 + (i : Int)] by rw [Int.zero_add]]
        exact pp
  · rintro σ H2 ⟨st, v, ord, rfl, s2, hL2, hp⟩
    refine ⟨_, rfl, ?_⟩
    exact q L H2 ord hL s2 hL2 hp
end
end KH
namespace KH
open PySem L2
def spHall (K : PySem.W.Frag) : Sp := fun vs H Q _ => ∃ (a : Addr) (ns : List Int) (k m : Int), vs = [.ref a, .int k, .int m] ∧ SqL K H a (ns.map V.int) ∧ 0 ≤ k ∧ k ≤ 500 ∧ 1 ≤ m ∧ m ≤ 12 ∧
  ∀ (p : Addr) (as : List Addr) (rows : List (List Int)) (H' : Hp), NewHall H H' p as rows → IsHall rows → rows.length = m.toNat → Q (.ref p) H'
section
variable {P : Program} {w : World} {K : PySem.W.Frag} {mg : Str → Option Value} {base : Heap} {f : Addr} {fd : FuncData}
theorem sc_first : FnScope ["way", "one", "other", "many", "step", "far"] ["way", "one", "other", "many", "step"] (defScope s_law_first_wins) := ⟨rfl, rfl, rfl, by decide +kernel, rfl, by decide +kernel, by decide +kernel⟩
theorem ok_first (F : Fun K "_law_first_wins" "_law_first_wins" s_law_first_wins f fd) : FnOk P w K mg base CX0 1 f fd ["way", "one", "other", "many", "step"] spFirst := by
  refine F.ok sc_first (fun vs H Q E h => ?_) (fun cdv A outer s H vs Q E hr h => ?_)
  · obtain ⟨_, _, _, _, _, rfl, _⟩ := h
    rfl
  obtain ⟨way, one, other, m, st, rfl, hm, q⟩ := h
  have nd := sc_first.nd
  refine ⟨_, (pss_cons (ps_if (pt_cmpR op_eq (pv 0) pe_int (nomark _)) (pss_one (ps_ret (pe_cmpR op_eq (pe_cmpR op_lt (pv 1) (pv 2) (nomark _)) (pe_cmpR op_gt (pe_op op_mod (pe_op op_fdiv (pv 4) pe_int) pe_int) pe_int (nomark _)) (nomark _)))) pss_nil)
  (pss_cons (ps_if (pt_cmpR op_eq (pv 0) pe_int (nomark _)) (pss_cons (ps_set (i := 5) nd rfl (by first | exact Or.inl rfl | exact Or.inr rfl) (pe_op op_mod (pe_op op_sub (pv 2) (pv 1)) (pv 3)))
  (pss_one (ps_ret (pe_or (pe_cmpR op_lt (pe_op op_mul pe_int (pv 5)) (pv 3) (nomark _)) (pe_one (pe_and (pe_cmpR op_eq (pe_op op_mul pe_int (pv 5)) (pv 3) (nomark _)) (pe_one (pe_cmpR op_lt (pv 1) (pv 2) (nomark _))))))))) pss_nil)
  (pss_one (ps_ret (pe_cmpR op_eq (pe_op op_mod (pe_op op_fdiv (pv 4) pe_int) pe_int) pe_int (nomark _)))))), ?_⟩
  refine ⟨_, rfl, rfl, _, rfl, ?_⟩
  refine ite2 (fun _ => ?_) (fun _ => ?_)
  · exact ⟨_, rfl, _, rfl, _, _, rfl, rfl, _, rfl, _, _, rfl, rfl, ⟨by decide, by decide⟩, _, _, rfl, rfl, (by show (0 : Int) < _; decide), _, _, rfl, rfl, rfl, q _⟩
  refine ⟨_, rfl, rfl, _, rfl, ?_⟩
  refine ite2 (fun _ => ?_) (fun _ => ?_)
  · refine ⟨_, rfl, _, rfl, _, _, rfl, rfl, _, rfl, _, _, rfl, rfl, hm, ?_⟩
    refine ⟨_, rfl, _, _, rfl, rfl, .inl ⟨by decide, by decide⟩, _, rfl, _, _, rfl, rfl, _, rfl, ite2 (fun _ => q _) (fun _ => ?_)⟩
    exact ⟨_, rfl, _, _, rfl, rfl, .inl ⟨by decide, by decide⟩, _, rfl, rfl, _, rfl, ite2 (fun _ => ⟨_, rfl, _, rfl, _, _, rfl, rfl, q _⟩) (fun _ => q _)⟩
  · exact ⟨_, rfl, _, _, rfl, rfl, ⟨by decide, by decide⟩, _, _, rfl, rfl, (by show (0 : Int) < _; decide), rfl, q _⟩
theorem sc_hall : FnScope ["script", "k", "many", "way", "step", "order", "hall", "one", "other"] ["script", "k", "many"] (defScope s_law_hall) := ⟨rfl, rfl, rfl, by decide +kernel, rfl, by decide +kernel, by decide +kernel⟩
theorem ok_hall (F : Fun K "_law_hall" "_law_hall" s_law_hall f fd) (z : Blt mg) (C_law_cell : Has P w K mg base 1 "_law_cell" ["script", "k"] (spCell K)) (C_law_next : Has P w K mg base 1 "_law_next" ["step"] spNext)
    (C_law_order : Has P w K mg base 2 "_law_order" ["script", "k", "many"] (spOrder K)) (C_law_first_wins : Has P w K mg base 1 "_law_first_wins" ["way", "one", "other", "many", "step"] spFirst) :
    FnOk P w K mg base CX0 3 f fd ["script", "k", "many"] (spHall K) := by
  refine F.ok sc_hall (fun vs H Q E h => ?_) (fun cdv A outer s H vs Q E hr h => ?_)
  · obtain ⟨a, ns, k, m, rfl, _⟩ := h
    rfl
  obtain ⟨a, ns, k, m, rfl, hS, h0, h1, m1, m12, q⟩ := h
  have nd := sc_hall.nd
  refine ⟨_, (pss_cons (ps_set (i := 3) nd rfl (by first | exact Or.inl rfl | exact Or.inr rfl) (pe_op op_mod (pe_callH C_law_cell (hr.mono (by decide)) rfl (pa_cons (pv 0) (pa_cons (pv 1) pa_nil))) pe_int))
  (pss_cons (ps_set (i := 4) nd rfl (by first | exact Or.inl rfl | exact Or.inr rfl) (pe_callH C_law_next (hr.mono (by decide)) rfl (pa_cons (pe_op op_add (pe_op op_mod (pe_op op_mul (pe_callH C_law_cell (hr.mono (by decide)) rfl (pa_cons (pv 0) (pa_cons (pe_op op_add (pv 1) pe_int) pa_nil))) pe_int) pe_int) pe_int) pa_nil)))
  (pss_cons (ps_set (i := 5) nd rfl (by first | exact Or.inl rfl | exact Or.inr rfl) (pe_callH C_law_order (hr.mono (by decide)) rfl (pa_cons (pv 0) (pa_cons (pe_op op_add (pv 1) pe_int) (pa_cons (pv 2) pa_nil)))))
  (pss_cons (ps_setLC (i := 6) nd rfl (by first | exact Or.inl rfl | exact Or.inr rfl) rfl (cscope (N' := ["player"]) (caps := [none])) (pi_range1 rfl z.range (pa_cons (pv 2) pa_nil)) (fun s H fp => ⟨(pg_name (i := 0) (show (["player"] : List Str).Nodup by decide +kernel) rfl (by first | exact Or.inl rfl | exact Or.inr rfl)), pif_nil, (pe_lst pa_nil)⟩))
  (pss_cons (ps_for PassesOwn.never rfl (pi_range1 rfl z.range (pa_cons (pv 2) pa_nil)) (pg_name (i := 7) nd rfl (by first | exact Or.inl rfl | exact Or.inr rfl)) (pss_one (ps_for PassesOwn.never rfl (pi_range2 rfl z.range (pa_cons (pe_op op_add (pv 7) pe_int) (pa_cons (pv 2) pa_nil))) (pg_name (i := 8) nd rfl (by first | exact Or.inl rfl | exact Or.inr rfl)) (pss_cons (ps_set (i := 4) nd rfl (by first | exact Or.inl rfl | exact Or.inr rfl) (pe_callH C_law_next (hr.mono (by decide)) rfl (pa_cons (pv 4) pa_nil)))
  (pss_one (ps_if (pt_val (pe_callH C_law_first_wins (hr.mono (by decide)) rfl (pa_cons (pv 3) (pa_cons (pv 7) (pa_cons (pv 8) (pa_cons (pv 2) (pa_cons (pv 4) pa_nil))))))) (pss_one (ps_expr (pe_bm PySem.F.plainAttrs_list PySem.F.slot_list_append PySem.F.type_list_append mt_append (pe_ix ix_list (pv 6) (pe_ix ix_list (pv 5) (pv 7) (fun _ _ => rfl)) (fun _ _ => rfl)) (pa_cons (pe_ix ix_list (pv 5) (pv 8) (fun _ _ => rfl)) pa_nil)))) (pss_one (ps_expr (pe_bm PySem.F.plainAttrs_list PySem.F.slot_list_append PySem.F.type_list_append mt_append (pe_ix ix_list (pv 6) (pe_ix ix_list (pv 5) (pv 8) (fun _ _ => rfl)) (fun _ _ => rfl)) (pa_cons (pe_ix ix_list (pv 5) (pv 7) (fun _ _ => rfl)) pa_nil))))))))))
  (pss_one (ps_ret (pe_lc rfl (cscope (N' := ["row"]) (caps := [none])) (pi_list (pv 6)) (fun s H fp => ⟨(pg_name (i := 0) (show (["row"] : List Str).Nodup by decide +kernel) rfl (by first | exact Or.inl rfl | exact Or.inr rfl)), pif_nil, (pe_callB (call_sortedK (K := K) rfl) rfl z.sorted (by decide +kernel) (pa_cons (pv 0) pa_nil))⟩))))))))), ?_⟩
  -- way, step, order
  refine ⟨_, rfl, _, rfl, a, ns, k, rfl, hS, h0, by omega, _, _, rfl, rfl, (by show (0 : Int) < _; decide), ?_⟩
  refine ⟨_, rfl, _, rfl, _, _, rfl, rfl, a, ns, _, rfl, hS, by omega, by omega, _, _, rfl, rfl, .inr ⟨by decide, by decide⟩, _, _, rfl, rfl, (by show (0 : Int) < _; decide), _, _, rfl, rfl, _, rfl, ?_⟩
  refine ⟨_, rfl, _, rfl, _, _, rfl, rfl, _, rfl, a, ns, _, _, rfl, hS, by omega, by omega, by omega, by omega, fun r H1 ord hr1 s1 hr2 hp => ?_⟩
  have hn : ((m.toNat : Nat) : Int) = m := by omega
  have O := ord_of_perm hp
  -- hall = [[] for player in range(many)]
  refine ⟨_, rfl, _, rfl, by omega, by omega, ?_⟩
  refine lc_range (lo := 0) (n := m.toNat) (fun D i acc H2 => ∃ as, acc = as.map V.ref ∧ i ≤ m.toNat ∧ NewHall H1 H2 D as (List.replicate i [])) (fun D hD => ⟨[], rfl, Nat.zero_le _, NewHall.start hD⟩) ?_ ?_
  · rintro D i acc H2 hi ⟨as, rfl, _, N⟩
    have hl := N.at_.len
    rw [List.length_replicate] at hl
    refine ⟨CapKeep.set rfl, tt_intro ⟨(by decide), fun b hb => ⟨?_, ?_, ?_⟩⟩⟩
    · rw [upd_ne (ne_of_none N.at_.top hb)]; exact N.at_.top
    · rw [List.length_map]; exact smallL (by omega)
    · refine ⟨as ++ [b], by simp, hi, ?_⟩
      rw [List.replicate_succ']
      exact N.snoc' (r := []) (same_new hb _) upd_same hb
  rintro D acc H2 ⟨as, rfl, _, N⟩
  -- the wins
  refine ⟨_, rfl, _, rfl, by omega, by omega, ?_⟩
  refine for_range (lo := 0) (n := m.toNat) (fun i σ H3 => ∃ (st : Int) (wy : Int) (v1 v2 : Option V) (rows : List (List Int)), σ = [some (.ref a), some (.int k), some (.int m), some (.int wy), some (.int st), some (.ref r), some (.ref D), v1, v2] ∧ NewHall H1 H3 D as rows ∧ Drawn m.toNat ord rows i 0)
    ⟨_, _, none, none, _, rfl, N, drawn_start O⟩ ?_ ?_
  · rintro i σ H3 hi ⟨st, wy, v1, v2, rows, rfl, N3, D3⟩
    refine ⟨_, rfl, _, _, rfl, rfl, _, rfl, _, _, rfl, ⟨by omega, by omega, by omega, by omega⟩, ?_⟩
    refine for_range (lo := 0 + (i : Int) + 1) (n := (m - (0 + (i : Int) + 1)).toNat) (fun j σ H4 => ∃ (st : Int) (v2 : Option V) (rows : List (List Int)), σ = [some (.ref a), some (.int k), some (.int m), some (.int wy), some (.int st), some (.ref r), some (.ref D), some (.int (0 + (i : Int))), v2] ∧ NewHall H1 H4 D as rows ∧ Drawn m.toNat ord rows i (i + 1 + j))
      ⟨_, _, _, rfl, N3, D3.skip⟩ ?_ ?_
    · rintro j σ H4 hj ⟨st, v2, rows, rfl, N4, D4⟩
      have hjn : i + 1 + j < m.toNat := by omega
      refine ⟨_, rfl, _, rfl, ?_⟩
      refine ⟨_, rfl, _, rfl, _, rfl, _, rfl, _, rfl, _, _, _, _, _, rfl, by omega, fun b => ⟨_, rfl, ?_⟩⟩
      have hord : SqL K H4 r (ord.map V.int) := SqL.of (N4.same _ _ hr2)
      have ei : (0 + (i : Int)).toNat = i := by omega
      have ej : (0 + (i : Int) + 1 + (j : Int)).toNat = i + 1 + j := by omega
      have a1 : atI (ord.map V.int) (0 + (i : Int)) = some (.int (ord.getD i 0)) := by
        have := at_int (ns := ord) (k := 0 + (i : Int)) (by omega) (by rw [O.len]; omega)
        rw [ei] at this; exact this
      have a2 : atI (ord.map V.int) (0 + (i : Int) + 1 + (j : Int)) = some (.int (ord.getD (i + 1 + j) 0)) := by
        have := at_int (ns := ord) (k := 0 + (i : Int) + 1 + (j : Int)) (by omega) (by rw [O.len]; omega)
        rw [ej] at this; exact this
      have step : ∀ (u v : Int), ((u = ord.getD i 0 ∧ v = ord.getD (i + 1 + j) 0) ∨ (u = ord.getD (i + 1 + j) 0 ∧ v = ord.getD i 0)) →
          ∃ au, atI (as.map V.ref) u = some (.ref au) ∧ H4 au = some (.lst ((R rows u).map V.int)) ∧ (R rows u).length ≤ 12 ∧
            ∃ (st : Int) (v2 : Option V) (rows' : List (List Int)), NewHall H1 (upd H4 au (.lst ((R rows u).map V.int ++ [.int v]))) D as rows' ∧ Drawn m.toNat ord rows' i (i + 1 + (j + 1)) := fun u v huv => by
        have hu : 0 ≤ u ∧ u < (m.toNat : Int) := by
          rcases huv with ⟨e, _⟩ | ⟨e, _⟩ <;> rw [e]
          · exact O.rng i (by omega)
          · exact O.rng (i + 1 + j) hjn
        have hur : u.toNat < rows.length := by rw [D4.len]; omega
        obtain ⟨au, e1, e2⟩ := paired_get N4.at_.row (i := u.toNat) (b := R rows u) (by rw [List.getElem?_eq_getElem hur]; unfold R; rw [getD_of_lt hur])
        refine ⟨au, at_ref hu.1 e1, e2, ?_, st, v2, push rows u v, ?_, ?_⟩
        · have := D4.few u.toNat (by omega)
          unfold rowAt at this
          unfold R
          omega
        · have q := N4.put (r' := R rows u ++ [v]) e1
          rw [List.map_append] at q
          exact q
        · exact D4.win O (by omega) hjn huv
      refine ite2 (fun _ => ?_) (fun _ => ?_)
      · obtain ⟨au, e1, e2, e3, st', v2', rows', N5, D5⟩ := step _ _ (.inl ⟨rfl, rfl⟩)
        refine ⟨_, rfl, _, rfl, _, rfl, _, _, _, _, rfl, rfl, hord, a1, _, _, _, _, rfl, rfl, N4.at_.sq, e1, .inl ⟨rfl, _, SqL.of e2⟩, _, rfl, _, rfl, _, _, _, _, rfl, rfl, hord, a2, _, _, _, rfl, rfl, e2, ?_, ?_⟩
        · rw [List.length_map]; exact smallL (by omega)
        · exact ⟨_, _, rows', rfl, N5, D5⟩
      · obtain ⟨au, e1, e2, e3, st', v2', rows', N5, D5⟩ := step _ _ (.inr ⟨rfl, rfl⟩)
        refine ⟨_, rfl, _, rfl, _, rfl, _, _, _, _, rfl, rfl, hord, a2, _, _, _, _, rfl, rfl, N4.at_.sq, e1, .inl ⟨rfl, _, SqL.of e2⟩, _, rfl, _, rfl, _, _, _, _, rfl, rfl, hord, a1, _, _, _, rfl, rfl, e2, ?_, ?_⟩
        · rw [List.length_map]; exact smallL (by omega)
        · exact ⟨_, _, rows', rfl, N5, D5⟩
    · rintro σ H4 ⟨st, v2, rows, rfl, N4, D4⟩
      refine ⟨_, _, _, _, _, rfl, N4, ?_⟩
      have e : i + 1 + (m - (0 + (i : Int) + 1)).toNat = m.toNat := by omega
      rw [e] at D4
      exact D4.next
  rintro σ H3 ⟨st, wy, v1, v2, rows, rfl, N3, D3⟩
  have hlen : as.length = m.toNat := N3.at_.len.trans D3.len
  -- return [sorted(row) for row in hall]
  refine ⟨_, rfl, _, rfl, ⟨_, N3.at_.sq⟩, ?_⟩
  refine lc_list (K := K) (a := D) (xs := as.map V.ref) (fun E i acc H4 => ∃ (bs : List Addr) (rows' : List (List Int)), acc = bs.map V.ref ∧ NewHall H3 H4 E bs rows' ∧ rows'.length = i ∧ i ≤ m.toNat ∧
      ∀ j, j < i → (rowAt rows' j).Perm (rowAt rows j) ∧ (rowAt rows' j).Pairwise (· ≤ ·)) (fun E hE => ⟨[], [], rfl, NewHall.start hE, rfl, Nat.zero_le _, fun j hj => by omega⟩)
    (fun E i acc H4 _ ⟨_, _, _, N4, _⟩ => N4.same.seq N3.at_.sq) ?_ ?_
  · rintro E i x acc H4 hx ⟨bs, rows', rfl, N4, l4, hi4, s4⟩
    rw [List.getElem?_map] at hx
    cases ha : as[i]? with
    | none => rw [ha] at hx; cases hx
    | some au =>
      rw [ha] at hx
      have ex : x = .ref au := (Option.some.inj hx).symm
      subst ex
      have hi : i < as.length := (List.getElem?_eq_some_iff.mp ha).1
      obtain ⟨row, er, sr⟩ := paired_getA N3.at_.row ha
      have erow : rowAt rows i = row := by unfold rowAt; rw [List.getD_eq_getElem?_getD, er]; rfl
      have few := D3.few i (by omega)
      rw [erow] at few
      have hb4 := N4.at_.len
      refine ⟨CapKeep.set rfl, tt_intro ⟨_, rfl, au, row, rfl, N4.same.seq (SqL.of sr), by omega, fun L ns' hL hp' hs' => ⟨?_, ?_, ?_⟩⟩⟩
      · rw [upd_ne (ne_of_none N4.at_.top hL)]; exact N4.at_.top
      · rw [List.length_map]; exact smallL (by omega)
      · refine ⟨bs ++ [L], rows' ++ [ns'], by simp, N4.snoc' (same_new hL _) upd_same hL, by simp [l4], by omega, fun j hj => ?_⟩
        by_cases hji : j < i
        · have e : rowAt (rows' ++ [ns']) j = rowAt rows' j := by
            unfold rowAt
            rw [List.getD_eq_getElem?_getD, List.getElem?_append_left (by omega), ← List.getD_eq_getElem?_getD]
          rw [e]
          exact s4 j hji
        · have ej : j = i := by omega
          subst ej
          have e : rowAt (rows' ++ [ns']) j = ns' := by
            unfold rowAt
            rw [List.getD_eq_getElem?_getD, List.getElem?_append_right (by omega), l4]
            simp
          rw [e, erow]
          exact ⟨hp', hs'⟩
  · rintro E acc H4 ⟨bs, rows', rfl, N4, l4, hi4, s4⟩
    rw [List.length_map, hlen] at l4 s4
    exact q E bs rows' H4 (N4.base (s1.trans N3.same)) (D3.hall O (by omega) (by omega) l4 s4) l4
end
end KH
namespace KH
open PySem L2
def spBeaten (K : PySem.W.Frag) : Sp := fun vs H Q _ => ∃ (a : Addr) (row : List Int) (p m : Int), vs = [.ref a, .int p, .int m] ∧ SqL K H a (row.map V.int) ∧ Q (.bl (dec (BeatenOk row p m))) H
def RdHall (K : PySem.W.Frag) (H : Hp) (p : Addr) (rows : List (List Int)) : Prop := ∃ as : List Addr, SqL K H p (as.map V.ref) ∧ RowsAt K H as rows
theorem RdHall.same {K : PySem.W.Frag} {H H' : Hp} {p : Addr} {rows : List (List Int)} (h : RdHall K H p rows) (s : Same H H') : RdHall K H' p rows := by
  obtain ⟨as, a, b⟩ := h
  exact ⟨as, s.seq a, rows_same b s⟩
theorem HallAt.rd {K : PySem.W.Frag} {H : Hp} {p : Addr} {as : List Addr} {rows : List (List Int)} (h : HallAt H p as rows) : RdHall K H p rows := ⟨as, h.sq, h.rows⟩
def spOneEach (K : PySem.W.Frag) : Sp := fun vs H Q _ => ∃ (p : Addr) (rows : List (List Int)), vs = [.ref p] ∧ RdHall K H p rows ∧ rows.length ≤ 1000 ∧ Q (.bl (dec (OneEach rows))) H
def spIsHall (K : PySem.W.Frag) : Sp := fun vs H Q _ => ∃ (p : Addr) (rows : List (List Int)), vs = [.ref p] ∧ RdHall K H p rows ∧ rows.length ≤ 1000 ∧ ∀ H', Same H H' → Q (.bl (dec (IsHall rows))) H'
def spCopy (K : PySem.W.Frag) : Sp := fun vs H Q _ => ∃ (p : Addr) (rows : List (List Int)), vs = [.ref p] ∧ RdHall K H p rows ∧ rows.length ≤ 500 ∧
  ∀ (p' : Addr) (as' : List Addr) (H' : Hp), NewHall H H' p' as' rows → Q (.ref p') H'
theorem getElem_rowAt {rows : List (List Int)} {i : Nat} {r : List Int} (h : rows[i]? = some r) : rowAt rows i = r := by
  unfold rowAt; rw [List.getD_eq_getElem?_getD, h]; rfl
theorem map_ref_get {as : List Addr} {i : Nat} {x : V} (h : (as.map V.ref)[i]? = some x) : ∃ a, x = .ref a ∧ as[i]? = some a := by
  rw [List.getElem?_map] at h
  cases e : as[i]? with
  | none => rw [e] at h; cases h
  | some a => rw [e] at h; exact ⟨a, (Option.some.inj h).symm, rfl⟩
theorem map_int_get {ns : List Int} {i : Nat} {x : V} (h : (ns.map V.int)[i]? = some x) : ∃ a, x = .int a ∧ ns[i]? = some a := by
  rw [List.getElem?_map] at h
  cases e : ns[i]? with
  | none => rw [e] at h; cases h
  | some a => rw [e] at h; exact ⟨a, (Option.some.inj h).symm, rfl⟩
section
variable {P : Program} {w : World} {K : PySem.W.Frag} {mg : Str → Option Value} {base : Heap} {f : Addr} {fd : FuncData}
theorem copy_comp {H : Hp} {p : Addr} {as : List Addr} {rows : List (List Int)} {σ0 : St} {Q : VK} (hS : SqL K H p (as.map V.ref)) (hR : RowsAt K H as rows) (hz : rows.length ≤ 500) (h0 : σ0[0]? = some none)
    (q : ∀ (p' : Addr) (as' : List Addr) (H' : Hp), NewHall H H' p' as' rows → Q (.ref p') H') :
    LCw σ0 (gName 0) tTrue (tCB (fun xs H Q => ∃ p ys, xs = [.ref p] ∧ (SqL K H p ys ∨ SqT K H p ys) ∧ ∀ l, H l = none → Q (.ref l) (upd H l (.lst ys))) (tCons (tVar 0) tNil)) Q (Itl K p) H := by
  have hlen := hR.length
  refine lc_list (K := K) (a := p) (xs := as.map V.ref) (fun E i acc H4 => ∃ bs : List Addr, acc = bs.map V.ref ∧ NewHall H H4 E bs (rows.take i)) (fun E hE => ⟨[], rfl, NewHall.start hE⟩)
    (fun E i acc H4 _ ⟨_, _, N4⟩ => N4.same.seq hS) ?_ ?_
  · rintro E i x acc H4 hx ⟨bs, rfl, N4⟩
    obtain ⟨a, rfl, ha⟩ := map_ref_get hx
    obtain ⟨row, er, sr⟩ := RowsAt.getA hR ha
    have hi : i < rows.length := (List.getElem?_eq_some_iff.mp er).1
    have hb4 := N4.at_.len
    rw [List.length_take] at hb4
    have g0 : (σ0.set 0 (some (V.ref a)))[0]? = some (some (.ref a)) := List.getElem?_set_self (List.getElem?_eq_some_iff.mp h0).1
    refine ⟨CapKeep.set h0, tt_intro ⟨_, g0, a, _, rfl, .inl (N4.same.seq sr), fun L hL => ⟨?_, ?_, ?_⟩⟩⟩
    · rw [upd_ne (ne_of_none N4.at_.top hL)]; exact N4.at_.top
    · rw [List.length_map]; exact smallL (by omega)
    · refine ⟨bs ++ [L], by simp, ?_⟩
      rw [take_snoc er]
      exact N4.snoc' (same_new hL _) upd_same hL
  · rintro E acc H4 ⟨bs, rfl, N4⟩
    rw [List.length_map, hlen, List.take_length] at N4
    exact q E bs H4 N4
end
end KH
namespace KH
open PySem L2
section
variable {P : Program} {w : World} {K : PySem.W.Frag} {mg : Str → Option Value} {base : Heap} {f : Addr} {fd : FuncData}
theorem sc_beaten : FnScope ["beaten", "player", "many", "before", "other"] ["beaten", "player", "many"] (defScope s_is_beaten_list) := ⟨rfl, rfl, rfl, by decide +kernel, rfl, by decide +kernel, by decide +kernel⟩
theorem ok_beaten (F : Fun K "is_beaten_list" "is_beaten_list" s_is_beaten_list f fd) : FnOk P w K mg base CX0 1 f fd ["beaten", "player", "many"] (spBeaten K) := by
  refine F.ok sc_beaten (fun vs H Q E h => ?_) (fun cdv A outer s H vs Q E hr h => ?_)
  · obtain ⟨a, row, p, m, rfl, _⟩ := h
    rfl
  obtain ⟨a, row, p, m, rfl, hS, q⟩ := h
  have nd := sc_beaten.nd
  refine ⟨_, (pss_cons (ps_set (i := 3) nd rfl (by first | exact Or.inl rfl | exact Or.inr rfl) (pe_un un_neg pe_int))
  (pss_cons (ps_for PassesOwn.never rfl (pi_list (pv 0)) (pg_name (i := 4) nd rfl (by first | exact Or.inl rfl | exact Or.inr rfl)) (pss_cons (ps_if (PW.pt (pw_or (pt_cmpR op_le (pv 4) (pv 3) (nomark _)) (pw_or (pt_cmpR op_ge (pv 4) (pv 2) (nomark _)) (pw_or1 (pt_cmpR op_eq (pv 4) (pv 1) (nomark _)))))) (pss_one (ps_ret pe_bl)) pss_nil)
  (pss_one (ps_set (i := 3) nd rfl (by first | exact Or.inl rfl | exact Or.inr rfl) (pv 4)))))
  (pss_one (ps_ret pe_bl)))), ?_⟩
  refine ⟨_, rfl, ?_⟩
  refine ⟨_, rfl, _, rfl, ⟨_, hS⟩, ?_⟩
  refine for_list (K := K) (a := a) (xs := row.map V.int) (fun i σ H2 => ∃ v : Option V, H = H2 ∧ σ = [some (.ref a), some (.int p), some (.int m), some (.int (lastD (row.take i))), v] ∧ BeatenOk (row.take i) p m)
    ⟨none, rfl, rfl, beaten_nil p m⟩ (fun i σ H2 _ ⟨_, e, _⟩ => by rw [← e]; exact hS) ?_ ?_
  · rintro i x σ H2 hx ⟨v, rfl, rfl, B⟩
    obtain ⟨y, rfl, hy⟩ := map_int_get hx
    have no : ¬ (lastD (row.take i) < y ∧ y < m ∧ y ≠ p) → Q (.bl false) H := fun hno => by
      have : ¬ BeatenOk row p m := fun hB => hno (by
        have := beaten_take hB (i + 1)
        rw [take_snoc hy] at this
        exact (beaten_snoc.mp this).2)
      rw [dec_false this] at q
      exact q
    refine ⟨_, rfl, _, rfl, _, _, rfl, rfl, _, rfl, ?_⟩
    refine ite2 (fun c => iteT (no fun z => ?_)) (fun c => ?_)
    · have := of_decide_eq_true c; omega
    refine ⟨_, rfl, _, rfl, _, _, rfl, rfl, _, rfl, ?_⟩
    refine ite2 (fun c => iteT (no fun z => ?_)) (fun d => ?_)
    · have := of_decide_eq_true c; omega
    refine ⟨_, rfl, _, rfl, rfl, _, rfl, ?_⟩
    refine ite2 (fun c => no fun z => ?_) (fun e => ?_)
    · have := of_decide_eq_true c
      injection this with this
      exact z.2.2 this
    refine ⟨_, rfl, ?_⟩
    have c' := of_decide_eq_false (Bool.eq_false_iff.mpr c)
    have d' := of_decide_eq_false (Bool.eq_false_iff.mpr d)
    have e' := of_decide_eq_false (Bool.eq_false_iff.mpr e)
    refine ⟨some (.int y), rfl, ?_, ?_⟩
    · rw [take_snoc hy, lastD_snoc]; rfl
    · rw [take_snoc hy]
      exact beaten_snoc.mpr ⟨B, by omega, by omega, fun z => e' (by rw [z])⟩
  · rintro σ H2 ⟨v, rfl, rfl, B⟩
    rw [List.length_map, List.take_length] at B
    rw [dec_true B] at q
    exact q
theorem sc_oneeach : FnScope ["hall", "player", "other"] ["hall"] (defScope s_one_of_each_two_won) := ⟨rfl, rfl, rfl, by decide +kernel, rfl, by decide +kernel, by decide +kernel⟩
theorem ok_oneeach (F : Fun K "one_of_each_two_won" "one_of_each_two_won" s_one_of_each_two_won f fd) (z : Blt mg) : FnOk P w K mg base CX0 1 f fd ["hall"] (spOneEach K) := by
  refine F.ok sc_oneeach (fun vs H Q E h => ?_) (fun cdv A outer s H vs Q E hr h => ?_)
  · obtain ⟨p, rows, rfl, _⟩ := h
    rfl
  obtain ⟨p, rows, rfl, ⟨as, hS, hR⟩, hz, q⟩ := h
  have nd := sc_oneeach.nd
  have hl : (as.map V.ref).length = rows.length := by rw [List.length_map]; exact hR.length
  refine ⟨_, (pss_cons (ps_for PassesOwn.never rfl (pi_range1 rfl z.range (pa_cons (pe_callB call_len_seq rfl z.len (by decide +kernel) (pa_cons (pv 0) pa_nil)) pa_nil)) (pg_name (i := 1) nd rfl (by first | exact Or.inl rfl | exact Or.inr rfl)) (pss_one (ps_for PassesOwn.never rfl (pi_range1 rfl z.range (pa_cons (pv 1) pa_nil)) (pg_name (i := 2) nd rfl (by first | exact Or.inl rfl | exact Or.inr rfl)) (pss_one (ps_if (pt_cmpR op_eq (pe_cmpR op_in_seq (pv 2) (pe_ix ix_list (pv 0) (pv 1) (fun _ _ => rfl)) (by with_unfolding_all rfl)) (pe_cmpR op_in_seq (pv 1) (pe_ix ix_list (pv 0) (pv 2) (fun _ _ => rfl)) (by with_unfolding_all rfl)) (nomark _)) (pss_one (ps_ret pe_bl)) pss_nil)))))
  (pss_one (ps_ret pe_bl))), ?_⟩
  refine ⟨_, rfl, _, _, rfl, .inl hS, _, rfl, by omega, by omega, ?_⟩
  have hn : (((as.map V.ref).length : Nat) : Int).toNat = rows.length := by omega
  rw [hn]
  refine for_range (lo := 0) (n := rows.length) (fun i σ H2 => ∃ v1 v2 : Option V, H = H2 ∧ σ = [some (.ref p), v1, v2] ∧ ∀ i' j' : Nat, j' < i' → i' < i → (((j' : Int) ∈ rowAt rows i') ↔ ¬ ((i' : Int) ∈ rowAt rows j')))
    ⟨none, none, rfl, rfl, fun i' j' _ h => by omega⟩ ?_ ?_
  · rintro i σ H2 hi ⟨v1, v2, rfl, rfl, D⟩
    refine ⟨_, rfl, _, rfl, by omega, by omega, ?_⟩
    have hn : (0 + (i : Int)).toNat = i := by omega
    rw [hn]
    refine for_range (lo := 0) (n := i) (fun j σ H2 => ∃ v2 : Option V, H = H2 ∧ σ = [some (.ref p), some (.int (0 + (i : Int))), v2] ∧ ∀ j' : Nat, j' < j → (((j' : Int) ∈ rowAt rows i) ↔ ¬ ((i : Int) ∈ rowAt rows j')))
      ⟨_, rfl, rfl, fun j' h => by omega⟩ ?_ ?_
    · rintro j σ H2 hj ⟨v2, rfl, rfl, Dj⟩
      obtain ⟨a1, e1, _, s1⟩ := rows_at hR (k := 0 + (i : Int)) (by omega) (by omega)
      obtain ⟨a2, e2, _, s2⟩ := rows_at hR (k := 0 + (j : Int)) (by omega) (by omega)
      rw [show (0 + (i : Int)).toNat = i by omega] at s1
      rw [show (0 + (j : Int)).toNat = j by omega] at s2
      refine ⟨_, rfl, _, rfl, _, rfl, _, _, _, _, rfl, rfl, hS, e1, _, _, rfl, .inl s1, rfl, flat_ints _, _, rfl, _, rfl, _, rfl, _, _, _, _, rfl, rfl, hS, e2, _, _, rfl, .inl s2, rfl, flat_ints _, rfl, _, rfl, ?_⟩
      have key : (V.bl (if false = true then !inV (.int (0 + (j : Int))) ((rowAt rows i).map V.int) else inV (.int (0 + (j : Int))) ((rowAt rows i).map V.int)) = V.bl (if false = true then !inV (.int (0 + (i : Int))) ((rowAt rows j).map V.int) else inV (.int (0 + (i : Int))) ((rowAt rows j).map V.int))) ↔
          ¬ (((j : Int) ∈ rowAt rows i) ↔ ¬ ((i : Int) ∈ rowAt rows j)) := by
        simp only [Bool.false_eq_true, if_false, V.bl.injEq, inV_int, Int.zero_add, decide_eq_decide]
        by_cases h1 : (j : Int) ∈ rowAt rows i <;> by_cases h2 : (i : Int) ∈ rowAt rows j <;> simp [h1, h2]
      refine ite2 (fun c => ?_) (fun c => ?_)
      · have c' := key.mp (of_decide_eq_true c)
        have : ¬ OneEach rows := fun h => c' (h i j hj hi)
        rw [dec_false this] at q
        exact q
      · have c' := of_decide_eq_false (Bool.eq_false_iff.mpr c)
        have c2 : ((j : Int) ∈ rowAt rows i) ↔ ¬ ((i : Int) ∈ rowAt rows j) := Classical.byContradiction fun h => c' (key.mpr h)
        refine ⟨_, rfl, rfl, fun j' hj' => ?_⟩
        by_cases h : j' < j
        · exact Dj j' h
        · have : j' = j := by omega
          subst this; exact c2
    · rintro σ H2 ⟨v2, rfl, rfl, Dj⟩
      refine ⟨_, _, rfl, rfl, fun i' j' h1 h2 => ?_⟩
      by_cases h : i' < i
      · exact D i' j' h1 h
      · have : i' = i := by omega
        subst this; exact Dj j' h1
  · rintro σ H2 ⟨v1, v2, rfl, rfl, D⟩
    have : OneEach rows := fun i j h1 h2 => D i j h1 h2
    rw [dec_true this] at q
    exact q
theorem sc_ishall : FnScope ["hall", "many", "player", "beaten"] ["hall"] (defScope s_is_hall) := ⟨rfl, rfl, rfl, by decide +kernel, rfl, by decide +kernel, by decide +kernel⟩
theorem ok_ishall {tk : Tok} (F : Fun K "is_hall" "is_hall" s_is_hall f fd) (z : Blt mg) (g_MOST_PLAYERS : mg "MOST_PLAYERS" = some (.int 12 tk)) (C_is_beaten_list : Has P w K mg base 1 "is_beaten_list" ["beaten", "player", "many"] (spBeaten K))
    (C_one_of_each_two_won : Has P w K mg base 1 "one_of_each_two_won" ["hall"] (spOneEach K)) : FnOk P w K mg base CX0 2 f fd ["hall"] (spIsHall K) := by
  refine F.ok sc_ishall (fun vs H Q E h => ?_) (fun cdv A outer s H vs Q E hr h => ?_)
  · obtain ⟨p, rows, rfl, _⟩ := h
    rfl
  obtain ⟨p, rows, rfl, RH, hz, q⟩ := h
  obtain ⟨as, hS, hR⟩ := id RH
  have nd := sc_ishall.nd
  have hl : (as.map V.ref).length = rows.length := by rw [List.length_map]; exact hR.length
  refine ⟨_, (pss_cons (ps_set (i := 1) nd rfl (by first | exact Or.inl rfl | exact Or.inr rfl) (pe_callB call_len_seq rfl z.len (by decide +kernel) (pa_cons (pv 0) pa_nil)))
  (pss_cons (ps_if (PW.pt (pw_or (pt_cmpR op_lt (pv 1) pe_int (nomark _)) (pw_or1 (pt_cmpR op_gt (pv 1) (pe_glob (v := .int 12) rfl g_MOST_PLAYERS ⟨_, rfl⟩) (nomark _))))) (pss_one (ps_ret pe_bl)) pss_nil)
  (pss_cons (ps_for PassesOwn.never rfl (pi_enum rfl z.enumerate (pa_cons (pv 0) pa_nil)) (pg_tup rfl (pgs_cons (pg_name (i := 2) nd rfl (by first | exact Or.inl rfl | exact Or.inr rfl)) (pgs_cons (pg_name (i := 3) nd rfl (by first | exact Or.inl rfl | exact Or.inr rfl)) pgs_nil))) (pss_one (ps_if (pt_not (pt_val (pe_callH C_is_beaten_list (hr.mono (by decide)) rfl (pa_cons (pv 3) (pa_cons (pv 2) (pa_cons (pv 1) pa_nil)))))) (pss_one (ps_ret pe_bl)) pss_nil)))
  (pss_one (ps_ret (pe_callH C_one_of_each_two_won (hr.mono (by decide)) rfl (pa_cons (pv 0) pa_nil))))))), ?_⟩
  refine ⟨_, rfl, _, _, rfl, .inl hS, ?_⟩
  rw [hl]
  refine ⟨_, rfl, _, _, rfl, rfl, _, rfl, ?_⟩
  have nohall : ∀ H', Same H H' → ¬ IsHall rows → Q (.bl false) H' := fun H' s h => by
    have := q H' s
    rw [dec_false h] at this
    exact this
  refine ite2 (fun c => iteT (nohall H (Same.refl H) fun h => ?_)) (fun c => ?_)
  · have := of_decide_eq_true c; have := h.lo; omega
  refine ⟨_, rfl, _, _, rfl, rfl, _, rfl, ?_⟩
  refine ite2 (fun d => nohall H (Same.refl H) fun h => ?_) (fun d => ?_)
  · have := of_decide_eq_true d; have := h.hi; omega
  have c' := of_decide_eq_false (Bool.eq_false_iff.mpr c)
  have d' := of_decide_eq_false (Bool.eq_false_iff.mpr d)
  refine ⟨_, rfl, _, rfl, ⟨_, hS⟩, ?_⟩
  refine for_enum (K := K) (a := p) (xs := as.map V.ref) (fun i σ H2 => ∃ v1 v2 : Option V, σ = [some (.ref p), some (.int rows.length), v1, v2] ∧ Same H H2 ∧ ∀ j, j < i → BeatenOk (rowAt rows j) j rows.length)
    ⟨none, none, rfl, Same.refl H, fun j hj => by omega⟩ (fun i σ H2 _ ⟨_, _, _, s2, _⟩ => s2.seq hS) ?_ ?_
  · rintro i x t σ H2 hx ⟨v1, v2, rfl, s2, B⟩ ht
    obtain ⟨a, rfl, ha⟩ := map_ref_get hx
    obtain ⟨row, er, sr⟩ := RowsAt.getA hR ha
    have erow := getElem_rowAt er
    have hi : i < rows.length := (List.getElem?_eq_some_iff.mp er).1
    have s3 : Same H (upd H2 t (.tup [.int i, .ref a])) := s2.trans (same_new ht _)
    refine ⟨t, _, rfl, SqT.of upd_same, rfl, _, _, rfl, _, _, rfl, rfl, ?_⟩
    refine ⟨_, rfl, _, rfl, _, rfl, a, row, _, _, rfl, s3.seq sr, _, rfl, ?_⟩
    by_cases hb : BeatenOk row i rows.length
    · rw [dec_true hb]
      refine iteF ⟨_, _, rfl, s3, fun j hj => ?_⟩
      by_cases h : j < i
      · exact B j h
      · have : j = i := by omega
        subst this; rw [erow]; exact hb
    · rw [dec_false hb]
      refine iteT (nohall _ s3 fun h => hb ?_)
      have := h.beat i hi
      rw [erow] at this
      exact this
  · rintro σ H2 ⟨v1, v2, rfl, s2, B⟩
    rw [hl] at B
    refine ⟨_, rfl, p, rows, rfl, RH.same s2, hz, ?_⟩
    have := q H2 s2
    have e : dec (IsHall rows) = dec (OneEach rows) := dec_iff ⟨fun h => h.one, fun h => ⟨by omega, by omega, B, h⟩⟩
    rw [e] at this
    exact this
end
end KH
namespace KH
open PySem L2
section
variable {P : Program} {w : World} {K : PySem.W.Frag} {mg : Str → Option Value} {base : Heap} {f : Addr} {fd : FuncData}
theorem sc_copy : FnScope ["hall"] ["hall"] (defScope s_law_copy) := ⟨rfl, rfl, rfl, by decide +kernel, rfl, by decide +kernel, by decide +kernel⟩
theorem ok_copy (F : Fun K "_law_copy" "_law_copy" s_law_copy f fd) (z : Blt mg) : FnOk P w K mg base CX0 1 f fd ["hall"] (spCopy K) := by
  refine F.ok sc_copy (fun vs H Q E h => ?_) (fun cdv A outer s H vs Q E hr h => ?_)
  · obtain ⟨p, rows, rfl, _⟩ := h
    rfl
  obtain ⟨p, rows, rfl, ⟨as, hS, hR⟩, hz, q⟩ := h
  refine ⟨_, (pss_one (ps_ret (pe_lc rfl (cscope (N' := ["row"]) (caps := [none])) (pi_list (pv 0)) (fun s H fp => ⟨(pg_name (i := 0) (show (["row"] : List Str).Nodup by decide +kernel) rfl (by first | exact Or.inl rfl | exact Or.inr rfl)), pif_nil, (pe_callTy (call_list_ofK (K := K) rfl) rfl z.list (by decide +kernel) (pa_cons (pv 0) pa_nil))⟩)))), ?_⟩
  exact ⟨_, rfl, _, rfl, ⟨_, hS⟩, copy_comp hS hR hz rfl q⟩
end
end KH
namespace KH
open PySem L2
def spNeed (K : PySem.W.Frag) : Sp := fun vs H Q _ => ∃ (p : Addr) (rows : List (List Int)), vs = [.ref p] ∧ RdHall K H p rows ∧ IsHall rows ∧ ∀ H', Same H H' → Q .non H'
section
variable {P : Program} {w : World} {K : PySem.W.Frag} {mg : Str → Option Value} {base : Heap} {f : Addr} {fd : FuncData}
theorem sc_need : FnScope ["hall"] ["hall"] (defScope s_need_hall) := ⟨rfl, rfl, rfl, by decide +kernel, rfl, by decide +kernel, by decide +kernel⟩
theorem ok_need (F : Fun K "need_hall" "need_hall" s_need_hall f fd) (C_is_hall : Has P w K mg base 2 "is_hall" ["hall"] (spIsHall K)) : FnOk P w K mg base CX0 3 f fd ["hall"] (spNeed K) := by
  refine F.ok sc_need (fun vs H Q E h => ?_) (fun cdv A outer s H vs Q E hr h => ?_)
  · obtain ⟨p, rows, rfl, _⟩ := h
    rfl
  obtain ⟨p, rows, rfl, RH, IH, q⟩ := h
  refine ⟨_, (pss_one (ps_if (pt_not (pt_val (pe_callH C_is_hall (hr.mono (by decide)) rfl (pa_cons (pv 0) pa_nil)))) pss_never pss_nil)), ?_⟩
  refine ⟨_, rfl, p, rows, rfl, RH, by have := IH.hi; omega, fun H' s => ⟨_, rfl, ?_⟩⟩
  rw [dec_true IH]
  exact iteF (q H' s)
end
end KH
namespace KH
open PySem L2
def spIsPlayer (K : PySem.W.Frag) : Sp := fun vs H Q _ => ∃ (p : Addr) (rows : List (List Int)) (x : Int), vs = [.ref p, .int x] ∧ RdHall K H p rows ∧ rows.length ≤ 1000 ∧ Q (.bl (decide (0 ≤ x ∧ x < (rows.length : Int)))) H
section
variable {P : Program} {w : World} {K : PySem.W.Frag} {mg : Str → Option Value} {base : Heap} {f : Addr} {fd : FuncData}
theorem sc_isplayer : FnScope ["hall", "player"] ["hall", "player"] (defScope s_is_player) := ⟨rfl, rfl, rfl, by decide +kernel, rfl, by decide +kernel, by decide +kernel⟩
theorem ok_isplayer (F : Fun K "is_player" "is_player" s_is_player f fd) (z : Blt mg) : FnOk P w K mg base CX0 1 f fd ["hall", "player"] (spIsPlayer K) := by
  refine F.ok sc_isplayer (fun vs H Q E h => ?_) (fun cdv A outer s H vs Q E hr h => ?_)
  · obtain ⟨p, rows, x, rfl, _⟩ := h
    rfl
  obtain ⟨p, rows, x, rfl, RH, hz, q⟩ := h
  obtain ⟨as, hS, hR⟩ := id RH
  have hl : (as.map V.ref).length = rows.length := by rw [List.length_map]; exact hR.length
  refine ⟨_, (pss_one (ps_ret (pe_and (pe_cmpR op_ge (pv 1) pe_int (nomark _)) (pe_one (pe_cmpR op_lt (pv 1) (pe_callB call_len_seq rfl z.len (by decide +kernel) (pa_cons (pv 0) pa_nil)) (nomark _)))))), ?_⟩
  refine ⟨_, rfl, _, _, rfl, rfl, _, rfl, ?_⟩
  by_cases c : 0 ≤ x
  · rw [decide_eq_true (show x ≥ 0 from c)]
    refine iteT ⟨_, rfl, _, rfl, _, _, rfl, .inl hS, _, _, rfl, rfl, ?_⟩
    rw [hl]
    have e : decide (x < (rows.length : Int)) = decide (0 ≤ x ∧ x < rows.length) := decide_eq_decide.mpr ⟨fun h => ⟨c, h⟩, fun h => h.2⟩
    rw [← e] at q
    exact q
  · rw [decide_eq_false (show ¬ x ≥ 0 from c)]
    refine iteF ?_
    rw [decide_eq_false (show ¬ (0 ≤ x ∧ x < (rows.length : Int)) from fun h => c h.1)] at q
    exact q
end
end KH
namespace KH
open PySem L2
theorem sort_comp {K : PySem.W.Frag} {H : Hp} {p : Addr} {as : List Addr} {rows : List (List Int)} {σ0 : St} {Q : VK} (hS : SqL K H p (as.map V.ref)) (hR : RowsAt K H as rows) (hz : rows.length ≤ 500) (few : ∀ i, i < rows.length → (rowAt rows i).length < 64) (h0 : σ0[0]? = some none)
    (q : ∀ (p' : Addr) (as' : List Addr) (rows' : List (List Int)) (H' : Hp), NewHall H H' p' as' rows' → rows'.length = rows.length → (∀ j, j < rows.length → (rowAt rows' j).Perm (rowAt rows j) ∧ (rowAt rows' j).Pairwise (· ≤ ·)) → Q (.ref p') H') :
    LCw σ0 (gName 0) tTrue (tCB (rSorted K) (tCons (tVar 0) tNil)) Q (Itl K p) H := by
  have hlen := hR.length
  refine lc_list (K := K) (a := p) (xs := as.map V.ref) (fun E i acc H4 => ∃ (bs : List Addr) (rows' : List (List Int)), acc = bs.map V.ref ∧ NewHall H H4 E bs rows' ∧ rows'.length = i ∧ ∀ j, j < i → (rowAt rows' j).Perm (rowAt rows j) ∧ (rowAt rows' j).Pairwise (· ≤ ·)) (fun E hE => ⟨[], [], rfl, NewHall.start hE, rfl, fun j hj => by omega⟩)
    (fun E i acc H4 _ ⟨_, _, _, N4, _⟩ => N4.same.seq hS) ?_ ?_
  · rintro E i x acc H4 hx ⟨bs, rows', rfl, N4, l4, s4⟩
    obtain ⟨au, rfl, ha⟩ := map_ref_get hx
    obtain ⟨row, er, sr⟩ := RowsAt.getA hR ha
    have hi : i < rows.length := (List.getElem?_eq_some_iff.mp er).1
    have erow := getElem_rowAt er
    have fw := few i hi
    rw [erow] at fw
    have hb4 := N4.at_.len
    have g0 : (σ0.set 0 (some (V.ref au)))[0]? = some (some (.ref au)) := List.getElem?_set_self (List.getElem?_eq_some_iff.mp h0).1
    refine ⟨CapKeep.set h0, tt_intro ⟨_, g0, au, row, rfl, N4.same.seq sr, fw, fun L ns' hL hp' hs' => ⟨?_, ?_, ?_⟩⟩⟩
    · rw [upd_ne (ne_of_none N4.at_.top hL)]; exact N4.at_.top
    · rw [List.length_map]; exact smallL (by omega)
    · refine ⟨bs ++ [L], rows' ++ [ns'], by simp, N4.snoc' (same_new hL _) upd_same hL, by simp [l4], fun j hj => ?_⟩
      by_cases hji : j < i
      · have e : rowAt (rows' ++ [ns']) j = rowAt rows' j := by
          unfold rowAt
          rw [List.getD_eq_getElem?_getD, List.getElem?_append_left (by omega), ← List.getD_eq_getElem?_getD]
        rw [e]
        exact s4 j hji
      · have ej : j = i := by omega
        subst ej
        have e : rowAt (rows' ++ [ns']) j = ns' := by
          unfold rowAt
          rw [List.getD_eq_getElem?_getD, List.getElem?_append_right (by omega), l4]
          simp
        rw [e, erow]
        exact ⟨hp', hs'⟩
  · rintro E acc H4 ⟨bs, rows', rfl, N4, l4, s4⟩
    rw [List.length_map, hlen] at l4 s4
    exact q E bs rows' H4 N4 l4 s4
end KH
namespace KH
open PySem L2
def RingB (rows : List (List Int)) (a b c : Int) : Prop := InR rows a ∧ InR rows b ∧ InR rows c ∧ Three rows a b c
def spIsRing (K : PySem.W.Frag) : Sp := fun vs H Q _ => ∃ (p t : Addr) (rows : List (List Int)) (a b c : Int), vs = [.ref p, .ref t] ∧ RdHall K H p rows ∧ rows.length ≤ 12 ∧ SqT K H t [.int a, .int b, .int c] ∧ ∀ H', Same H H' → Q (.bl (dec (RingB rows a b c))) H'
def spTurned (K : PySem.W.Frag) (CR : Addr) : Sp := fun vs H Q E => ∃ (p t : Addr) (rows : List (List Int)) (a b c : Int), vs = [.ref p, .ref t] ∧ RdHall K H p rows ∧ IsHall rows ∧ SqT K H t [.int a, .int b, .int c] ∧
  (RingB rows a b c → ∀ (p' : Addr) (as' : List Addr) (rows' : List (List Int)) (H' : Hp), NewHall H H' p' as' rows' → TurnedBy rows rows' a b c → Q (.ref p') H') ∧ (¬ RingB rows a b c → ∀ H', Same H H' → E (.ref CR) none H')
instance decInR (rows : List (List Int)) (x : Int) : Decidable (InR rows x) := by unfold InR; infer_instance
theorem _root_.L2.SqT.same {K : PySem.W.Frag} {H H' : Hp} {t : Addr} {xs : List V} (h : SqT K H t xs) (s : Same H H') : SqT K H' t xs := by
  rcases h with (h | ⟨o, h⟩) | h
  · exact .inl (.inl (s _ _ h))
  · exact .inl (.inr ⟨o, s _ _ h⟩)
  · exact .inr h
section
variable {P : Program} {w : World} {K : PySem.W.Frag} {mg : Str → Option Value} {base : Heap} {f : Addr} {fd : FuncData} {CR : Addr}
theorem sc_isring : FnScope ["hall", "ring"] ["hall", "ring"] (defScope s_is_ring) := ⟨rfl, rfl, rfl, by decide +kernel, rfl, by decide +kernel, by decide +kernel⟩
set_option maxHeartbeats 0 in
theorem ok_isring (F : Fun K "is_ring" "is_ring" s_is_ring f fd) (z : Blt mg) (C_is_player : Has P w K mg base 1 "is_player" ["hall", "player"] (spIsPlayer K)) : FnOk P w K mg base CX0 2 f fd ["hall", "ring"] (spIsRing K) := by
  refine F.ok sc_isring (fun vs H Q E h => ?_) (fun cdv A outer s H vs Q E hr h => ?_)
  · obtain ⟨p, t, rows, a, b, c, rfl, _⟩ := h
    rfl
  obtain ⟨p, t, rows, a, b, c, rfl, RH, h12, hT, q⟩ := h
  have nd := sc_isring.nd
  refine ⟨_, (pss_cons (ps_if (pt_not (pt_val (pe_callB (call_all rfl) rfl z.all (by decide +kernel) (pa_cons (pe_lc rfl (cscope (N' := ["player", "hall"]) (caps := [none, some 0])) (pi_tup (pv 1)) (fun s H fp => ⟨(pg_name (i := 0) (show (["player", "hall"] : List Str).Nodup by decide +kernel) rfl (by first | exact Or.inl rfl | exact Or.inr rfl)), pif_nil, (pe_callH C_is_player (hr.mono (by decide)) rfl (pa_cons (pv 1) (pa_cons (pv 0) pa_nil)))⟩)) pa_nil)))) (pss_one (ps_ret pe_bl)) pss_nil)
  (pss_one (ps_ret (pe_callB (call_all rfl) rfl z.all (by decide +kernel) (pa_cons (pe_lc rfl (cscope (N' := ["place", "ring", "hall"]) (caps := [none, some 1, some 0])) (pi_range1 rfl z.range (pa_cons (pe_callB call_len_seq rfl z.len (by decide +kernel) (pa_cons (pv 1) pa_nil)) pa_nil)) (fun s H fp => ⟨(pg_name (i := 0) (show (["place", "ring", "hall"] : List Str).Nodup by decide +kernel) rfl (by first | exact Or.inl rfl | exact Or.inr rfl)), pif_nil, (pe_cmpR (op_in_seqK (K := K) rfl) (pe_ix (ix_tupK (K := K) rfl) (pv 1) (pv 0) (fun _ _ => rfl)) (pe_ix (ix_listK (K := K) rfl) (pv 2) (pe_ix (ix_tupK (K := K) rfl) (pv 1) (pe_op op_sub (pv 0) pe_int) (fun _ _ => rfl)) (fun _ _ => rfl)) (by with_unfolding_all rfl))⟩)) pa_nil))))), ?_⟩
  -- all three are players
  refine ⟨_, rfl, _, rfl, ⟨_, hT⟩, ?_⟩
  refine lc_tup (K := K) (a := t) (xs := [V.int a, V.int b, V.int c]) (fun D i acc H2 => acc = ((([a, b, c].take i).map fun x => decide (0 ≤ x ∧ x < (rows.length : Int))).map V.bl) ∧ H D = none ∧ Same H H2 ∧ H2 D = some (.lst acc)) (fun D hD => ⟨rfl, hD, same_new hD _, upd_same⟩)
    (fun D i acc H2 _ ⟨_, _, s2, _⟩ => hT.same s2) ?_ ?_
  · rintro D i x acc H2 hx ⟨rfl, hD, s2, h2⟩
    have hx' : ([a, b, c].map V.int)[i]? = some x := hx
    obtain ⟨y, rfl, hy⟩ := map_int_get hx'
    have hi : i < 3 := (List.getElem?_eq_some_iff.mp hy).1
    refine ⟨CapKeep.set rfl, tt_intro ⟨_, rfl, _, rfl, p, rows, y, rfl, RH.same s2, by omega, h2, ?_, ?_⟩⟩
    · rw [List.length_map, List.length_map, List.length_take]; exact smallL (by omega)
    · refine ⟨by rw [take_snoc hy]; simp, hD, fun b0 o e => ?_, upd_same⟩
      rw [upd_ne (fun z => by rw [z, hD] at e; cases e)]; exact s2 b0 o e
  rintro D acc H2 ⟨rfl, hD, s2, h2⟩
  refine ⟨D, _, rfl, SqL.of h2, _, rfl, ?_⟩
  have eall : (([a, b, c].take [V.int a, V.int b, V.int c].length).map fun x => decide (0 ≤ x ∧ x < (rows.length : Int))).all id = decide (InR rows a ∧ InR rows b ∧ InR rows c) := by
    unfold InR
    rw [Bool.eq_iff_iff]
    simp
  rw [eall]
  by_cases c1 : InR rows a ∧ InR rows b ∧ InR rows c
  rotate_left
  · rw [decide_eq_false c1]
    have := q H2 s2
    rw [dec_false (fun z => c1 ⟨z.1, z.2.1, z.2.2.1⟩)] at this
    exact iteT this
  rw [decide_eq_true c1]
  obtain ⟨ra, rb, rc⟩ := c1
  refine iteF ?_
  -- each won against the next
  have hT2 := hT.same s2
  refine ⟨_, rfl, _, _, rfl, .inr hT2, _, rfl, (show -(2 ^ 62 : Int) ≤ 3 by decide), (show (3 : Int) < 2 ^ 62 by decide), ?_⟩
  obtain ⟨bw, ebw⟩ : ∃ bw : Nat → Bool, bw = fun i => decide (los a b c i ∈ R rows (win a b c i)) := ⟨_, rfl⟩
  refine lc_range (lo := 0) (n := 3) (fun D i acc H3 => acc = (((List.range i).map bw).map V.bl) ∧ H2 D = none ∧ Same H2 H3 ∧ H3 D = some (.lst acc)) (fun D hD => ⟨rfl, hD, same_new hD _, upd_same⟩) ?_ ?_
  · rintro D i acc H3 hi ⟨rfl, hD, s3, h3⟩
    have hT3 := hT2.same s3
    obtain ⟨as, hS, hR⟩ := (RH.same s2).same s3
    have at1 : ∀ k : Nat, k < 3 → atI [V.int a, V.int b, V.int c] (0 + (k : Int)) = some (.int (los a b c k)) := fun k hk => by
      have : k = 0 ∨ k = 1 ∨ k = 2 := by omega
      rcases this with rfl | rfl | rfl <;> rfl
    have at2 : ∀ k : Nat, k < 3 → atI [V.int a, V.int b, V.int c] (0 + (k : Int) - 1) = some (.int (win a b c k)) := fun k hk => by
      have : k = 0 ∨ k = 1 ∨ k = 2 := by omega
      rcases this with rfl | rfl | rfl <;> rfl
    have rw_ : InR rows (win a b c i) := by
      match i, hi with
      | 0, _ => exact rc
      | 1, _ => exact ra
      | 2, _ => exact rb
    obtain ⟨aw, ew, _, sw⟩ := rows_at hR rw_.1 rw_.2
    refine ⟨CapKeep.set rfl, tt_intro ⟨_, rfl, _, rfl, _, _, _, _, rfl, rfl, hT3, at1 i hi, _, rfl, _, rfl, _, rfl, _, _, rfl, rfl, _, _, _, _, rfl, rfl, hT3, at2 i hi, _, _, _, _, rfl, rfl, hS, ew, _, _, rfl, .inl sw, rfl, flat_ints _, h3, ?_, ?_⟩⟩
    · rw [List.length_map, List.length_map, List.length_range]; exact smallL (by omega)
    · refine ⟨?_, hD, fun b0 o e => ?_, upd_same⟩
      · rw [List.range_succ, List.map_append, List.map_append, ebw]
        simp only [Bool.false_eq_true, if_false, inV_int, List.map_cons, List.map_nil]
        rfl
      · rw [upd_ne (fun z => by rw [z, hD] at e; cases e)]; exact s3 b0 o e
  rintro D3 acc H3 ⟨rfl, hD3, s3, h3⟩
  refine ⟨D3, _, rfl, SqL.of h3, ?_⟩
  have e3 : ((List.range 3).map bw).all id = dec (RingB rows a b c) := by
    have e : dec (RingB rows a b c) = decide (b ∈ R rows a ∧ c ∈ R rows b ∧ a ∈ R rows c) := by
      rw [← dec_decide]
      exact dec_iff ⟨fun z => z.2.2.2, fun z => ⟨ra, rb, rc, z⟩⟩
    rw [e, ebw, Bool.eq_iff_iff]
    simp [List.range_succ, los, win]
    exact ⟨fun ⟨x, y, z⟩ => ⟨y, z, x⟩, fun ⟨x, y, z⟩ => ⟨z, x, y⟩⟩
  rw [e3]
  exact q H3 (s2.trans s3)
theorem sc_turned : FnScope ["hall", "ring", "other", "place", "loser", "winner"] ["hall", "ring"] (defScope s_turned) := ⟨rfl, rfl, rfl, by decide +kernel, rfl, by decide +kernel, by decide +kernel⟩
set_option maxHeartbeats 0 in
theorem ok_turned (F : Fun K "turned" "turned" s_turned f fd) (z : Blt mg) (O_NoRing : OwnE mg base "NoRing" CR) (C_need_hall : Has P w K mg base 3 "need_hall" ["hall"] (spNeed K)) (C_is_ring : Has P w K mg base 2 "is_ring" ["hall", "ring"] (spIsRing K)) : FnOk P w K mg base (CXE P w) 4 f fd ["hall", "ring"] (spTurned K CR) := by
  refine F.okE sc_turned (fun vs H Q E h => ?_) (fun cdv A outer s H vs Q E hr h => ?_)
  · obtain ⟨p, t, rows, a, b, c, rfl, _⟩ := h
    rfl
  obtain ⟨p, t, rows, a, b, c, rfl, RH, IH, hT, q, e⟩ := h
  have nd := sc_turned.nd
  have h12 := IH.hi
  refine ⟨_, (pss_cons (ps_expr (pe_callH C_need_hall (hr.mono (by decide)) rfl (pa_cons (pv 0) pa_nil)))
  (pss_cons (ps_if (pt_not (pt_val (pe_callH C_is_ring (hr.mono (by decide)) rfl (pa_cons (pv 0) (pa_cons (pv 1) pa_nil))))) (pss_one (ps_raise O_NoRing rfl (pa_cons pe_str pa_nil))) pss_nil)
  (pss_cons (ps_setLC (i := 2) nd rfl (by first | exact Or.inl rfl | exact Or.inr rfl) rfl (cscope (N' := ["beaten"]) (caps := [none])) (pi_list (pv 0)) (fun s H fp => ⟨(pg_name (i := 0) (show (["beaten"] : List Str).Nodup by decide +kernel) rfl (by first | exact Or.inl rfl | exact Or.inr rfl)), pif_nil, (pe_callTy (call_list_ofK (K := K) rfl) rfl z.list (by decide +kernel) (pa_cons (pv 0) pa_nil))⟩))
  (pss_cons (PS.nox (ps_for PassesOwn.never rfl (pi_enumT rfl z.enumerate (pa_cons (pv 1) pa_nil)) (pg_tup rfl (pgs_cons (pg_name (i := 3) nd rfl (by first | exact Or.inl rfl | exact Or.inr rfl)) (pgs_cons (pg_name (i := 4) nd rfl (by first | exact Or.inl rfl | exact Or.inr rfl)) pgs_nil))) (pss_cons (ps_set (i := 5) nd rfl (by first | exact Or.inl rfl | exact Or.inr rfl) (pe_ix ix_tup (pv 1) (pe_op op_sub (pv 3) pe_int) (fun _ _ => rfl)))
  (pss_cons (ps_expr (pe_bm PySem.F.plainAttrs_list PySem.F.slot_list_remove PySem.F.type_list_remove mt_remove (pe_ix ix_list (pv 2) (pv 5) (fun _ _ => rfl)) (pa_cons (pv 4) pa_nil)))
  (pss_one (ps_expr (pe_bm PySem.F.plainAttrs_list PySem.F.slot_list_append PySem.F.type_list_append mt_append (pe_ix ix_list (pv 2) (pv 4) (fun _ _ => rfl)) (pa_cons (pv 5) pa_nil))))))))
  (pss_one (ps_ret (pe_lc rfl (cscope (N' := ["beaten"]) (caps := [none])) (pi_list (pv 2)) (fun s H fp => ⟨(pg_name (i := 0) (show (["beaten"] : List Str).Nodup by decide +kernel) rfl (by first | exact Or.inl rfl | exact Or.inr rfl)), pif_nil, (pe_callB (call_sortedK (K := K) rfl) rfl z.sorted (by decide +kernel) (pa_cons (pv 0) pa_nil))⟩)))))))), ?_⟩
  refine ⟨_, rfl, p, rows, rfl, RH, IH, fun H1 s1 => ?_⟩
  have hT1 := hT.same s1
  refine ⟨_, rfl, _, rfl, p, t, rows, a, b, c, rfl, RH.same s1, by omega, hT1, fun H2 s2 => ⟨_, rfl, ?_⟩⟩
  by_cases c1 : RingB rows a b c
  rotate_left
  · rw [dec_false c1]
    exact iteT ⟨by decide, e c1 H2 (s1.trans s2)⟩
  rw [dec_true c1]
  refine iteF ?_
  obtain ⟨ra, rb, rc, T3⟩ := id c1
  have S2 := s1.trans s2
  have hT2 := hT1.same s2
  obtain ⟨as0, hS2, hR2⟩ := RH.same S2
  refine ⟨_, rfl, _, rfl, ⟨_, hS2⟩, copy_comp hS2 hR2 (by omega) rfl (fun o as H3 N3 => ?_)⟩
  refine ⟨_, rfl, _, rfl, ⟨_, hT2.same N3.same⟩, ?_⟩
  refine for_enumT (K := K) (a := t) (xs := [V.int a, V.int b, V.int c]) (fun i σ H4 => ∃ (v3 v4 v5 : Option V) (rs : List (List Int)), σ = [some (.ref p), some (.ref t), some (.ref o), v3, v4, v5] ∧ NewHall H2 H4 o as rs ∧ Raw rows.length rs (relT rows a b c i) ∧ Lens 20 rs)
    ⟨none, none, none, rows, rfl, N3, Raw.start IH, IH.lens.mono (by decide)⟩ (fun i σ H4 _ ⟨_, _, _, _, _, N4, _⟩ => hT2.same N4.same) ?_ ?_
  · rintro i x u σ H4 hx ⟨v3, v4, v5, rs, rfl, N4, W4, Z4⟩ hu
    have hx' : ([a, b, c].map V.int)[i]? = some x := hx
    obtain ⟨y, rfl, hy⟩ := map_int_get hx'
    have hi : i < 3 := (List.getElem?_eq_some_iff.mp hy).1
    have ey : y = los a b c i := by
      match i, hi with
      | 0, _ => exact (Option.some.inj hy).symm
      | 1, _ => exact (Option.some.inj hy).symm
      | 2, _ => exact (Option.some.inj hy).symm
    subst ey
    obtain ⟨rl, rw_, ne, m1, m2, nx⟩ := relT_at IH T3 ra rb rc hi
    have s5 := same_new hu (.tup [.int i, .int (los a b c i)])
    have N5 := N4.grow s5
    have hT5 := hT2.same N5.same
    refine ⟨u, _, rfl, SqT.of upd_same, rfl, _, _, rfl, _, _, rfl, rfl, ?_⟩
    generalize upd H4 u (.tup [.int i, .int (los a b c i)]) = H5 at N5 hT5
    have at2 : atI [V.int a, V.int b, V.int c] ((i : Int) - 1) = some (.int (win a b c i)) := by
      match i, hi with
      | 0, _ => rfl
      | 1, _ => rfl
      | 2, _ => rfl
    refine ⟨_, rfl, _, rfl, _, _, rfl, rfl, _, _, _, _, rfl, rfl, hT5, at2, ?_⟩
    generalize hwn : win a b c i = wn at *
    generalize hln : los a b c i = ln at *
    have lenr := W4.len
    obtain ⟨xw, exw⟩ : ∃ x : Nat, wn = (x : Int) := ⟨wn.toNat, by have := rw_.1; omega⟩
    obtain ⟨yl, eyl⟩ : ∃ y : Nat, ln = (y : Int) := ⟨ln.toNat, by have := rl.1; omega⟩
    have hxn : xw < rs.length := by have := rw_.2; omega
    have hyn : yl < rs.length := by have := rl.2; omega
    have hxy : xw ≠ yl := fun z => ne (by rw [exw, eyl, z])
    have mw : (yl : Int) ∈ rowAt rs xw := by
      have := (W4.mem wn rw_.1 rw_.2 ln).mpr m1
      rw [exw, R_nat', eyl] at this
      exact this
    obtain ⟨a1, f1, f2⟩ := paired_get N5.at_.row (i := xw) (b := rowAt rs xw) (by unfold rowAt; rw [List.getElem?_eq_getElem hxn, getD_of_lt hxn])
    have e1 : atI (as.map V.ref) wn = some (.ref a1) := at_ref rw_.1 (by rw [exw, Int.toNat_natCast]; exact f1)
    obtain ⟨j, hj, hno, her⟩ := rm_mem' mw
    refine ⟨_, rfl, _, rfl, _, _, _, _, rfl, rfl, N5.at_.sq, e1, .inl ⟨rfl, _, SqL.of f2⟩, _, rfl, a1, rowAt rs xw, ln, j, rfl, rfl, f2, by rw [eyl]; exact hj, by rw [eyl]; exact hno, ?_⟩
    rw [her]
    have N6 := N5.put (r' := (rowAt rs xw).erase (yl : Int)) f1
    generalize upd H5 a1 (.lst (((rowAt rs xw).erase (yl : Int)).map V.int)) = H6 at N6
    obtain ⟨a2, g1, g2⟩ := paired_get N6.at_.row (i := yl) (b := rowAt rs yl) (by
      rw [List.getElem?_set_ne hxy]; unfold rowAt; rw [List.getElem?_eq_getElem hyn, getD_of_lt hyn])
    have e2 : atI (as.map V.ref) ln = some (.ref a2) := at_ref rl.1 (by rw [eyl, Int.toNat_natCast]; exact g1)
    have few2 := Z4.at_ yl
    have fw := W4.nd ln rl.1 rl.2
    refine ⟨_, rfl, _, rfl, _, _, _, _, rfl, rfl, N6.at_.sq, e2, .inl ⟨rfl, _, SqL.of g2⟩, _, rfl, _, _, _, rfl, rfl, g2, by rw [List.length_map]; exact smallL (by omega), ?_⟩
    have N7 := N6.put (r' := rowAt rs yl ++ [wn]) g1
    rw [List.map_append] at N7
    have W7 := W4.flip rw_ rl ne m1 m2
    have W7' : Raw rows.length ((rs.set xw ((rowAt rs xw).erase (yl : Int))).set yl (rowAt rs yl ++ [wn])) (relT rows a b c (i + 1)) := by
      rw [nx]
      have eW : (rs.set wn.toNat ((R rs wn).erase ln)).set ln.toNat (R rs ln ++ [wn]) = (rs.set xw ((rowAt rs xw).erase (yl : Int))).set yl (rowAt rs yl ++ [wn]) := by
        rw [exw, eyl, R_nat', R_nat', Int.toNat_natCast, Int.toNat_natCast]
      rw [← eW]
      exact W7
    refine ⟨_, _, _, _, rfl, N7, W7', ?_⟩
    refine (Z4.set ?_ xw).set ?_ yl
    · exact Nat.le_trans (List.length_erase_le) (Z4.at_ xw)
    · have : (R rs ln).length ≤ rows.length := few_of_nodup _ _ fw fun v hv => by
        have hin : ∀ k, k ≤ 3 → ∀ x y : Int, InR rows x → relT rows a b c k x y → InR rows y := fun k hk x y hx hxy => by
          match k, hk with
          | 0, _ => exact (IH.rng hx hxy).1
          | 1, _ =>
            rcases hxy.2 with z | z
            · rw [z.2]; exact rc
            · exact (IH.rng hx z).1
          | 2, _ =>
            rcases hxy.2 with z | ⟨_, z | z⟩
            · rw [z.2]; exact ra
            · rw [z.2]; exact rc
            · exact (IH.rng hx z).1
          | 3, _ =>
            rcases hxy.2 with z | ⟨_, z | ⟨_, z | z⟩⟩
            · rw [z.2]; exact rb
            · rw [z.2]; exact ra
            · rw [z.2]; exact rc
            · exact (IH.rng hx z).1
        exact hin i (by omega) ln v rl ((W4.mem ln rl.1 rl.2 v).mp hv)
      rw [eyl, R_nat'] at this
      rw [List.length_append, List.length_singleton]
      omega
  · rintro σ H4 ⟨v3, v4, v5, rs, rfl, N4, W4, Z4⟩
    have W4' : Raw rows.length rs (relT rows a b c 3) := W4
    have lenr := W4.len
    refine ⟨_, rfl, _, rfl, ⟨_, N4.at_.sq⟩, sort_comp N4.at_.sq N4.at_.rows (by omega) (fun i hi => by have := Z4.at_ i; omega) rfl fun p' as' rows' H5 N5 l5 ss => ?_⟩
    rw [lenr] at l5 ss
    exact q c1 p' as' rows' H5 (N5.base (S2.trans N4.same)) (raw_turned IH T3 ra rb rc W4' l5 ss)
end
end KH
namespace KH
open PySem L2
def winsOf (rows : List (List Int)) : List Int := rows.map fun r => (r.length : Int)
section
variable {P : Program} {w : World} {K : PySem.W.Frag} {mg : Str → Option Value} {base : Heap} {f : Addr} {fd : FuncData}
theorem len_comp {H : Hp} {p : Addr} {as : List Addr} {rows : List (List Int)} {σ0 : St} {Q : VK} (hS : SqL K H p (as.map V.ref)) (hR : RowsAt K H as rows) (hz : rows.length ≤ 500) (h0 : σ0[0]? = some none)
    (q : ∀ (l : Addr) (H' : Hp), H l = none → Same H H' → H' l = some (.lst ((winsOf rows).map V.int)) → Q (.ref l) H') :
    LCw σ0 (gName 0) tTrue (tCB (fun xs H Q => ∃ p ys, xs = [.ref p] ∧ (SqL K H p ys ∨ SqT K H p ys) ∧ Q (.int ys.length) H) (tCons (tVar 0) tNil)) Q (Itl K p) H := by
  have hlen := hR.length
  refine lc_list (K := K) (a := p) (xs := as.map V.ref) (fun E i acc H4 => acc = (winsOf (rows.take i)).map V.int ∧ H E = none ∧ Same H H4 ∧ H4 E = some (.lst acc)) (fun E hE => ⟨rfl, hE, same_new hE _, upd_same⟩)
    (fun E i acc H4 _ ⟨_, _, s4, _⟩ => s4.seq hS) ?_ ?_
  · rintro E i x acc H4 hx ⟨rfl, hE, s4, h4⟩
    obtain ⟨a, rfl, ha⟩ := map_ref_get hx
    obtain ⟨row, er, sr⟩ := RowsAt.getA hR ha
    have hi : i < rows.length := (List.getElem?_eq_some_iff.mp er).1
    have g0 : (σ0.set 0 (some (V.ref a)))[0]? = some (some (.ref a)) := List.getElem?_set_self (List.getElem?_eq_some_iff.mp h0).1
    refine ⟨CapKeep.set h0, tt_intro ⟨_, g0, a, _, rfl, .inl (s4.seq sr), h4, ?_, ?_⟩⟩
    · rw [List.length_map]; unfold winsOf; rw [List.length_map, List.length_take]; exact smallL (by omega)
    · refine ⟨?_, hE, fun b o e => ?_, upd_same⟩
      · rw [take_snoc er]
        unfold winsOf
        simp
      · rw [upd_ne (fun z => by rw [z, hE] at e; cases e)]; exact s4 b o e
  · rintro E acc H4 ⟨rfl, hE, s4, h4⟩
    rw [List.length_map, hlen, List.take_length] at h4
    exact q E H4 hE s4 h4
end
end KH
namespace KH
open PySem L2
def spWins (K : PySem.W.Frag) : Sp := fun vs H Q _ => ∃ (p : Addr) (rows : List (List Int)), vs = [.ref p] ∧ RdHall K H p rows ∧ IsHall rows ∧
  ∀ (l : Addr) (H' : Hp), H l = none → Same H H' → H' l = some (.lst ((winsOf rows).map V.int)) → Q (.ref l) H'
section
variable {P : Program} {w : World} {K : PySem.W.Frag} {mg : Str → Option Value} {base : Heap} {f : Addr} {fd : FuncData}
theorem sc_wins : FnScope ["hall"] ["hall"] (defScope s_wins_of) := ⟨rfl, rfl, rfl, by decide +kernel, rfl, by decide +kernel, by decide +kernel⟩
theorem ok_wins (F : Fun K "wins_of" "wins_of" s_wins_of f fd) (z : Blt mg) (C_need_hall : Has P w K mg base 3 "need_hall" ["hall"] (spNeed K)) : FnOk P w K mg base CX0 4 f fd ["hall"] (spWins K) := by
  refine F.ok sc_wins (fun vs H Q E h => ?_) (fun cdv A outer s H vs Q E hr h => ?_)
  · obtain ⟨p, rows, rfl, _⟩ := h
    rfl
  obtain ⟨p, rows, rfl, RH, IH, q⟩ := h
  refine ⟨_, (pss_cons (ps_expr (pe_callH C_need_hall (hr.mono (by decide)) rfl (pa_cons (pv 0) pa_nil)))
  (pss_one (ps_ret (pe_lc rfl (cscope (N' := ["beaten"]) (caps := [none])) (pi_list (pv 0)) (fun s H fp => ⟨(pg_name (i := 0) (show (["beaten"] : List Str).Nodup by decide +kernel) rfl (by first | exact Or.inl rfl | exact Or.inr rfl)), pif_nil, (pe_callB (call_len_seqK (K := K) rfl) rfl z.len (by decide +kernel) (pa_cons (pv 0) pa_nil))⟩))))), ?_⟩
  refine ⟨_, rfl, p, rows, rfl, RH, IH, fun H1 s1 => ?_⟩
  obtain ⟨as, hS, hR⟩ := RH.same s1
  exact ⟨_, rfl, _, rfl, ⟨_, hS⟩, len_comp hS hR (by have := IH.hi; omega) rfl fun l H' hl s' h' => q l H' (s1.free hl) (s1.trans s') h'⟩
end
end KH
namespace KH
open PySem L2
def spLose (K : PySem.W.Frag) : Sp := fun vs H Q _ => ∃ (p o : Addr) (rows orows : List (List Int)) (x : Int), vs = [.ref p, .ref o, .int x] ∧ RdHall K H p rows ∧ RdHall K H o orows ∧ Like rows orows ∧ InR rows x ∧
  ∀ (l : Addr) (H' : Hp), H l = none → Same H H' → H' l = some (.lst ((lose rows orows x).map V.int)) → Q (.ref l) H'
def spRingTo (K : PySem.W.Frag) : Sp := fun vs H Q _ => ∃ (p o : Addr) (rows orows : List (List Int)), vs = [.ref p, .ref o] ∧ RdHall K H p rows ∧ RdHall K H o orows ∧ Like rows orows ∧ rows ≠ orows ∧
  ∀ (l : Addr) (H' : Hp) (r0 a : Int) (rest : List Int), H l = none → Same H H' → H' l = some (.lst ((r0 :: a :: rest).map V.int)) → DRing rows orows r0 a rest → Q (.ref l) H'
structure Trip (H H' : Hp) (T : Addr) (ps : List Addr) (ts : List (Int × Int × Int)) : Prop where
  same : Same H H'
  new : H T = none
  top : H' T = some (.lst (ps.map V.ref))
  el : Paired (fun p (t : Int × Int × Int) => H' p = some (.tup [.int t.1, .int t.2.1, .int t.2.2])) ps ts
theorem Trip.len {H H' : Hp} {T : Addr} {ps : List Addr} {ts : List (Int × Int × Int)} (h : Trip H H' T ps ts) : ps.length = ts.length := Paired.length h.el
theorem Trip.keep {H H' H2 : Hp} {T : Addr} {ps : List Addr} {ts : List (Int × Int × Int)} (h : Trip H H' T ps ts) (s : Same H' H2) : Trip H H2 T ps ts := ⟨h.same.trans s, h.new, s _ _ h.top, paired_imp h.el fun _ _ _ q => s _ _ q⟩
theorem paired_app {α β : Type} {F : α → β → Prop} : ∀ {as as' : List α} {bs bs' : List β}, Paired F as bs → Paired F as' bs' → Paired F (as ++ as') (bs ++ bs')
  | _, _, _, _, .nil, h => h
  | _, _, _, _, .cons r t, h => .cons r (paired_app t h)
def spThrees' (K : PySem.W.Frag) : Sp := fun vs H Q _ => ∃ (p l : Addr) (rows : List (List Int)) (r0 a : Int) (rest : List Int), vs = [.ref p, .ref l] ∧ RdHall K H p rows ∧ SqL K H l ((r0 :: a :: rest).map V.int) ∧ rest ≠ [] ∧ rest.length ≤ 50 ∧ (∀ x ∈ r0 :: a :: rest, InR rows x) ∧
  ∀ (T : Addr) (ps : List Addr) (H' : Hp), Trip H H' T ps (thr rows r0 a rest) → Q (.ref T) H'
def spTurnings (K : PySem.W.Frag) : Sp := fun vs H Q _ => ∃ (p o : Addr) (pas oas : List Addr) (rows orows : List (List Int)), vs = [.ref p, .ref o] ∧ HallAt H p pas rows ∧ HallAt H o oas orows ∧ Like rows orows ∧
  ∀ (T : Addr) (ps : List Addr) (ts : List (Int × Int × Int)) (H' : Hp), Trip H H' T ps ts → Leads rows ts orows → ts.length ≤ 60 → (rows = orows → ts = []) → Q (.ref T) H'
theorem list_at {ns : List Int} {k : Nat} {x : Int} (h : ns[k]? = some x) : atI (ns.map V.int) (k : Int) = some (.int x) := atI_nat (by rw [List.getElem?_map, h]; rfl)
section
variable {P : Program} {w : World} {K : PySem.W.Frag} {mg : Str → Option Value} {base : Heap} {f : Addr} {fd : FuncData} {CR CU : Addr}
theorem sc_lose : FnScope ["hall", "other", "player"] ["hall", "other", "player"] (defScope s_to_lose) := ⟨rfl, rfl, rfl, by decide +kernel, rfl, by decide +kernel, by decide +kernel⟩
theorem ok_lose (F : Fun K "to_lose" "to_lose" s_to_lose f fd) : FnOk P w K mg base CX0 1 f fd ["hall", "other", "player"] (spLose K) := by
  refine F.ok sc_lose (fun vs H Q E h => ?_) (fun cdv A outer s H vs Q E hr h => ?_)
  · obtain ⟨p, o, rows, orows, x, rfl, _⟩ := h
    rfl
  obtain ⟨p, o, rows, orows, x, rfl, ⟨as, hS, hR⟩, ⟨bs, hS', hR'⟩, L, hx, q⟩ := h
  have nd := sc_lose.nd
  have ll := L.len
  obtain ⟨x0, x1⟩ := hx
  obtain ⟨a1, e1, _, r1⟩ := rows_at hR x0 x1
  obtain ⟨b1, e2, _, r2⟩ := rows_at hR' (k := x) x0 (by omega)
  have few := L.h1.lens.at_ x.toNat
  refine ⟨_, (pss_one (ps_ret (pe_lc rfl (cscope (N' := ["beaten", "other", "player"]) (caps := [none, some 1, some 2])) (pi_list (pe_ix ix_list (pv 0) (pv 2) (fun _ _ => rfl))) (fun s H fp => ⟨(pg_name (i := 0) (show (["beaten", "other", "player"] : List Str).Nodup by decide +kernel) rfl (by first | exact Or.inl rfl | exact Or.inr rfl)), (pif_one (pt_cmpR (op_notIn_seqK (K := K) rfl) (pv 0) (pe_ix (ix_listK (K := K) rfl) (pv 1) (pv 2) (fun _ _ => rfl)) (by with_unfolding_all rfl))), (pv 0)⟩)))), ?_⟩
  refine ⟨_, rfl, _, rfl, _, _, _, _, rfl, rfl, hS, e1, _, rfl, ⟨_, r1⟩, ?_⟩
  refine lc_list (K := K) (a := a1) (xs := (rowAt rows x.toNat).map V.int) (fun D i acc H2 => acc = (((rowAt rows x.toNat).take i).filter fun y => decide (y ∉ R orows x)).map V.int ∧ H D = none ∧ Same H H2 ∧ H2 D = some (.lst acc)) (fun D hD => ⟨rfl, hD, same_new hD _, upd_same⟩)
    (fun D i acc H2 _ ⟨_, _, s2, _⟩ => s2.seq r1) ?_ ?_
  · rintro D i y0 acc H2 hy0 ⟨rfl, hD, s2, h2⟩
    obtain ⟨y, rfl, hy⟩ := map_int_get hy0
    have hi : i < (rowAt rows x.toNat).length := (List.getElem?_eq_some_iff.mp hy).1
    refine ⟨CapKeep.set rfl, _, rfl, _, rfl, _, rfl, _, _, _, _, rfl, rfl, s2.seq hS', e2, _, _, rfl, .inl (s2.seq r2), rfl, flat_ints _, _, rfl, ?_⟩
    simp only [if_true, inV_int]
    by_cases c : y ∈ rowAt orows x.toNat
    · rw [decide_eq_true c]
      refine iteF ⟨?_, hD, s2, h2⟩
      rw [take_snoc hy, List.filter_append]
      have : y ∈ R orows x := c
      simp [this]
    · rw [decide_eq_false c]
      refine iteT ⟨_, rfl, h2, ?_, ?_, hD, fun b0 o0 e0 => ?_, upd_same⟩
      · have q1 := List.length_filter_le (fun y => decide (y ∉ R orows x)) ((rowAt rows x.toNat).take i)
        rw [List.length_take] at q1
        rw [List.length_map]
        exact smallL (by omega)
      · rw [take_snoc hy, List.filter_append, List.map_append]
        have : y ∉ R orows x := c
        simp [this]
      · rw [upd_ne (fun z => by rw [z, hD] at e0; cases e0)]; exact s2 b0 o0 e0
  · rintro D acc H2 ⟨rfl, hD, s2, h2⟩
    rw [List.length_map, List.take_length] at h2
    exact q D H2 hD s2 h2
theorem sc_ringto : FnScope ["hall", "other", "player", "walk"] ["hall", "other"] (defScope s_ring_to_turn) := ⟨rfl, rfl, rfl, by decide +kernel, rfl, by decide +kernel, by decide +kernel⟩
set_option maxHeartbeats 0 in
theorem ok_ringto (F : Fun K "ring_to_turn" "ring_to_turn" s_ring_to_turn f fd) (z : Blt mg) (C_to_lose : Has P w K mg base 1 "to_lose" ["hall", "other", "player"] (spLose K)) : FnOk P w K mg base CX0 2 f fd ["hall", "other"] (spRingTo K) := by
  refine F.ok sc_ringto (fun vs H Q E h => ?_) (fun cdv A outer s H vs Q E hr h => ?_)
  · obtain ⟨p, o, rows, orows, rfl, _⟩ := h
    rfl
  obtain ⟨p, o, rows, orows, rfl, RH, RO, L, ne, q⟩ := h
  have nd := sc_ringto.nd
  have h12 := L.h1.hi
  obtain ⟨as, hS, hR⟩ := id RH
  have hal : (as.map V.ref).length = rows.length := by rw [List.length_map]; exact hR.length
  refine ⟨_, (pss_cons (ps_set (i := 2) nd rfl (by first | exact Or.inl rfl | exact Or.inr rfl) (pe_ix ix_list (pe_lc rfl (cscope (N' := ["one", "hall", "other"]) (caps := [none, some 0, some 1])) (pi_range1 rfl z.range (pa_cons (pe_callB call_len_seq rfl z.len (by decide +kernel) (pa_cons (pv 0) pa_nil)) pa_nil)) (fun s H fp => ⟨(pg_name (i := 0) (show (["one", "hall", "other"] : List Str).Nodup by decide +kernel) rfl (by first | exact Or.inl rfl | exact Or.inr rfl)), (pif_one (pt_truthK (K := K) rfl (pe_callH C_to_lose (hr.mono (by decide)) rfl (pa_cons (pv 1) (pa_cons (pv 2) (pa_cons (pv 0) pa_nil)))) (fun _ => rfl))), (pv 0)⟩)) pe_int (fun _ _ => rfl)))
  (pss_cons (ps_set (i := 3) nd rfl (by first | exact Or.inl rfl | exact Or.inr rfl) (pe_lst pa_nil))
  (pss_cons (PS.nox (ps_while PassesOwn.never (pt_cmpR op_notIn_seq (pv 2) (pv 3) (by with_unfolding_all rfl)) (pss_cons (ps_expr (pe_bm PySem.F.plainAttrs_list PySem.F.slot_list_append PySem.F.type_list_append mt_append (pv 3) (pa_cons (pv 2) pa_nil)))
  (pss_one (ps_set (i := 2) nd rfl (by first | exact Or.inl rfl | exact Or.inr rfl) (pe_ix ix_list (pe_callH C_to_lose (hr.mono (by decide)) rfl (pa_cons (pv 0) (pa_cons (pv 1) (pa_cons (pv 2) pa_nil)))) pe_int (fun _ _ => rfl)))))))
  (pss_one (ps_ret (pe_slice sl_list (pv 3) (po_some (pe_bm PySem.F.plainAttrs_list PySem.F.slot_list_index PySem.F.type_list_index mt_indexI (pv 3) (pa_cons (pv 2) pa_nil))) po_none)))))), ?_⟩
  -- those who have one to lose
  refine ⟨_, rfl, _, _, rfl, .inl hS, _, rfl, by omega, by omega, ?_⟩
  rw [hal, show ((rows.length : Nat) : Int).toNat = rows.length by omega]
  refine lc_range (lo := 0) (n := rows.length) (fun D i acc H2 => acc = (((nums rows.length).take i).filter fun x => decide (lose rows orows x ≠ [])).map V.int ∧ H D = none ∧ Same H H2 ∧ H2 D = some (.lst acc)) (fun D hD => ⟨rfl, hD, same_new hD _, upd_same⟩) ?_ ?_
  · rintro D i acc H2 hi ⟨rfl, hD, s2, h2⟩
    rw [Int.zero_add]
    have hn : (nums rows.length)[i]? = some (i : Int) := by unfold nums; rw [List.getElem?_map, List.getElem?_range hi]; rfl
    refine ⟨CapKeep.set rfl, _, rfl, _, rfl, _, rfl, p, o, rows, orows, (i : Int), rfl, RH.same s2, RO.same s2, L, ⟨by omega, by omega⟩, fun l H3 hl s3 h3 => ⟨_, .inl ⟨_, SqL.of h3, rfl⟩, ?_⟩⟩
    have h3' := s3 _ _ h2
    by_cases c : lose rows orows (i : Int) = []
    · rw [c]
      refine iteF ⟨?_, hD, s2.trans s3, h3'⟩
      rw [take_snoc hn, List.filter_append]
      simp [c]
    · have e : (!((lose rows orows (i : Int)).map V.int).isEmpty) = true := by
        cases e : lose rows orows (i : Int) with
        | nil => exact absurd e c
        | cons y r => rfl
      rw [e]
      refine iteT ⟨_, rfl, h3', ?_, ?_, hD, fun b0 o0 e0 => ?_, upd_same⟩
      · have q1 := List.length_filter_le (fun x => decide (lose rows orows x ≠ [])) ((nums rows.length).take i)
        rw [List.length_take] at q1
        rw [List.length_map]
        exact smallL (by omega)
      · rw [take_snoc hn, List.filter_append, List.map_append]
        simp [c]
      · rw [upd_ne (fun z => by rw [z, hD] at e0; cases e0)]; exact (s2.trans s3) b0 o0 e0
  rintro D acc H2 ⟨rfl, hD, s2, h2⟩
  rw [show (nums rows.length).take rows.length = nums rows.length from by rw [List.take_of_length_le (by rw [nums_length]; exact Nat.le_refl _)]] at h2
  obtain ⟨x0, f0, g0⟩ : ∃ x0, ((nums rows.length).filter fun x => decide (lose rows orows x ≠ []))[0]? = some x0 ∧ (InR rows x0 ∧ lose rows orows x0 ≠ []) := by
    obtain ⟨x, hx, hl⟩ := L.first ne
    have hm : x ∈ (nums rows.length).filter fun x => decide (lose rows orows x ≠ []) := List.mem_filter.mpr ⟨mem_nums.mpr hx, decide_eq_true hl⟩
    cases e : (nums rows.length).filter fun x => decide (lose rows orows x ≠ []) with
    | nil => rw [e] at hm; cases hm
    | cons y r =>
      have hy : y ∈ (nums rows.length).filter fun x => decide (lose rows orows x ≠ []) := by rw [e]; simp
      obtain ⟨y1, y2⟩ := List.mem_filter.mp hy
      exact ⟨y, rfl, mem_nums.mp y1, of_decide_eq_true y2⟩
  refine ⟨_, _, _, _, rfl, rfl, SqL.of h2, list_at f0, ?_⟩
  -- the walk
  refine ⟨(by decide), fun W hW => ?_⟩
  have s3 := same_new hW (.lst [])
  have h3 : (upd H2 W (.lst [])) W = some (.lst (([] : List Int).map V.int)) := upd_same
  have S3 := s2.trans s3
  have hW1 : H W = none := s2.free hW
  generalize upd H2 W (.lst []) = H3 at S3 h3
  have wlen : ∀ {w : List Int} {x : Int}, WkI rows orows w x → w.length ≤ 12 := fun I => by
    have := few_of_nodup rows.length _ I.nd fun x hx => I.rng x hx
    omega
  refine while_by (fun σ H4 => ∃ (w : List Int) (x : Int), σ = [some (.ref p), some (.ref o), some (.int x), some (.ref W)] ∧ Same H H4 ∧ H4 W = some (.lst (w.map V.int)) ∧ WkI rows orows w x)
    (fun σ H4 => match H4 W with
      | some (.lst xs) => 13 - xs.length
      | _ => 0) ⟨[], x0, rfl, S3, h3, WkI.start g0.1 g0.2⟩ ?_ ?_
  · rintro σ H4 ⟨w, x, rfl, s4, h4, I4⟩
    refine ⟨_, rfl, _, rfl, _, _, rfl, .inl (SqL.of h4), rfl, flat_ints _, _, rfl, ?_⟩
    simp only [if_true, inV_int]
    have wl := wlen I4
    by_cases c : x ∈ w
    · rw [decide_eq_true c]
      refine iteF ?_
      obtain ⟨i, hi, hno, _⟩ := rm_mem' c
      obtain ⟨a, rest, ed, DR⟩ := I4.ring L hi
      refine ⟨_, rfl, _, rfl, .inl ⟨rfl, _, SqL.of h4⟩, _, rfl, W, w, x, i, rfl, rfl, h4, by omega, hi, hno, _, rfl, _, _, rfl, SqL.of h4, fun Z hZ => ?_⟩
      rw [cutDrop rfl, ← List.map_drop, ed]
      have s5 := same_new hZ (.lst ((x :: a :: rest).map V.int))
      exact q Z _ x a rest (s4.free hZ) (s4.trans s5) upd_same DR
    · rw [decide_eq_false c]
      refine iteT ?_
      refine ⟨_, rfl, .inl ⟨rfl, _, SqL.of h4⟩, _, rfl, _, _, _, rfl, rfl, h4, by rw [List.length_map]; exact smallL (by omega), ?_⟩
      have s5 : Same H (upd H4 W (.lst (w.map V.int ++ [.int x]))) := fun b0 o0 e0 => by rw [upd_ne (fun z => by rw [z, hW1] at e0; cases e0)]; exact s4 _ _ e0
      have h5 : (upd H4 W (.lst (w.map V.int ++ [.int x]))) W = some (.lst ((w ++ [x]).map V.int)) := by rw [upd_same, List.map_append]; rfl
      generalize upd H4 W (.lst (w.map V.int ++ [.int x])) = H5 at s5 h5
      refine ⟨_, rfl, _, rfl, _, rfl, p, o, rows, orows, x, rfl, RH.same s5, RO.same s5, L, I4.rp, fun l H6 hl s6 h6 => ?_⟩
      obtain ⟨y, hy⟩ : ∃ y, (lose rows orows x)[0]? = some y := by
        cases e : lose rows orows x with
        | nil => exact absurd e I4.go
        | cons y r => exact ⟨y, rfl⟩
      refine ⟨_, _, _, _, rfl, rfl, SqL.of h6, list_at hy, ⟨w ++ [x], y, rfl, s5.trans s6, s6 _ _ h5, I4.next L c (List.mem_of_getElem? hy)⟩, ?_⟩
      show (match H6 W with
          | some (.lst xs) => 13 - xs.length
          | _ => 0) < (match H4 W with
          | some (.lst xs) => 13 - xs.length
          | _ => 0)
      rw [s6 _ _ h5, h4]
      show 13 - ((w ++ [x]).map V.int).length < 13 - (w.map V.int).length
      rw [List.length_map, List.length_map, List.length_append, List.length_singleton]
      omega
  · intro σ H4 Q Q' hQ h
    obtain ⟨a1, a2, a3, a4, a5, a6, a7, a8, a9, a10, a11, a12, a13⟩ := h
    exact ⟨a1, a2, a3, a4, a5, a6, a7, a8, a9, a10, a11, a12, hQ _ _ a13⟩
theorem sc_thr : FnScope ["hall", "ring", "first", "threes", "place", "three"] ["hall", "ring"] (defScope s_threes_for) := ⟨rfl, rfl, rfl, by decide +kernel, rfl, by decide +kernel, by decide +kernel⟩
set_option maxHeartbeats 0 in
theorem ok_thr (F : Fun K "threes_for" "threes_for" s_threes_for f fd) (z : Blt mg) : FnOk P w K mg base CX0 1 f fd ["hall", "ring"] (spThrees' K) := by
  refine F.ok sc_thr (fun vs H Q E h => ?_) (fun cdv A outer s H vs Q E hr h => ?_)
  · obtain ⟨p, l, rows, r0, a, rest, rfl, _⟩ := h
    rfl
  obtain ⟨p, l, rows, r0, a, rest, rfl, ⟨as, hS, hR⟩, hL, hne, h50, hin, q⟩ := h
  have nd := sc_thr.nd
  have hrl : 1 ≤ rest.length := by
    cases rest with
    | nil => exact absurd rfl hne
    | cons y r => simp
  obtain ⟨rg, erg⟩ : ∃ rg, rg = r0 :: a :: rest := ⟨_, rfl⟩
  have rgl : rg.length = rest.length + 2 := by rw [erg]; rfl
  rw [← erg] at hL hin
  have ml : (rg.map V.int).length = rest.length + 2 := by rw [List.length_map]; exact rgl
  have g0 : rg[0]? = some r0 := by rw [erg]; rfl
  refine ⟨_, (pss_cons (ps_set (i := 2) nd rfl (by first | exact Or.inl rfl | exact Or.inr rfl) (pe_ix ix_list (pv 1) pe_int (fun _ _ => rfl)))
  (pss_cons (ps_set (i := 3) nd rfl (by first | exact Or.inl rfl | exact Or.inr rfl) (pe_lst (pa_cons (pe_tup (pa_cons (pv 2) (pa_cons (pe_ix ix_list (pv 1) (pe_un un_neg pe_int) (fun _ _ => rfl)) (pa_cons (pe_ix ix_list (pv 1) (pe_un un_neg pe_int) (fun _ _ => rfl)) pa_nil)))) pa_nil)))
  (pss_cons (PS.nox (ps_for PassesOwn.never rfl (pi_rangeD rfl z.range (pa_cons (pe_op op_sub (pe_callB call_len_seq rfl z.len (by decide +kernel) (pa_cons (pv 1) pa_nil)) pe_int) (pa_cons pe_int (pa_cons (pe_un un_neg pe_int) pa_nil)))) (pg_name (i := 4) nd rfl (by first | exact Or.inl rfl | exact Or.inr rfl)) (pss_cons (ps_set (i := 5) nd rfl (by first | exact Or.inl rfl | exact Or.inr rfl) (pe_tup (pa_cons (pv 2) (pa_cons (pe_ix ix_list (pv 1) (pe_op op_sub (pv 4) pe_int) (fun _ _ => rfl)) (pa_cons (pe_ix ix_list (pv 1) (pv 4) (fun _ _ => rfl)) pa_nil)))))
  (pss_one (ps_if (pt_cmpR op_in_seq (pv 2) (pe_ix ix_list (pv 0) (pe_ix ix_list (pv 1) (pv 4) (fun _ _ => rfl)) (fun _ _ => rfl)) (by with_unfolding_all rfl)) (pss_one (ps_expr (pe_bm PySem.F.plainAttrs_list PySem.F.slot_list_insert PySem.F.type_list_insert mt_insert (pv 3) (pa_cons pe_int (pa_cons (pv 5) pa_nil))))) (pss_one (ps_expr (pe_bm PySem.F.plainAttrs_list PySem.F.slot_list_append PySem.F.type_list_append mt_append (pv 3) (pa_cons (pv 5) pa_nil)))))))))
  (pss_one (ps_ret (pv 3)))))), ?_⟩
  refine ⟨_, rfl, _, _, _, _, rfl, rfl, hL, list_at g0, ?_⟩
  -- the last of them
  have neg : ∀ k : Nat, 1 ≤ k → k ≤ rg.length → atI (rg.map V.int) (-(k : Int)) = some (.int (rg.getD (rg.length - k) 0)) := fun k k1 k2 => by
    unfold atI ixN
    rw [if_neg (by omega), if_pos (by rw [List.length_map]; omega)]
    show (rg.map V.int)[(-(k : Int) + ((rg.map V.int).length : Int)).toNat]? = _
    rw [List.length_map, show (-(k : Int) + (rg.length : Int)).toNat = rg.length - k by omega, List.getElem?_map, List.getElem?_eq_getElem (by omega), getD_of_lt (by omega)]
    rfl
  refine ⟨_, rfl, _, rfl, _, rfl, _, _, _, _, rfl, rfl, hL, neg 2 (by omega) (by omega), _, rfl, _, rfl, _, _, _, _, rfl, rfl, hL, neg 1 (by omega) (by omega), small (by simp), fun t0 ht0 => ⟨small (by simp), fun T hT => ?_⟩⟩
  have s1 := same_new ht0 (.tup [.int r0, .int (rg.getD (rg.length - 2) 0), .int (rg.getD (rg.length - 1) 0)])
  have s2 := same_new hT (.lst [.ref t0])
  have T2 : Trip H (upd (upd H t0 (.tup [.int r0, .int (rg.getD (rg.length - 2) 0), .int (rg.getD (rg.length - 1) 0)])) T (.lst [.ref t0])) T [t0] (thr rows r0 (rg.getD (rg.length - 2) 0) (rg.drop (rg.length - 1))) := by
    have e : rg.drop (rg.length - 1) = [rg.getD (rg.length - 1) 0] := by
      rw [List.drop_eq_getElem_cons (by omega), getD_of_lt (by omega), show rg.length - 1 + 1 = rg.length by omega, List.drop_length]
    rw [e]
    exact ⟨s1.trans s2, s1.free hT, upd_same, .cons (s2 _ _ upd_same) .nil⟩
  generalize upd (upd H t0 (.tup [.int r0, .int (rg.getD (rg.length - 2) 0), .int (rg.getD (rg.length - 1) 0)])) T (.lst [.ref t0]) = H2 at T2
  refine ⟨_, rfl, _, _, rfl, .inl (T2.same.seq hL), _, _, rfl, rfl, _, rfl, _, _, rfl, ⟨by rw [ml]; omega, by rw [ml]; omega, by omega, by omega⟩, ?_⟩
  rw [ml]
  refine for_rangeD (lo := ((rest.length + 2 : Nat) : Int) - 2) (n := (((rest.length + 2 : Nat) : Int) - 2 - 1).toNat) (fun i σ H3 => ∃ (ps : List Addr) (v4 v5 : Option V), σ = [some (.ref p), some (.ref l), some (.int r0), some (.ref T), v4, v5] ∧ Trip H H3 T ps (thr rows r0 (rg.getD (rg.length - 2 - i) 0) (rg.drop (rg.length - 1 - i))))
    ⟨[t0], none, none, rfl, T2⟩ ?_ ?_
  · rintro i σ H3 hi ⟨ps, v4, v5, rfl, T3⟩
    have ei : ((rest.length + 2 : Nat) : Int) - 2 - (i : Int) = ((rg.length - 2 - i : Nat) : Int) := by omega
    rw [ei]
    obtain ⟨pl, epl⟩ : ∃ pl, rg.length - 2 - i = pl := ⟨_, rfl⟩
    rw [epl]
    have hpl : 2 ≤ pl ∧ pl + 1 < rg.length := by omega
    have e1 : rg.length - 1 - i = pl + 1 := by omega
    have e2 : rg.length - 2 - (i + 1) = pl - 1 := by omega
    have e3 : rg.length - 1 - (i + 1) = pl := by omega
    rw [epl, e1] at T3
    rw [e2, e3]
    have gp : rg[pl]? = some (rg.getD pl 0) := by rw [List.getElem?_eq_getElem (by omega), getD_of_lt (by omega)]
    have gq : rg[pl - 1]? = some (rg.getD (pl - 1) 0) := by rw [List.getElem?_eq_getElem (by omega), getD_of_lt (by omega)]
    have hL3 := T3.same.seq hL
    have iq : ((pl : Int) - 1) = ((pl - 1 : Nat) : Int) := by omega
    refine ⟨_, rfl, _, rfl, _, rfl, _, _, rfl, rfl, _, _, _, _, rfl, rfl, hL3, by rw [iq]; exact list_at gq, _, rfl, _, rfl, _, _, _, _, rfl, rfl, hL3, list_at gp, small (by simp), fun t ht => ?_⟩
    have st := same_new ht (.tup [.int r0, .int (rg.getD (pl - 1) 0), .int (rg.getD pl 0)])
    have T4 := T3.keep st
    have h4t : (upd H3 t (.tup [.int r0, .int (rg.getD (pl - 1) 0), .int (rg.getD pl 0)])) t = some (.tup [.int r0, .int (rg.getD (pl - 1) 0), .int (rg.getD pl 0)]) := upd_same
    have Tt : T ≠ t := ne_of_none T3.top ht
    have tn : H t = none := T3.same.free ht
    generalize upd H3 t (.tup [.int r0, .int (rg.getD (pl - 1) 0), .int (rg.getD pl 0)]) = H4 at T4 h4t
    obtain ⟨rx0, rx1⟩ := hin (rg.getD pl 0) (List.mem_of_getElem? gp)
    obtain ⟨a1, ea, _, ra⟩ := rows_at (rows_same hR T4.same) rx0 rx1
    have pl50 := T4.len
    rw [thr_len, List.length_drop] at pl50
    refine ⟨_, rfl, _, rfl, _, rfl, _, rfl, _, _, _, _, rfl, rfl, T4.same.seq hL, list_at gp, _, _, _, _, rfl, rfl, T4.same.seq hS, ea, _, _, rfl, .inl ra, rfl, flat_ints _, _, rfl, ?_⟩
    simp only [Bool.false_eq_true, if_false, inV_int]
    -- the new list
    have ed : rg.drop pl = rg.getD pl 0 :: rg.drop (pl + 1) := by rw [List.drop_eq_getElem_cons (by omega), getD_of_lt (by omega)]
    have ed2 : ∃ c r, rg.drop (pl + 1) = c :: r := ⟨_, _, List.drop_eq_getElem_cons (by omega)⟩
    obtain ⟨c, r, ed2⟩ := ed2
    have keepS : ∀ o : HO, Same H (upd H4 T o) := fun o b0 o0 e0 => by rw [upd_ne (fun z => by have := T4.new; rw [← z, e0] at this; cases this)]; exact T4.same _ _ e0
    have elT : ∀ {o : HO}, Paired (fun p (t : Int × Int × Int) => (upd H4 T o) p = some (.tup [.int t.1, .int t.2.1, .int t.2.2])) ps (thr rows r0 (rg.getD pl 0) (rg.drop (pl + 1))) := fun {o} => paired_imp T4.el fun b t' _ e => by
      rw [upd_ne (fun z => by have := T4.top; rw [← z, e] at this; cases this)]; exact e
    by_cases d : r0 ∈ rowAt rows (rg.getD pl 0).toNat
    · rw [decide_eq_true d]
      refine iteT ⟨_, rfl, .inl ⟨rfl, _, SqL.of T4.top⟩, _, rfl, _, _, _, _, rfl, rfl, T4.top, by omega, by omega, by rw [List.length_map]; exact smallL (by omega), ?_⟩
      refine ⟨t :: ps, _, _, rfl, keepS _, T4.new, by rw [upd_same]; rfl, ?_⟩
      rw [ed, ed2]
      unfold thr
      rw [if_pos (show r0 ∈ R rows (rg.getD pl 0) from d), ← ed2]
      exact .cons (by rw [upd_ne Tt.symm]; exact h4t) elT
    · rw [decide_eq_false d]
      refine iteF ⟨_, rfl, .inl ⟨rfl, _, SqL.of T4.top⟩, _, rfl, _, _, _, rfl, rfl, T4.top, by rw [List.length_map]; exact smallL (by omega), ?_⟩
      refine ⟨ps ++ [t], _, _, rfl, keepS _, T4.new, by rw [upd_same]; simp, ?_⟩
      rw [ed, ed2]
      unfold thr
      rw [if_neg (show r0 ∉ R rows (rg.getD pl 0) from d), ← ed2]
      exact Paired.snoc elT (by rw [upd_ne Tt.symm]; exact h4t)
  · rintro σ H3 ⟨ps, v4, v5, rfl, T3⟩
    rw [show rg.length - 2 - (((rest.length + 2 : Nat) : Int) - 2 - 1).toNat = 1 by omega, show rg.length - 1 - (((rest.length + 2 : Nat) : Int) - 2 - 1).toNat = 2 by omega] at T3
    rw [erg] at T3
    exact ⟨_, rfl, q T ps H3 T3⟩
theorem sc_turnings : FnScope ["hall", "other", "told", "now", "threes", "three"] ["hall", "other"] (defScope s_turnings) := ⟨rfl, rfl, rfl, by decide +kernel, rfl, by decide +kernel, by decide +kernel⟩
set_option maxHeartbeats 0 in
theorem ok_turnings (F : Fun K "turnings" "turnings" s_turnings f fd) (z : Blt mg) (O_Unlike : OwnE mg base "Unlike" CU) (C_wins_of : Has P w K mg base 4 "wins_of" ["hall"] (spWins K)) (C_ring_to_turn : Has P w K mg base 2 "ring_to_turn" ["hall", "other"] (spRingTo K))
    (C_threes_for : Has P w K mg base 1 "threes_for" ["hall", "ring"] (spThrees' K)) (C_turned : Has P w K mg base 4 "turned" ["hall", "ring"] (fun vs H Q _ => spTurned K CR vs H Q E0)) : FnOk P w K mg base (CXE P w) 5 f fd ["hall", "other"] (spTurnings K) := by
  refine F.okE sc_turnings (fun vs H Q E h => ?_) (fun cdv A outer s H vs Q E hr h => ?_)
  · obtain ⟨p, o, pas, oas, rows, orows, rfl, _⟩ := h
    rfl
  obtain ⟨p, o, pas, oas, rows, orows, rfl, AP, AO, L, q⟩ := h
  have RH : RdHall K H p rows := AP.rd
  have RO : RdHall K H o orows := AO.rd
  have nd := sc_turnings.nd
  have hu := hu_of hr
  have hu1 := Nat.lt_of_succ_lt hu
  refine ⟨_, (pss_cons (ps_if (pt_cmpR (op_ne_ints hu1) (pe_callH C_wins_of (hr.mono (by decide)) rfl (pa_cons (pv 0) pa_nil)) (pe_callH C_wins_of (hr.mono (by decide)) rfl (pa_cons (pv 1) pa_nil)) (nomark _)) (pss_one (ps_raise O_Unlike rfl (pa_cons pe_str pa_nil))) pss_nil)
  (pss_cons (ps_set (i := 2) nd rfl (by first | exact Or.inl rfl | exact Or.inr rfl) (pe_lst pa_nil))
  (pss_cons (ps_set (i := 3) nd rfl (by first | exact Or.inl rfl | exact Or.inr rfl) (pv 0))
  (pss_cons (PS.nox (ps_while PassesOwn.never (pt_cmpR (op_ne_rows hu) (pv 3) (pv 1) (nomark _)) (pss_cons (ps_set (i := 4) nd rfl (by first | exact Or.inl rfl | exact Or.inr rfl) (pe_callH C_threes_for (hr.mono (by decide)) rfl (pa_cons (pv 3) (pa_cons (pe_callH C_ring_to_turn (hr.mono (by decide)) rfl (pa_cons (pv 3) (pa_cons (pv 1) pa_nil))) pa_nil))))
  (pss_cons (PS.nox (ps_for PassesOwn.never rfl (pi_list (pv 4)) (pg_name (i := 5) nd rfl (by first | exact Or.inl rfl | exact Or.inr rfl)) (pss_one (ps_set (i := 3) nd rfl (by first | exact Or.inl rfl | exact Or.inr rfl) (pe_callH C_turned (hr.mono (by decide)) rfl (pa_cons (pv 3) (pa_cons (pv 5) pa_nil)))))))
  (pss_one (ps_expr (pe_bm PySem.F.plainAttrs_list PySem.F.slot_list_extend PySem.F.type_list_extend mt_extend (pv 2) (pa_cons (pv 4) pa_nil))))))))
  (pss_one (ps_ret (pv 2))))))), ?_⟩
  refine ⟨_, rfl, p, rows, rfl, RH, L.h1, fun l1 H1 hl1 s1 h1 => ⟨_, rfl, o, orows, rfl, RO.same s1, L.h2, fun l2 H2 hl2 s2 h2 => ⟨l1, l2, _, _, rfl, rfl, SqL.of (s2 _ _ h1), SqL.of h2, _, rfl, ?_⟩⟩⟩
  have s12 := s1.trans s2
  have ew : winsOf rows = winsOf orows := by
    unfold winsOf
    refine List.ext_getElem (by rw [List.length_map, List.length_map]; exact L.len) fun i a b => ?_
    rw [List.length_map] at a b
    rw [List.getElem_map, List.getElem_map]
    have w := L.wins (i : Int) ⟨by omega, by omega⟩
    rw [R_nat', R_nat'] at w
    unfold rowAt at w
    rw [getD_of_lt a, getD_of_lt b] at w
    rw [w]
  rw [decide_eq_true ew]
  refine iteF ⟨(by decide), fun T hT => ?_⟩
  have s3 := same_new hT (.lst [])
  have T3 : Trip H (upd H2 T (.lst [])) T [] [] := ⟨s12.trans s3, s12.free hT, upd_same, .nil⟩
  generalize upd H2 T (.lst []) = H3 at T3
  refine ⟨_, rfl, ?_⟩
  refine while_by (fun σ H4 => ∃ (n : Addr) (nas : List Addr) (v4 v5 : Option V) (ps : List Addr) (ts : List (Int × Int × Int)) (rows1 : List (List Int)), σ = [some (.ref p), some (.ref o), some (.ref T), some (.ref n), v4, v5] ∧ HallAt H4 n nas rows1 ∧ (T ≠ n ∧ T ∉ nas) ∧ Trip H H4 T ps ts ∧ Leads rows ts rows1 ∧ ts.length + dist rows1 orows ≤ 60 ∧ (rows = orows → ts = [] ∧ rows1 = rows))
    (fun σ H4 => match H4 T with
      | some (.lst xs) => 61 - xs.length
      | _ => 0) ⟨p, pas, none, none, [], [], rows, rfl, AP.same T3.same, hallAt_apart AP T3.new, T3, .nil _, by have := L.dist; simpa using this, fun _ => ⟨rfl, rfl⟩⟩ ?_ ?_
  · rintro σ H4 ⟨n, nas, v4, v5, ps, ts, rows1, rfl, AN, TN, T4, LD, bd, same0⟩
    have RN : RdHall K H4 n rows1 := AN.rd
    obtain ⟨as, hS, hR⟩ := id RN
    obtain ⟨bs, hS', hR'⟩ := RO.same T4.same
    have L1 := LD.like L
    refine ⟨_, rfl, _, rfl, n, o, as, bs, rows1, orows, rfl, rfl, hS, hS', hR, hR', _, rfl, ?_⟩
    by_cases c : rows1 = orows
    · rw [decide_eq_true c]
      refine iteF ⟨_, rfl, q T ps ts H4 T4 (c ▸ LD) (by omega) fun e => (same0 e).1⟩
    rw [decide_eq_false c]
    refine iteT ?_
    -- threes
    refine ⟨_, rfl, _, rfl, _, rfl, n, o, rows1, orows, rfl, RN, RO.same T4.same, L1, c, fun l H5 r0 a rest hl s5 h5 DR => ?_⟩
    have rl : rest.length + 2 ≤ 12 := by
      have := few_of_nodup rows1.length _ DR.nd fun x hx => DR.rng x hx
      have := L1.h1.hi
      simp at *
      omega
    refine ⟨n, l, rows1, r0, a, rest, rfl, RN.same s5, SqL.of h5, DR.ne, by omega, DR.rng, fun S qs H6 T6 => ?_⟩
    obtain ⟨rows2, LT, RV⟩ := DR.leads L1.h1
    have less := DR.less L1 RV
    have s46 := s5.trans T6.same
    have T6' := T4.keep s46
    have tl := thr_len rows1 r0 rest a
    have ql := T6.len
    have rest1 : 1 ≤ rest.length := by
      cases rest with
      | nil => exact absurd rfl DR.ne
      | cons y r => simp
    have ST : S ≠ T := fun z => by have := T6.new; rw [z, s5 _ _ T4.top] at this; cases this
    -- each of them turned
    refine ⟨_, rfl, _, rfl, ⟨_, SqL.of T6.top⟩, ?_⟩
    refine for_list (K := K) (a := S) (xs := qs.map V.ref) (fun i σ H7 => ∃ (n' : Addr) (nas' : List Addr) (v5 : Option V) (rows' : List (List Int)), σ = [some (.ref p), some (.ref o), some (.ref T), some (.ref n'), some (.ref S), v5] ∧ Same H6 H7 ∧ HallAt H7 n' nas' rows' ∧ (T ≠ n' ∧ T ∉ nas') ∧ IsHall rows' ∧ Leads rows' ((thr rows1 r0 a rest).drop i) rows2)
      ⟨n, nas, v5, rows1, rfl, Same.refl _, AN.same s46, TN, L1.h1, LT⟩ (fun i σ H7 _ ⟨_, _, _, _, _, s7, _⟩ => SqL.of (s7 _ _ T6.top)) ?_ ?_
    · rintro i v σ H7 hv ⟨n', nas', v5, rows', rfl, s7, AN', TN', IH', LD'⟩
      obtain ⟨t, rfl, ht⟩ := map_ref_get hv
      obtain ⟨t3, et3, ht3⟩ := paired_getA T6.el ht
      obtain ⟨x, y, u⟩ := t3
      have hil : i < (thr rows1 r0 a rest).length := (List.getElem?_eq_some_iff.mp et3).1
      have edr : (thr rows1 r0 a rest).drop i = (x, y, u) :: (thr rows1 r0 a rest).drop (i + 1) := by
        rw [List.drop_eq_getElem_cons hil]
        rw [List.getElem?_eq_getElem hil] at et3
        rw [Option.some.inj et3]
      rw [edr] at LD'
      cases LD' with
      | cons ra rb rc T3' hT' l' =>
        refine ⟨_, rfl, _, rfl, n', t, rows', x, y, u, rfl, AN'.rd, IH', SqT.of (s7 _ _ ht3), fun _ p' as' rows'' H8 N8 TB => ?_, fun bad => absurd ⟨ra, rb, rc, T3'⟩ bad⟩
        have e := turned_uniq TB hT'
        subst e
        have h7T := s7 _ _ T6'.top
        exact ⟨p', as', _, _, rfl, s7.trans N8.same, N8.at_, ⟨fun z => (by have := N8.np; rw [← z, h7T] at this; cases this), fun z => (by have := N8.na T z; rw [h7T] at this; cases this)⟩, TB.hall, l'⟩
    · rintro σ H7 ⟨n', nas', v5, rows', rfl, s7, AN', TN', IH', LD'⟩
      rw [List.length_map, ql, List.drop_length] at LD'
      have er : rows' = rows2 := by
        cases LD' with
        | nil => rfl
      subst er
      have T7 := T6'.keep s7
      have T7s := T6.keep s7
      have pl := T7.len
      -- told.extend(threes)
      refine ⟨_, rfl, .inl ⟨rfl, _, SqL.of T7.top⟩, _, rfl, T, S, _, _, rfl, rfl, T7.top, T7s.top, ?_, ?_, ?_⟩
      · rw [List.length_map, List.length_map]; exact small (by omega)
      · have T8 : Trip H (upd H7 T (.lst (ps.map V.ref ++ qs.map V.ref))) T (ps ++ qs) (ts ++ thr rows1 r0 a rest) := by
          have no : ∀ {b : Addr} {t : Int × Int × Int}, H7 b = some (.tup [.int t.1, .int t.2.1, .int t.2.2]) → (upd H7 T (.lst (ps.map V.ref ++ qs.map V.ref))) b = some (.tup [.int t.1, .int t.2.1, .int t.2.2]) := fun {b t} e => by
            rw [upd_ne (fun z => by have := T7.top; rw [← z, e] at this; cases this)]; exact e
          refine ⟨fun b0 o0 e0 => ?_, T7.new, by rw [upd_same, List.map_append], paired_app (paired_imp T7.el fun _ _ _ e => no e) (paired_imp T7s.el fun _ _ _ e => no e)⟩
          rw [upd_ne (fun z => by have := T7.new; rw [← z, e0] at this; cases this)]; exact T7.same _ _ e0
        refine ⟨n', nas', _, _, ps ++ qs, ts ++ thr rows1 r0 a rest, rows', rfl, hallAt_upd AN' TN' _, TN', T8, LD.append LT, by rw [List.length_append, tl]; omega, fun e => ?_⟩
        exact absurd (same0 e).2 fun e2 => c (by rw [e2, e])
      · show (match (upd H7 T (.lst (ps.map V.ref ++ qs.map V.ref))) T with
            | some (.lst xs) => 61 - xs.length
            | _ => 0) < (match H4 T with
            | some (.lst xs) => 61 - xs.length
            | _ => 0)
        rw [upd_same, T4.top]
        show 61 - (ps.map V.ref ++ qs.map V.ref).length < 61 - (ps.map V.ref).length
        rw [List.length_append, List.length_map, List.length_map]
        omega
  · intro σ H4 Q Q' hQ h
    obtain ⟨a1, a2, a3, a4, a5, a6, a7, a8, a9, a10, a11, a12, a13, a14, a15, a16, a17, a18, a19⟩ := h
    exact ⟨a1, a2, a3, a4, a5, a6, a7, a8, a9, a10, a11, a12, a13, a14, a15, a16, a17, a18, hQ _ _ a19⟩
end
end KH
namespace KH
open PySem L2
def spWhole : Sp := fun vs H Q _ => ∃ i : Int, vs = [.int i] ∧ Q (.bl true) H
section
variable {P : Program} {w : World} {K : PySem.W.Frag} {mg : Str → Option Value} {base : Heap} {f : Addr} {fd : FuncData}
theorem sc_whole : FnScope ["found"] ["found"] (defScope s_law_whole) := ⟨rfl, rfl, rfl, by decide +kernel, rfl, by decide +kernel, by decide +kernel⟩
theorem ok_whole (F : Fun K "_law_whole" "_law_whole" s_law_whole f fd) (z : Blt mg) : FnOk P w K mg base CX0 1 f fd ["found"] spWhole := by
  refine F.ok sc_whole (fun vs H Q E h => ?_) (fun cdv A outer s H vs Q E hr h => ?_)
  · obtain ⟨i, rfl, _⟩ := h
    rfl
  obtain ⟨i, rfl, q⟩ := h
  refine ⟨_, (pss_one (ps_ret (pe_and (pe_callB call_isinst rfl z.isinstance (by decide +kernel) (pa_cons (pv 0) (pa_cons (pe_bltn (v := .ty "int") (u := .type "int") rfl z.int (by decide +kernel) rfl) pa_nil))) (pe_one (pe_not (pe_callB call_isinst rfl z.isinstance (by decide +kernel) (pa_cons (pv 0) (pa_cons (pe_bltn (v := .ty "bool") (u := .type "bool") rfl z.bool (by decide +kernel) rfl) pa_nil)))))))), ?_⟩
  refine ⟨_, rfl, _, _, _, _, rfl, TyOf.int _, kit_int_int K, _, rfl, iteT ?_⟩
  exact ⟨_, rfl, _, _, _, _, rfl, TyOf.int _, kit_int_bool K, _, rfl, q⟩
end
end KH
namespace KH
open PySem L2
theorem HallAt.setRow {H H' : Hp} {p L : Addr} {as : List Addr} {rows : List (List Int)} {i : Nat} {r : List Int} (h : HallAt H p as rows) (hs : Same H H') (hL : H' L = some (.lst (r.map V.int))) (hn : H L = none) (hi : i < as.length) :
    HallAt (upd H' p (.lst ((as.set i L).map V.ref))) p (as.set i L) (rows.set i r) := by
  have hLp : L ≠ p := (ne_of_none h.top hn).symm
  have hLa : L ∉ as := fun hm => by
    obtain ⟨i, hi, e⟩ := List.mem_iff_getElem.mp hm
    obtain ⟨r', _, q⟩ := paired_getA h.row (List.getElem?_eq_getElem hi)
    rw [e, hn] at q
    cases q
  have set_ : ∀ {G : Addr → List Int → Prop} {as : List Addr} {rows : List (List Int)} (i : Nat), Paired G as rows → G L r → Paired G (as.set i L) (rows.set i r) := by
    intro G as rows i q g
    induction q generalizing i with
    | nil => exact .nil
    | cons a t ih =>
      cases i with
      | zero => exact .cons g t
      | succ i => exact .cons a (ih i)
  refine ⟨upd_same, set_ (G := fun a (r : List Int) => (upd H' p (.lst ((as.set i L).map V.ref))) a = some (.lst (r.map V.int))) i (paired_imp h.row fun a r' ha q => ?_) ?_, ?_, ?_⟩
  · rw [upd_ne (fun (z : a = p) => h.ne (z ▸ ha))]; exact hs _ _ q
  · rw [upd_ne hLp]; exact hL
  · have : ∀ (as : List Addr) (i : Nat), as.Nodup → L ∉ as → (as.set i L).Nodup := by
      intro as
      induction as with
      | nil => intro i _ _; exact List.nodup_nil
      | cons x as ih =>
        intro i nd nm
        rw [List.nodup_cons] at nd
        have nm' : L ≠ x ∧ L ∉ as := ⟨fun z => nm (by rw [z]; exact List.mem_cons_self), fun z => nm (List.mem_cons_of_mem _ z)⟩
        cases i with
        | zero => exact List.nodup_cons.mpr ⟨nm'.2, nd.2⟩
        | succ i =>
          refine List.nodup_cons.mpr ⟨fun m => ?_, ih i nd.2 nm'.2⟩
          rcases List.mem_or_eq_of_mem_set m with q | q
          · exact nd.1 q
          · exact nm'.1 q.symm
    exact this as i h.nd hLa
  · intro m
    rcases List.mem_or_eq_of_mem_set m with q | q
    · exact h.ne q
    · exact hLp q.symm
end KH
namespace KH
open PySem L2
def Chain (rows : List (List Int)) (a b c : Int) : Nat → List (List Int) → Prop
  | 0, r => r = rows
  | 1, r => FlipBy rows r a b
  | 2, r => ∃ r1, FlipBy rows r1 a b ∧ FlipBy r1 r b c
  | _, r => ∃ r1 r2, FlipBy rows r1 a b ∧ FlipBy r1 r2 b c ∧ FlipBy r2 r c a
def rx (a b c : Int) : Nat → Int
  | 0 => a
  | 1 => b
  | _ => c
theorem chain_next {rows r : List (List Int)} {a b c : Int} (h : IsHall rows) (T3 : Three rows a b c) (ra : 0 ≤ a ∧ a < rows.length) (rb : 0 ≤ b ∧ b < rows.length) (rc : 0 ≤ c ∧ c < rows.length) {i : Nat} (hi : i < 3) (C : Chain rows a b c i r) :
    IsHall r ∧ r.length = rows.length ∧ rx a b c ((i + 1) % 3) ∈ R r (rx a b c i) ∧ ∀ r', FlipBy r r' (rx a b c i) (rx a b c ((i + 1) % 3)) → Chain rows a b c (i + 1) r' := by
  obtain ⟨t1, t2, t3⟩ := T3
  have nab := (h.rng ra t1).2
  have nbc := (h.rng rb t2).2
  have nca := (h.rng rc t3).2
  match i, hi, C with
  | 0, _, C =>
    have e : r = rows := C
    subst e
    exact ⟨h, rfl, t1, fun r' F => F⟩
  | 1, _, C =>
    have F1 : FlipBy rows r a b := C
    refine ⟨F1.hall, F1.len, ?_, fun r' F => ⟨r, F1, F⟩⟩
    exact (F1.rel b rb.1 rb.2 c).mpr ⟨by omega, .inr t2⟩
  | 2, _, C =>
    obtain ⟨r1, F1, F2⟩ := C
    have l1 := F1.len
    have l2 := F2.len
    refine ⟨F2.hall, by omega, ?_, fun r' F => ⟨r1, r, F1, F2, F⟩⟩
    exact (F2.rel c rc.1 (by omega) a).mpr ⟨by omega, .inr ((F1.rel c rc.1 rc.2 a).mpr ⟨by omega, .inr t3⟩)⟩
def spTurn (K : PySem.W.Frag) : Sp := fun vs H Q _ => ∃ (p t : Addr) (rows : List (List Int)) (a b c : Int), vs = [.ref p, .ref t] ∧ RdHall K H p rows ∧ IsHall rows ∧ SqT K H t [.int a, .int b, .int c] ∧ Three rows a b c ∧ (0 ≤ a ∧ a < rows.length) ∧ (0 ≤ b ∧ b < rows.length) ∧ (0 ≤ c ∧ c < rows.length) ∧
  ∀ (p' : Addr) (as' : List Addr) (rows' : List (List Int)) (H' : Hp), NewHall H H' p' as' rows' → TurnedBy rows rows' a b c → Q (.ref p') H'
section
variable {P : Program} {w : World} {K : PySem.W.Frag} {mg : Str → Option Value} {base : Heap} {f : Addr} {fd : FuncData}
theorem sc_turn : FnScope ["hall", "ring", "found", "k", "one", "other"] ["hall", "ring"] (defScope s_law_turn) := ⟨rfl, rfl, rfl, by decide +kernel, rfl, by decide +kernel, by decide +kernel⟩
theorem ok_turn (F : Fun K "_law_turn" "_law_turn" s_law_turn f fd) (z : Blt mg) : FnOk P w K mg base CX0 1 f fd ["hall", "ring"] (spTurn K) := by
  refine F.ok sc_turn (fun vs H Q E h => ?_) (fun cdv A outer s H vs Q E hr h => ?_)
  · obtain ⟨p, t, rows, a, b, c, rfl, _⟩ := h
    rfl
  obtain ⟨p, t, rows, a, b, c, rfl, ⟨as, hS, hR⟩, IH, hT, T3, ra, rb, rc, q⟩ := h
  have nd := sc_turn.nd
  have h12 := IH.hi
  refine ⟨_, (pss_cons (ps_setLC (i := 2) nd rfl (by first | exact Or.inl rfl | exact Or.inr rfl) rfl (cscope (N' := ["row"]) (caps := [none])) (pi_list (pv 0)) (fun s H fp => ⟨(pg_name (i := 0) (show (["row"] : List Str).Nodup by decide +kernel) rfl (by first | exact Or.inl rfl | exact Or.inr rfl)), pif_nil, (pe_callTy (call_list_ofK (K := K) rfl) rfl z.list (by decide +kernel) (pa_cons (pv 0) pa_nil))⟩))
  (pss_cons (ps_for PassesOwn.never rfl (pi_range1 rfl z.range (pa_cons pe_int pa_nil)) (pg_name (i := 3) nd rfl (by first | exact Or.inl rfl | exact Or.inr rfl)) (pss_cons (ps_set (i := 4) nd rfl (by first | exact Or.inl rfl | exact Or.inr rfl) (pe_ix ix_tup (pv 1) (pv 3) (fun _ _ => rfl)))
  (pss_cons (ps_set (i := 5) nd rfl (by first | exact Or.inl rfl | exact Or.inr rfl) (pe_ix ix_tup (pv 1) (pe_op op_mod (pe_op op_add (pv 3) pe_int) pe_int) (fun _ _ => rfl)))
  (pss_cons (ps_expr (pe_bm PySem.F.plainAttrs_list PySem.F.slot_list_remove PySem.F.type_list_remove mt_remove (pe_ix ix_list (pv 2) (pv 4) (fun _ _ => rfl)) (pa_cons (pv 5) pa_nil)))
  (pss_one (ps_asg (pe_callB call_sorted rfl z.sorted (by decide +kernel) (pa_cons (pe_op op_cat (pe_ix ix_list (pv 2) (pv 5) (fun _ _ => rfl)) (pe_lst (pa_cons (pv 4) pa_nil))) pa_nil)) (pg_sub (pv 2) (pv 5) set_list)))))))
  (pss_one (ps_ret (pv 2))))), ?_⟩
  refine ⟨_, rfl, _, rfl, ⟨_, hS⟩, copy_comp hS hR (by omega) rfl (fun F as H1 N1 => ?_)⟩
  refine ⟨_, rfl, by decide, by decide, ?_⟩
  refine for_range (lo := 0) (n := 3) (fun i σ H2 => ∃ (as : List Addr) (r : List (List Int)) (v3 v4 v5 : Option V), σ = [some (.ref p), some (.ref t), some (.ref F), v3, v4, v5] ∧ NewHall H H2 F as r ∧ Chain rows a b c i r) ⟨as, rows, none, none, none, rfl, N1, rfl⟩ ?_ ?_
  · rintro i σ H2 hi ⟨as, r, v3, v4, v5, rfl, N2, C2⟩
    obtain ⟨IR, lr, mw, nx⟩ := chain_next IH T3 ra rb rc hi C2
    have at3 : ∀ k : Nat, k < 3 → atI [V.int a, V.int b, V.int c] (k : Int) = some (.int (rx a b c k)) := fun k hk => by
      have : k = 0 ∨ k = 1 ∨ k = 2 := by omega
      rcases this with rfl | rfl | rfl <;> rfl
    have ek : (0 : Int) + (i : Int) = (i : Int) := Int.zero_add _
    have ek1 : ((i : Int) + 1) % 3 = (((i + 1) % 3 : Nat) : Int) := by omega
    have T2 : SqT K H2 t [.int a, .int b, .int c] := by
      rcases hT with (h | ⟨o, h⟩) | h
      · exact .inl (.inl (N2.same _ _ h))
      · exact .inl (.inr ⟨o, N2.same _ _ h⟩)
      · exact .inr h
    rw [ek]
    refine ⟨_, rfl, _, rfl, _, _, _, _, rfl, rfl, T2, at3 i hi, ?_⟩
    refine ⟨_, rfl, _, rfl, _, _, rfl, rfl, _, _, rfl, rfl, (by show (0 : Int) < _; decide), _, _, _, _, rfl, rfl, T2, by rw [ek1]; exact at3 _ (by omega), ?_⟩
    -- the win of the one against the other
    have inr : ∀ k, 0 ≤ rx a b c k ∧ rx a b c k < rows.length := fun k => by
      match k with
      | 0 => exact ra
      | 1 => exact rb
      | _ + 2 => exact rc
    obtain ⟨x, ex⟩ : ∃ x : Nat, rx a b c i = (x : Int) := ⟨(rx a b c i).toNat, by have := inr i; omega⟩
    obtain ⟨y, ey⟩ : ∃ y : Nat, rx a b c ((i + 1) % 3) = (y : Int) := ⟨(rx a b c ((i + 1) % 3)).toNat, by have := inr ((i + 1) % 3); omega⟩
    have hxn : x < r.length := by have := inr i; omega
    have hyn : y < r.length := by have := inr ((i + 1) % 3); omega
    rw [ex, ey] at mw nx
    rw [ex, ey]
    rw [R_nat'] at mw
    have hxy : x ≠ y := fun e => ((IR.beat x hxn).2 _ mw).2.2 (by rw [e])
    obtain ⟨a1, f1, f2⟩ := paired_get N2.at_.row (i := x) (b := rowAt r x) (by unfold rowAt; rw [List.getElem?_eq_getElem hxn, getD_of_lt hxn])
    have e1 : atI (as.map V.ref) (x : Int) = some (.ref a1) := at_ref (by omega) (by rw [Int.toNat_natCast]; exact f1)
    obtain ⟨j, hj, hno, her⟩ := rm_mem' mw
    refine ⟨_, rfl, _, rfl, _, _, _, _, rfl, rfl, N2.at_.sq, e1, .inl ⟨rfl, _, SqL.of f2⟩, _, rfl, a1, rowAt r x, (y : Int), j, rfl, rfl, f2, hj, hno, ?_⟩
    rw [her]
    have N4 := N2.put (r' := (rowAt r x).erase (y : Int)) f1
    generalize upd H2 a1 (.lst (((rowAt r x).erase (y : Int)).map V.int)) = H4 at N4
    obtain ⟨a2, g1, g2⟩ := paired_get N4.at_.row (i := y) (b := rowAt r y) (by
      rw [List.getElem?_set_ne hxy]; unfold rowAt; rw [List.getElem?_eq_getElem hyn, getD_of_lt hyn])
    have e2 : atI (as.map V.ref) (y : Int) = some (.ref a2) := at_ref (by omega) (by rw [Int.toNat_natCast]; exact g1)
    have few2 := IR.lens.at_ y
    have hal : as.length = r.length := by have := N4.at_.len; rw [List.length_set] at this; exact this
    refine ⟨_, rfl, _, rfl, _, _, _, _, rfl, rfl, N4.at_.sq, e2, _, rfl, (by show 1 ≤ sizeLine; decide), fun L1 hL1 => ?_⟩
    have t1 := same_new hL1 (.lst [.int (x : Int)])
    refine ⟨a2, L1, _, _, rfl, rfl, t1 _ _ g2, upd_same, ?_, fun L2 hL2 => ?_⟩
    · rw [List.length_map]; exact Nat.le_of_lt (smallL (by simp; omega))
    have t2 := same_new hL2 (.lst ((rowAt r y).map V.int ++ [.int (x : Int)]))
    refine ⟨L2, rowAt r y ++ [(x : Int)], rfl, SqL.of (by rw [upd_same, List.map_append]; rfl), by simp; omega, fun L3 ns' hL3 hp hs => ?_⟩
    have t3 := same_new hL3 (.lst (ns'.map V.int))
    have tt := t1.trans (t2.trans t3)
    have hj2 : ixN (as.map V.ref).length (y : Int) = some y := by
      unfold ixN
      rw [List.length_map, if_pos (by omega)]
      split
      · rw [Int.toNat_natCast]
      · omega
    refine ⟨_, rfl, _, rfl, F, as.map V.ref, _, y, rfl, rfl, tt _ _ N4.at_.top, hj2, ?_⟩
    have A5 := N4.at_.setRow tt (L := L3) (r := ns') (i := y) upd_same (t1.free (t2.free hL3)) (by omega)
    rw [List.map_set] at A5
    have N5 := N4.grow tt
    refine ⟨as.set y L3, _, _, _, _, rfl, ⟨A5, fun b0 o e => ?_, N5.np, fun b0 hb0 => ?_⟩, nx _ (flip_of IR hxn hyn mw hp hs)⟩
    · rw [upd_ne (fun z => by have := N5.np; rw [← z, e] at this; cases this)]; exact N5.same _ _ e
    · rcases List.mem_or_eq_of_mem_set hb0 with u | u
      · exact N5.na _ u
      · rw [u]; exact N4.same.free (t1.free (t2.free hL3))
  · rintro σ H2 ⟨as, r, v3, v4, v5, rfl, N2, r1, r2, F1, F2, F3⟩
    exact ⟨_, rfl, q F as r H2 N2 (flips_turn IH T3 ra rb rc F1 F2 F3)⟩
end
end KH
namespace KH
open PySem L2
def spWalked (K : PySem.W.Frag) : Sp := fun vs H Q _ => ∃ (p o T : Addr) (rows orows : List (List Int)) (ps : List Addr) (ts : List (Int × Int × Int)), vs = [.ref p, .ref o, .ref T] ∧ RdHall K H p rows ∧ RdHall K H o orows ∧ IsHall rows ∧ H T = some (.lst (ps.map V.ref)) ∧
  Paired (fun p (t : Int × Int × Int) => H p = some (.tup [.int t.1, .int t.2.1, .int t.2.2])) ps ts ∧ Leads rows ts orows ∧ ts.length ≤ 60 ∧ (rows = orows → ts = []) ∧ ∀ H', Same H H' → Q (.bl true) H'
theorem all_repW (n : Nat) : (List.replicate n true).all id = true := by
  rw [List.all_eq_true]
  intro x hx
  exact (List.mem_replicate.mp hx).2
section
variable {P : Program} {w : World} {K : PySem.W.Frag} {mg : Str → Option Value} {base : Heap} {f : Addr} {fd : FuncData}
theorem sc_walked : FnScope ["hall", "other", "found", "here", "ring", "k"] ["hall", "other", "found"] (defScope s_law_walked) := ⟨rfl, rfl, rfl, by decide +kernel, rfl, by decide +kernel, by decide +kernel⟩
set_option maxHeartbeats 0 in
theorem ok_walked (F : Fun K "_law_walked" "_law_walked" s_law_walked f fd) (z : Blt mg) (z_tuple : mg "tuple" = none) (C_law_copy : Has P w K mg base 1 "_law_copy" ["hall"] (spCopy K)) (C_law_whole : Has P w K mg base 1 "_law_whole" ["found"] spWhole) (C_law_turn : Has P w K mg base 1 "_law_turn" ["hall", "ring"] (spTurn K)) : FnOk P w K mg base CX0 2 f fd ["hall", "other", "found"] (spWalked K) := by
  refine F.ok sc_walked (fun vs H Q E h => ?_) (fun cdv A outer s H vs Q E hr h => ?_)
  · obtain ⟨p, o, T, rows, orows, ps, ts, rfl, _⟩ := h
    rfl
  obtain ⟨p, o, T, rows, orows, ps, ts, rfl, RH, RO, IH, hT, hE, LD, h60, hno, q⟩ := h
  have nd := sc_walked.nd
  have hu := hu_of hr
  have hu1 := Nat.lt_of_succ_lt hu
  have h12 := IH.hi
  have pl : ps.length = ts.length := Paired.length hE
  obtain ⟨as, hS, hR⟩ := id RH
  have hal : (as.map V.ref).length = rows.length := by rw [List.length_map]; exact hR.length
  refine ⟨_, (pss_cons (ps_if (PW.pt (pw_or (pt_not (pt_val (pe_callB call_isinst rfl z.isinstance (by decide +kernel) (pa_cons (pv 2) (pa_cons (pe_bltn (v := .ty "list") (u := .type "list") rfl z.list (by decide +kernel) rfl) pa_nil))))) (pw_or1 (pt_cmpR op_gt (pe_callB call_len_seq rfl z.len (by decide +kernel) (pa_cons (pv 2) pa_nil)) pe_int (nomark _))))) (pss_one (ps_ret pe_bl)) pss_nil)
  (pss_cons (ps_set (i := 3) nd rfl (by first | exact Or.inl rfl | exact Or.inr rfl) (pe_callH C_law_copy (hr.mono (by decide)) rfl (pa_cons (pv 0) pa_nil)))
  (pss_cons (ps_for PassesOwn.never rfl (pi_list (pv 2)) (pg_name (i := 4) nd rfl (by first | exact Or.inl rfl | exact Or.inr rfl)) (pss_cons (ps_if (PW.pt (pw_or (pt_not (pt_val (pe_callB call_isinst rfl z.isinstance (by decide +kernel) (pa_cons (pv 4) (pa_cons (pe_bltn (v := .ty "tuple") (u := .type "tuple") rfl z_tuple (by decide +kernel) rfl) pa_nil))))) (pw_or (pt_cmpR op_ne (pe_callB call_len_seq rfl z.len (by decide +kernel) (pa_cons (pv 4) pa_nil)) pe_int (nomark _)) (pw_or1 (pt_not (pt_val (pe_callB (call_all rfl) rfl z.all (by decide +kernel) (pa_cons (pe_lc rfl (cscope (N' := ["one"]) (caps := [none])) (pi_tup (pv 4)) (fun s H fp => ⟨(pg_name (i := 0) (show (["one"] : List Str).Nodup by decide +kernel) rfl (by first | exact Or.inl rfl | exact Or.inr rfl)), pif_nil, (pe_callH C_law_whole (hr.mono (by decide)) rfl (pa_cons (pv 0) pa_nil))⟩)) pa_nil)))))))) (pss_one (ps_ret pe_bl)) pss_nil)
  (pss_cons (ps_if (pt_not (pt_val (pe_callB (call_all rfl) rfl z.all (by decide +kernel) (pa_cons (pe_lc rfl (cscope (N' := ["one", "hall"]) (caps := [none, some 0])) (pi_tup (pv 4)) (fun s H fp => ⟨(pg_name (i := 0) (show (["one", "hall"] : List Str).Nodup by decide +kernel) rfl (by first | exact Or.inl rfl | exact Or.inr rfl)), pif_nil, (pe_chain op_le op_lt pe_int (pv 0) (pe_callB (call_len_seqK (K := K) rfl) rfl z.len (by decide +kernel) (pa_cons (pv 1) pa_nil)))⟩)) pa_nil)))) (pss_one (ps_ret pe_bl)) pss_nil)
  (pss_cons (ps_for PassesOwn.never rfl (pi_range1 rfl z.range (pa_cons pe_int pa_nil)) (pg_name (i := 5) nd rfl (by first | exact Or.inl rfl | exact Or.inr rfl)) (pss_one (ps_if (pt_cmpR op_notIn_seq (pe_ix ix_tup (pv 4) (pe_op op_mod (pe_op op_add (pv 5) pe_int) pe_int) (fun _ _ => rfl)) (pe_ix ix_list (pv 3) (pe_ix ix_tup (pv 4) (pv 5) (fun _ _ => rfl)) (fun _ _ => rfl)) (by with_unfolding_all rfl)) (pss_one (ps_ret pe_bl)) pss_nil)))
  (pss_one (ps_set (i := 3) nd rfl (by first | exact Or.inl rfl | exact Or.inr rfl) (pe_callH C_law_turn (hr.mono (by decide)) rfl (pa_cons (pv 3) (pa_cons (pv 4) pa_nil)))))))))
  (pss_one (ps_ret (pe_and (pe_cmpR (op_eq_rows hu) (pv 3) (pv 1) (nomark _)) (pe_one (pe_or (pe_cmpR (op_ne_rows hu) (pv 0) (pv 1) (nomark _)) (pe_one (pe_cmpR (op_eq_ints hu1) (pv 2) (pe_lst pa_nil) (nomark _))))))))))), ?_⟩
  refine ⟨_, rfl, _, _, _, _, rfl, TyOf.lst hT, kit_list_list K, _, rfl, iteF ?_⟩
  refine ⟨_, rfl, _, _, rfl, .inl (SqL.of hT), _, _, rfl, rfl, _, rfl, ?_⟩
  rw [decide_eq_false (by rw [List.length_map]; omega)]
  refine iteF ?_
  -- here
  refine ⟨_, rfl, p, rows, rfl, RH, by omega, fun p1 as1 H1 N1 => ?_⟩
  refine ⟨_, rfl, _, rfl, ⟨_, SqL.of (N1.same _ _ hT)⟩, ?_⟩
  refine for_list (K := K) (a := T) (xs := ps.map V.ref) (fun i σ H2 => ∃ (n : Addr) (nas : List Addr) (r : List (List Int)) (v4 v5 : Option V), σ = [some (.ref p), some (.ref o), some (.ref T), some (.ref n), v4, v5] ∧ Same H H2 ∧ HallAt H2 n nas r ∧ IsHall r ∧ r.length = rows.length ∧ Leads r (ts.drop i) orows)
    ⟨p1, as1, rows, none, none, rfl, N1.same, N1.at_, IH, rfl, LD⟩ (fun i σ H2 _ ⟨_, _, _, _, _, _, s2, _⟩ => SqL.of (s2 _ _ hT)) ?_ ?_
  · rintro i v σ H2 hv ⟨n, nas, r, v4, v5, rfl, s2, A2, IR, lr, LD2⟩
    obtain ⟨t, rfl, ht⟩ := map_ref_get hv
    obtain ⟨t3, et3, ht3⟩ := paired_getA hE ht
    obtain ⟨x, y, u⟩ := t3
    have hil : i < ts.length := (List.getElem?_eq_some_iff.mp et3).1
    have edr : ts.drop i = (x, y, u) :: ts.drop (i + 1) := by
      rw [List.drop_eq_getElem_cons hil]
      rw [List.getElem?_eq_getElem hil] at et3
      rw [Option.some.inj et3]
    rw [edr] at LD2
    have ht2 := s2 _ _ ht3
    cases LD2 with
    | cons ra rb rc T3 hT' l' =>
      refine ⟨_, rfl, _, _, _, _, rfl, TyOf.tup ht2, kit_tuple_tuple K, _, rfl, iteF ?_⟩
      refine ⟨_, rfl, _, _, rfl, .inr (SqT.of ht2), rfl, _, rfl, iteNS rfl ?_⟩
      -- whole numbers
      refine ⟨_, rfl, _, rfl, ⟨_, SqT.of ht2⟩, ?_⟩
      refine lc_tup (K := K) (a := t) (xs := [V.int x, V.int y, V.int u]) (fun D i acc H3 => acc = (List.replicate i true).map V.bl ∧ H2 D = none ∧ Same H2 H3 ∧ H3 D = some (.lst acc)) (fun D hD => ⟨rfl, hD, same_new hD _, upd_same⟩)
        (fun D i acc H3 _ ⟨_, _, s3, _⟩ => SqT.of (s3 _ _ ht2)) ?_ ?_
      · rintro D j w0 acc H3 hw ⟨rfl, hD, s3, h3⟩
        have hw' : ([x, y, u].map V.int)[j]? = some w0 := hw
        obtain ⟨y0, rfl, hy0⟩ := map_int_get hw'
        have hj : j < 3 := (List.getElem?_eq_some_iff.mp hy0).1
        refine ⟨CapKeep.set rfl, tt_intro ⟨_, rfl, y0, rfl, h3, ?_, ?_⟩⟩
        · rw [List.length_map, List.length_replicate]; exact smallL (by omega)
        · refine ⟨by rw [List.replicate_succ', List.map_append]; rfl, hD, fun b o e => ?_, upd_same⟩
          rw [upd_ne (fun z => by rw [z, hD] at e; cases e)]; exact s3 b o e
      rintro D acc H3 ⟨rfl, hD, s3, h3⟩
      refine ⟨D, _, rfl, SqL.of h3, _, rfl, ?_⟩
      rw [all_repW]
      refine iteF ?_
      -- players
      have ht3' := s3 _ _ ht2
      refine ⟨_, rfl, _, rfl, ⟨_, SqT.of ht3'⟩, ?_⟩
      refine lc_tup (K := K) (a := t) (xs := [V.int x, V.int y, V.int u]) (fun D i acc H4 => acc = (List.replicate i true).map V.bl ∧ H3 D = none ∧ Same H3 H4 ∧ H4 D = some (.lst acc)) (fun D hD => ⟨rfl, hD, same_new hD _, upd_same⟩)
        (fun D i acc H4 _ ⟨_, _, s4, _⟩ => SqT.of (s4 _ _ ht3')) ?_ ?_
      · rintro D j w0 acc H4 hw ⟨rfl, hD, s4, h4⟩
        have hw' : ([x, y, u].map V.int)[j]? = some w0 := hw
        obtain ⟨y0, rfl, hy0⟩ := map_int_get hw'
        have hj : j < 3 := (List.getElem?_eq_some_iff.mp hy0).1
        have ry : 0 ≤ y0 ∧ y0 < (rows.length : Int) := by
          unfold InR at ra rb rc
          have : y0 = x ∨ y0 = y ∨ y0 = u := by
            have := List.mem_of_getElem? hy0
            simpa using this
          rcases this with rfl | rfl | rfl <;> omega
        refine ⟨CapKeep.set rfl, tt_intro ⟨_, rfl, _, _, rfl, rfl, _, rfl, ?_⟩⟩
        rw [decide_eq_true (show (0 : Int) ≤ y0 from ry.1)]
        refine iteT ⟨_, rfl, _, _, rfl, .inl (((s2.trans s3).trans s4).seq hS), _, _, rfl, rfl, h4, ?_, ?_⟩
        · rw [List.length_map, List.length_replicate]; exact smallL (by omega)
        · rw [hal, show (fun (i j : Int) => V.bl (decide (i < j))) y0 (rows.length : Int) = V.bl true from congrArg V.bl (decide_eq_true ry.2)]
          refine ⟨by rw [List.replicate_succ', List.map_append]; rfl, hD, fun b o e => ?_, upd_same⟩
          rw [upd_ne (fun z => by rw [z, hD] at e; cases e)]; exact s4 b o e
      rintro D4 acc H4 ⟨rfl, hD4, s4, h4⟩
      refine ⟨D4, _, rfl, SqL.of h4, _, rfl, ?_⟩
      rw [all_repW]
      refine iteF ?_
      have ht4 := s4 _ _ ht3'
      have A4 := A2.same (s3.trans s4)
      -- each won against the next
      refine ⟨_, rfl, by decide, by decide, ?_⟩
      refine for_range (lo := 0) (n := 3) (fun j σ H5 => ∃ v5 : Option V, H4 = H5 ∧ σ = [some (.ref p), some (.ref o), some (.ref T), some (.ref n), some (.ref t), v5]) ⟨v5, rfl, rfl⟩ ?_ ?_
      · rintro j σ H5 hj ⟨v5, rfl, rfl⟩
        rw [Int.zero_add]
        have at3 : ∀ k : Nat, k < 3 → atI [V.int x, V.int y, V.int u] (k : Int) = some (.int (rx x y u k)) := fun k hk => by
          have : k = 0 ∨ k = 1 ∨ k = 2 := by omega
          rcases this with rfl | rfl | rfl <;> rfl
        have ek1 : ((j : Int) + 1) % 3 = (((j + 1) % 3 : Nat) : Int) := by omega
        have won : InR r (rx x y u j) ∧ rx x y u ((j + 1) % 3) ∈ R r (rx x y u j) := by
          match j, hj with
          | 0, _ => exact ⟨ra, T3.1⟩
          | 1, _ => exact ⟨rb, T3.2.1⟩
          | 2, _ => exact ⟨rc, T3.2.2⟩
        obtain ⟨b1, e1, _, r1⟩ := rows_at (A4.rows (K := K)) won.1.1 won.1.2
        refine ⟨_, rfl, _, rfl, _, _, rfl, rfl, _, _, rfl, rfl, (by show (0 : Int) < _; decide), _, _, _, _, rfl, rfl, SqT.of ht4, by rw [ek1]; exact at3 _ (by omega), _, rfl, _, rfl, _, rfl, _, _, _, _, rfl, rfl, SqT.of ht4, at3 j hj, _, _, _, _, rfl, rfl, A4.sq, e1, _, _, rfl, .inl r1, rfl, flat_ints _, _, rfl, ?_⟩
        simp only [if_true, inV_int]
        rw [decide_eq_true (show rx x y u ((j + 1) % 3) ∈ rowAt r (rx x y u j).toNat from won.2)]
        exact iteF ⟨_, rfl, rfl⟩
      rintro σ H5 ⟨v5', rfl, rfl⟩
      refine ⟨_, rfl, _, rfl, n, t, r, x, y, u, rfl, A4.rd, IR, SqT.of ht4, T3, ra, rb, rc, fun p' as' rows' H6 N6 TB => ?_⟩
      have e := turned_uniq TB hT'
      subst e
      exact ⟨p', as', _, _, _, rfl, ((s2.trans s3).trans s4).trans N6.same, N6.at_, TB.hall, by rw [TB.len]; exact lr, l'⟩
  · rintro σ H2 ⟨n, nas, r, v4, v5, rfl, s2, A2, IR, lr, LD2⟩
    rw [List.length_map, pl, List.drop_length] at LD2
    have er : r = orows := by
      cases LD2 with
      | nil => rfl
    subst er
    obtain ⟨bs, hSo, hRo⟩ := RO.same s2
    obtain ⟨cs, hSh, hRh⟩ := RH.same s2
    refine ⟨_, rfl, _, rfl, n, o, nas, bs, r, r, rfl, rfl, A2.sq, hSo, A2.rows, hRo, _, rfl, ?_⟩
    rw [decide_eq_true rfl]
    refine iteT ⟨_, rfl, _, rfl, p, o, cs, bs, rows, r, rfl, rfl, hSh, hSo, hRh, hRo, _, rfl, ?_⟩
    by_cases c : rows = r
    · rw [decide_eq_true c]
      have e0 : ps = [] := List.length_eq_zero_iff.mp (by rw [pl, hno c]; rfl)
      subst e0
      refine iteF ⟨_, rfl, (by decide), fun L hL => ⟨T, L, [], [], rfl, rfl, SqL.of ((same_new hL _) _ _ (s2 _ _ hT)), SqL.of upd_same, ?_⟩⟩
      exact q _ (s2.trans (same_new hL _))
    · rw [decide_eq_false c]
      exact iteT (q H2 s2)
end
end KH
namespace KH
open PySem L2
def spRightT (K : PySem.W.Frag) : Sp := fun vs H Q _ => ∃ (p o : Addr) (rows orows : List (List Int)), vs = [.ref p, .ref o] ∧ RdHall K H p rows ∧ RdHall K H o orows ∧ Like rows orows ∧ ∀ H', Same H H' → Q (.bl true) H'
def spContrary (K : PySem.W.Frag) : Sp := fun vs H Q _ => ∃ (p : Addr) (rows : List (List Int)), vs = [.ref p] ∧ RdHall K H p rows ∧ IsHall rows ∧
  ∀ (p' : Addr) (as' : List Addr) (H' : Hp), NewHall H H' p' as' (conTo rows rows.length) → Q (.ref p') H'
section
variable {P : Program} {w : World} {K : PySem.W.Frag} {mg : Str → Option Value} {base : Heap} {f : Addr} {fd : FuncData}
theorem sc_right : FnScope ["hall", "other", "handed", "found"] ["hall", "other"] (defScope s_law_right) := ⟨rfl, rfl, rfl, by decide +kernel, rfl, by decide +kernel, by decide +kernel⟩
set_option maxHeartbeats 0 in
theorem ok_right (F : Fun K "_law_right" "_law_right" s_law_right f fd) (z : Blt mg) (C_law_copy : Has P w K mg base 1 "_law_copy" ["hall"] (spCopy K)) (C_turnings : Has P w K mg base 5 "turnings" ["hall", "other"] (spTurnings K)) (C_law_walked : Has P w K mg base 2 "_law_walked" ["hall", "other", "found"] (spWalked K)) : FnOk P w K mg base CX0 6 f fd ["hall", "other"] (spRightT K) := by
  refine F.ok sc_right (fun vs H Q E h => ?_) (fun cdv A outer s H vs Q E hr h => ?_)
  · obtain ⟨p, o, rows, orows, rfl, _⟩ := h
    rfl
  obtain ⟨p, o, rows, orows, rfl, RP, RO, L, q⟩ := h
  have nd := sc_right.nd
  have hu2 : (A.deeper (PyProof.Rows.envOfC "_law_right" (defScope s_law_right) s.heap.objs.size f cdv)).units + 2 < cLine := by have := hr.un; omega
  have h12 := L.h1.hi
  have o12 := L.h2.hi
  refine ⟨_, (pss_cons (ps_set (i := 2) nd rfl (by first | exact Or.inl rfl | exact Or.inr rfl) (pe_lst (pa_cons (pe_callH C_law_copy (hr.mono (by decide)) rfl (pa_cons (pv 0) pa_nil)) (pa_cons (pe_callH C_law_copy (hr.mono (by decide)) rfl (pa_cons (pv 1) pa_nil)) pa_nil))))
  (pss_cons (ps_set (i := 3) nd rfl (by first | exact Or.inl rfl | exact Or.inr rfl) (pe_callH C_turnings (hr.mono (by decide)) rfl (pa_cons (pe_ix ix_list (pv 2) pe_int (fun _ _ => rfl)) (pa_cons (pe_ix ix_list (pv 2) pe_int (fun _ _ => rfl)) pa_nil))))
  (pss_cons (ps_if (PW.pt (pw_or (pt_cmpR (op_ne_two hu2) (pv 2) (pe_lst (pa_cons (pv 0) (pa_cons (pv 1) pa_nil))) (nomark _)) (pw_or1 (pt_not (pt_val (pe_callH C_law_walked (hr.mono (by decide)) rfl (pa_cons (pv 0) (pa_cons (pv 1) (pa_cons (pv 3) pa_nil))))))))) (pss_one (ps_ret pe_bl)) pss_nil)
  (pss_cons (ps_expr (pe_bm PySem.F.plainAttrs_list PySem.F.slot_list_append PySem.F.type_list_append mt_append (pv 3) (pa_cons (pe_tup (pa_cons pe_int (pa_cons pe_int (pa_cons pe_int pa_nil)))) pa_nil)))
  (pss_one (ps_ret (pe_callH C_law_walked (hr.mono (by decide)) rfl (pa_cons (pv 0) (pa_cons (pv 1) (pa_cons (pe_callH C_turnings (hr.mono (by decide)) rfl (pa_cons (pe_ix ix_list (pv 2) pe_int (fun _ _ => rfl)) (pa_cons (pe_ix ix_list (pv 2) pe_int (fun _ _ => rfl)) pa_nil))) pa_nil)))))))))), ?_⟩
  -- handed
  refine ⟨_, rfl, p, rows, rfl, RP, by omega, fun p1 as1 H1 N1 => ?_⟩
  refine ⟨_, rfl, o, orows, rfl, RO.same N1.same, by omega, fun o2 bs2 H2 N2 => ?_⟩
  refine ⟨small (by simp), fun L3 hL3 => ?_⟩
  have s3 := same_new hL3 (.lst [.ref p1, .ref o2])
  have C3 := (N1.at_.same N2.same).same s3
  have E3 := N2.at_.same s3
  have S3 := (N1.same.trans N2.same).trans s3
  have h3 : (upd H2 L3 (.lst [.ref p1, .ref o2])) L3 = some (.lst [.ref p1, .ref o2]) := upd_same
  generalize upd H2 L3 (.lst [.ref p1, .ref o2]) = H3 at C3 E3 S3 h3
  have z0 : atI [V.ref p1, V.ref o2] 0 = some (.ref p1) := rfl
  have z1 : atI [V.ref p1, V.ref o2] 1 = some (.ref o2) := rfl
  -- found
  refine ⟨_, rfl, _, _, _, _, rfl, rfl, SqL.of h3, z0, _, rfl, _, _, _, _, rfl, rfl, SqL.of h3, z1, p1, o2, as1, bs2, rows, orows, rfl, C3, E3, L, fun T ps ts H4 T4 LD h60 hno => ?_⟩
  have h4 := T4.same _ _ h3
  have S4 := S3.trans T4.same
  -- handed != [hall, other]
  refine ⟨_, rfl, _, rfl, _, rfl, small (by simp), fun L5 hL5 => ?_⟩
  have s5 := same_new hL5 (.lst [.ref p, .ref o])
  have sf := T4.same.trans s5
  have rd : ∀ {x : Addr} {xs : List Addr} {r : List (List Int)}, HallAt H3 x xs r → HallR K (upd H4 L5 (.lst [.ref p, .ref o])) x r := fun h => ⟨_, (h.same sf).sq, (h.same sf).rows⟩
  refine ⟨L3, L5, p1, o2, p, o, rows, orows, rfl, rfl, SqL.of (s5 _ _ h4), SqL.of upd_same, rd C3, rd E3, RP.same (S3.trans sf), RO.same (S3.trans sf), _, rfl, iteF ?_⟩
  have T5 := T4.keep s5
  have h5 := s5 _ _ h4
  generalize upd H4 L5 (.lst [.ref p, .ref o]) = H5 at T5 h5
  refine ⟨_, rfl, _, rfl, _, rfl, p, o, T, rows, orows, ps, ts, rfl, RP.same (S3.trans T5.same), RO.same (S3.trans T5.same), L.h1, T5.top, T5.el, LD, h60, hno, fun H6 s6 => ⟨_, rfl, iteF ?_⟩⟩
  have T6 := T5.keep s6
  have h6 := s6 _ _ h5
  have pl := T6.len
  -- found.append((0, 0, 0))
  refine ⟨_, rfl, .inl ⟨rfl, _, SqL.of T6.top⟩, small (by simp), fun t ht => ?_⟩
  have s7 := same_new ht (.tup [.int 0, .int 0, .int 0])
  have T7 := T6.keep s7
  have h7 := s7 _ _ h6
  refine ⟨_, _, _, rfl, rfl, T7.top, by rw [List.length_map]; exact smallL (by omega), ?_⟩
  have s8 : ∀ o' : HO, Same H3 (upd (upd H6 t (.tup [.int 0, .int 0, .int 0])) T o') := fun o' b ob e => by
    rw [upd_ne (fun z => by have := T7.new; rw [← z, e] at this; cases this)]; exact T7.same _ _ e
  have s8' := s8 (.lst (ps.map V.ref ++ [.ref t]))
  generalize upd (upd H6 t (.tup [.int 0, .int 0, .int 0])) T (.lst (ps.map V.ref ++ [.ref t])) = H8 at s8'
  have h8 := s8' _ _ h3
  have S8 := S3.trans s8'
  -- again
  refine ⟨_, rfl, _, rfl, _, rfl, _, _, _, _, rfl, rfl, SqL.of h8, z0, _, rfl, _, _, _, _, rfl, rfl, SqL.of h8, z1, p1, o2, as1, bs2, rows, orows, rfl, C3.same s8', E3.same s8', L, fun T' ps' ts' H9 T9 LD' h60' hno' => ?_⟩
  exact ⟨p, o, T', rows, orows, ps', ts', rfl, RP.same (S8.trans T9.same), RO.same (S8.trans T9.same), L.h1, T9.top, T9.el, LD', h60', hno', fun H10 s10 => q H10 ((S8.trans T9.same).trans s10)⟩
theorem sc_contrary : FnScope ["hall", "found", "one"] ["hall"] (defScope s_law_contrary) := ⟨rfl, rfl, rfl, by decide +kernel, rfl, by decide +kernel, by decide +kernel⟩
set_option maxHeartbeats 0 in
theorem ok_contrary (F : Fun K "_law_contrary" "_law_contrary" s_law_contrary f fd) (z : Blt mg) : FnOk P w K mg base CX0 1 f fd ["hall"] (spContrary K) := by
  refine F.ok sc_contrary (fun vs H Q E h => ?_) (fun cdv A outer s H vs Q E hr h => ?_)
  · obtain ⟨p, rows, rfl, _⟩ := h
    rfl
  obtain ⟨p, rows, rfl, ⟨as, hS, hR⟩, IH, q⟩ := h
  have nd := sc_contrary.nd
  have h12 := IH.hi
  have hal : (as.map V.ref).length = rows.length := by rw [List.length_map]; exact hR.length
  refine ⟨_, (pss_cons (ps_set (i := 1) nd rfl (by first | exact Or.inl rfl | exact Or.inr rfl) (pe_lst pa_nil))
  (pss_cons (ps_for PassesOwn.never rfl (pi_range1 rfl z.range (pa_cons (pe_callB call_len_seq rfl z.len (by decide +kernel) (pa_cons (pv 0) pa_nil)) pa_nil)) (pg_name (i := 2) nd rfl (by first | exact Or.inl rfl | exact Or.inr rfl)) (pss_one (ps_expr (pe_bm PySem.F.plainAttrs_list PySem.F.slot_list_append PySem.F.type_list_append mt_append (pv 1) (pa_cons (pe_lc rfl (cscope (N' := ["other", "one", "hall"]) (caps := [none, some 2, some 0])) (pi_range1 rfl z.range (pa_cons (pe_callB call_len_seq rfl z.len (by decide +kernel) (pa_cons (pv 0) pa_nil)) pa_nil)) (fun s H fp => ⟨(pg_name (i := 0) (show (["other", "one", "hall"] : List Str).Nodup by decide +kernel) rfl (by first | exact Or.inl rfl | exact Or.inr rfl)), (pif_one (PW.pt (pw_and (pt_cmpR op_ne (pv 0) (pv 1) (nomark _)) (pw_and1 (pt_cmpR (op_notIn_seqK (K := K) rfl) (pv 0) (pe_ix (ix_listK (K := K) rfl) (pv 2) (pv 1) (fun _ _ => rfl)) (by with_unfolding_all rfl)))))), (pv 0)⟩)) pa_nil)))))
  (pss_one (ps_ret (pv 1))))), ?_⟩
  refine ⟨(by decide), fun F0 hF => ?_⟩
  refine ⟨_, rfl, _, _, rfl, .inl ((same_new hF (.lst [])).seq hS), _, rfl, by omega, by omega, ?_⟩
  rw [hal, show ((rows.length : Nat) : Int).toNat = rows.length by omega]
  refine for_range (lo := 0) (n := rows.length) (fun i σ H2 => ∃ (v2 : Option V) (bs : List Addr), σ = [some (.ref p), some (.ref F0), v2] ∧ NewHall H H2 F0 bs (conTo rows i)) ⟨none, [], rfl, NewHall.start hF⟩ ?_ ?_
  · rintro i σ H2 hi ⟨v2, bs, rfl, N2⟩
    rw [Int.zero_add]
    have hbl := N2.at_.len
    have cl : (conTo rows i).length = i := by unfold conTo; simp
    have hS2 := N2.same.seq hS
    obtain ⟨b1, e1, _, r1⟩ := rows_at hR (k := (i : Int)) (by omega) (by omega)
    refine ⟨_, rfl, .inl ⟨rfl, _, N2.at_.sq⟩, _, rfl, _, _, rfl, .inl hS2, _, rfl, by omega, by omega, ?_⟩
    rw [hal, show ((rows.length : Nat) : Int).toNat = rows.length by omega]
    refine lc_range (lo := 0) (n := rows.length) (fun D j acc H3 => acc = (((nums rows.length).take j).filter fun x => decide (x ≠ (i : Int) ∧ x ∉ rowAt rows i)).map V.int ∧ H2 D = none ∧ Same H2 H3 ∧ H3 D = some (.lst acc)) (fun D hD => ⟨rfl, hD, same_new hD _, upd_same⟩) ?_ ?_
    · rintro D j acc H3 hj ⟨rfl, hD, s3, h3⟩
      rw [Int.zero_add]
      have hn : (nums rows.length)[j]? = some (j : Int) := by unfold nums; rw [List.getElem?_map, List.getElem?_range hj]; rfl
      refine ⟨CapKeep.set rfl, _, rfl, _, rfl, rfl, _, rfl, ?_⟩
      have skip : ¬ ((j : Int) ≠ (i : Int) ∧ (j : Int) ∉ rowAt rows i) → ((((nums rows.length).take j).filter fun x => decide (x ≠ (i : Int) ∧ x ∉ rowAt rows i)).map V.int = (((nums rows.length).take (j + 1)).filter fun x => decide (x ≠ (i : Int) ∧ x ∉ rowAt rows i)).map V.int) := fun c => by
        rw [take_snoc hn, List.filter_append, List.filter_cons_of_neg (by rw [decide_eq_false c]; decide), List.filter_nil, List.append_nil]
      by_cases c : j = i
      · rw [decide_eq_true (congrArg (fun n : Nat => V.int (n : Int)) c)]
        refine iteF ?_
        refine iteF ⟨skip fun e => e.1 (by rw [c]), hD, s3, h3⟩
      · rw [decide_eq_false (fun e => c (by injection e with e; omega))]
        refine iteT ?_
        obtain ⟨b3, e3, _, r3⟩ := rows_at (rows_same hR (N2.same.trans s3)) (k := (i : Int)) (by omega) (by omega)
        refine ⟨_, rfl, _, rfl, _, rfl, _, _, _, _, rfl, rfl, (N2.same.trans s3).seq hS, e3, _, _, rfl, .inl r3, rfl, flat_ints _, _, rfl, ?_⟩
        rw [Int.toNat_natCast]
        simp only [if_true, inV_int]
        by_cases d : (j : Int) ∈ rowAt rows i
        · rw [decide_eq_true d]
          refine iteF ⟨skip fun e => e.2 d, hD, s3, h3⟩
        · rw [decide_eq_false d]
          refine iteT ⟨_, rfl, h3, ?_, ?_, hD, fun b0 o0 e0 => ?_, upd_same⟩
          · have q1 := List.length_filter_le (fun x => decide (x ≠ (i : Int) ∧ x ∉ rowAt rows i)) ((nums rows.length).take j)
            rw [List.length_take] at q1
            rw [List.length_map]
            exact smallL (by omega)
          · rw [take_snoc hn, List.filter_append, List.map_append, List.filter_cons_of_pos (by rw [decide_eq_true ⟨by omega, d⟩])]
            rfl
          · rw [upd_ne (fun z => by rw [z, hD] at e0; cases e0)]; exact s3 b0 o0 e0
    · rintro D acc H3 ⟨rfl, hD, s3, h3⟩
      rw [show (nums rows.length).take rows.length = nums rows.length from by rw [List.take_of_length_le (by rw [nums_length]; exact Nat.le_refl _)]] at h3
      refine ⟨_, _, _, rfl, rfl, s3 _ _ N2.at_.top, by rw [List.length_map]; exact smallL (by omega), ?_⟩
      refine ⟨_, bs ++ [D], rfl, ?_⟩
      rw [conTo_succ]
      exact N2.snoc' s3 h3 hD
  · rintro σ H2 ⟨v2, bs, rfl, N2⟩
    exact ⟨_, rfl, q F0 bs H2 N2⟩
end
end KH
namespace KH
open PySem L2
abbrev T4 := Addr × Int × Int × Int
structure Threes (H H' : Hp) (T : Addr) (rows : List (List Int)) (ts : List T4) (Pd : Int → Int → Int → Prop) : Prop where
  same : Same H H'
  new : H T = none
  top : H' T = some (.lst (ts.map fun e => V.ref e.1))
  el : ∀ e ∈ ts, H e.1 = none ∧ H' e.1 = some (.tup [.int e.2.1, .int e.2.2.1, .int e.2.2.2]) ∧ Three rows e.2.1 e.2.2.1 e.2.2.2 ∧ (0 ≤ e.2.1 ∧ e.2.1 < rows.length)
  all : ∀ a b c, Pd a b c → Three rows a b c → ∃ t, (t, a, b, c) ∈ ts
theorem Threes.mono {H H' : Hp} {T : Addr} {rows : List (List Int)} {ts : List T4} {Pd Pe : Int → Int → Int → Prop} (h : Threes H H' T rows ts Pd) (hp : ∀ a b c, Pe a b c → Three rows a b c → Pd a b c) : Threes H H' T rows ts Pe :=
  ⟨h.same, h.new, h.top, h.el, fun a b c p t => h.all a b c (hp a b c p t) t⟩
theorem Threes.add {H H' : Hp} {T : Addr} {rows : List (List Int)} {ts : List T4} {Pd Pe : Int → Int → Int → Prop} (h : Threes H H' T rows ts Pd) {t : Addr} (ht : H' t = none) {x y z : Int} (T3 : Three rows x y z) (rx : 0 ≤ x ∧ x < rows.length)
    (hp : ∀ a b c, Pe a b c → Three rows a b c → Pd a b c ∨ (a = x ∧ b = y ∧ c = z)) : Threes H (upd (upd H' t (.tup [.int x, .int y, .int z])) T (.lst ((ts.map fun e => V.ref e.1) ++ [.ref t]))) T rows (ts ++ [(t, x, y, z)]) Pe := by
  have nT : T ≠ t := ne_of_none h.top ht
  have s1 := same_new ht (.tup [.int x, .int y, .int z])
  refine ⟨fun b o e => ?_, h.new, by rw [upd_same]; simp, fun e he => ?_, fun a b c p t3 => ?_⟩
  · rw [upd_ne (fun q => by have := h.new; rw [← q, e] at this; cases this)]; exact s1 _ _ (h.same _ _ e)
  · rcases List.mem_append.mp he with u | u
    · obtain ⟨e1, e2, e3, e4⟩ := h.el e u
      exact ⟨e1, by rw [upd_ne (fun q => by have := h.top; rw [← q, e2] at this; cases this)]; exact s1 _ _ e2, e3, e4⟩
    · have : e = (t, x, y, z) := by simpa using u
      subst this
      exact ⟨h.same.free ht, by rw [upd_ne nT.symm, upd_same], T3, rx⟩
  · rcases hp a b c p t3 with u | ⟨rfl, rfl, rfl⟩
    · obtain ⟨t', m⟩ := h.all a b c u t3
      exact ⟨t', List.mem_append_left _ m⟩
    · exact ⟨t, by simp⟩
def spThrees (K : PySem.W.Frag) : Sp := fun vs H Q _ => ∃ (p : Addr) (rows : List (List Int)), vs = [.ref p] ∧ RdHall K H p rows ∧ IsHall rows ∧
  ∀ (T : Addr) (ts : List T4) (H' : Hp), Threes H H' T rows ts (fun a _ _ => 0 ≤ a ∧ a < rows.length) → ts.length ≤ 1728 → Q (.ref T) H'
section
variable {P : Program} {w : World} {K : PySem.W.Frag} {mg : Str → Option Value} {base : Heap} {f : Addr} {fd : FuncData}
theorem sc_threes : FnScope ["hall", "found", "one", "other", "third"] ["hall"] (defScope s_law_threes) := ⟨rfl, rfl, rfl, by decide +kernel, rfl, by decide +kernel, by decide +kernel⟩
theorem ok_threes (F : Fun K "_law_threes" "_law_threes" s_law_threes f fd) (z : Blt mg) : FnOk P w K mg base CX0 1 f fd ["hall"] (spThrees K) := by
  refine F.ok sc_threes (fun vs H Q E h => ?_) (fun cdv A outer s H vs Q E hr h => ?_)
  · obtain ⟨p, rows, rfl, _⟩ := h
    rfl
  obtain ⟨p, rows, rfl, ⟨as, hS, hR⟩, IH, q⟩ := h
  have nd := sc_threes.nd
  have h12 := IH.hi
  have hal : (as.map V.ref).length = rows.length := by rw [List.length_map]; exact hR.length
  refine ⟨_, (pss_cons (ps_set (i := 1) nd rfl (by first | exact Or.inl rfl | exact Or.inr rfl) (pe_lst pa_nil))
  (pss_cons (ps_for PassesOwn.never rfl (pi_range1 rfl z.range (pa_cons (pe_callB call_len_seq rfl z.len (by decide +kernel) (pa_cons (pv 0) pa_nil)) pa_nil)) (pg_name (i := 2) nd rfl (by first | exact Or.inl rfl | exact Or.inr rfl)) (pss_one (ps_for PassesOwn.never rfl (pi_list (pe_ix ix_list (pv 0) (pv 2) (fun _ _ => rfl))) (pg_name (i := 3) nd rfl (by first | exact Or.inl rfl | exact Or.inr rfl)) (pss_one (ps_for PassesOwn.never rfl (pi_list (pe_ix ix_list (pv 0) (pv 3) (fun _ _ => rfl))) (pg_name (i := 4) nd rfl (by first | exact Or.inl rfl | exact Or.inr rfl)) (pss_one (ps_if (pt_cmpR op_in_seq (pv 2) (pe_ix ix_list (pv 0) (pv 4) (fun _ _ => rfl)) (by with_unfolding_all rfl)) (pss_one (ps_expr (pe_bm PySem.F.plainAttrs_list PySem.F.slot_list_append PySem.F.type_list_append mt_append (pv 1) (pa_cons (pe_tup (pa_cons (pv 2) (pa_cons (pv 3) (pa_cons (pv 4) pa_nil)))) pa_nil)))) pss_nil)))))))
  (pss_one (ps_ret (pv 1))))), ?_⟩
  refine ⟨(by decide), fun T hT => ?_⟩
  have Th0 : Threes H (upd H T (.lst [])) T rows [] (fun a b c => False) := ⟨same_new hT _, hT, upd_same, (fun e he => by cases he), fun a b c p => p.elim⟩
  generalize upd H T (.lst []) = H1 at Th0
  refine ⟨_, rfl, _, _, rfl, .inl (Th0.same.seq hS), _, rfl, by omega, by omega, ?_⟩
  rw [hal, show (((rows.length : Nat)) : Int).toNat = rows.length by omega]
  refine for_range (lo := 0) (n := rows.length) (fun i σ H2 => ∃ (ts : List T4) (v2 v3 v4 : Option V), σ = [some (.ref p), some (.ref T), v2, v3, v4] ∧ ts.length ≤ i * 144 ∧ Threes H H2 T rows ts (fun a _ _ => 0 ≤ a ∧ a < i)) ⟨[], none, none, none, rfl, by simp, Th0.mono fun a b c p _ => by omega⟩ ?_ ?_
  · rintro i σ H2 hi ⟨ts, v2, v3, v4, rfl, tl, Th⟩
    rw [Int.zero_add]
    obtain ⟨a1, e1, _, r1⟩ := rows_at hR (k := (i : Int)) (by omega) (by omega)
    rw [Int.toNat_natCast] at r1
    have few1 := IH.few i hi
    refine ⟨_, rfl, _, rfl, _, _, _, _, rfl, rfl, Th.same.seq hS, e1, _, rfl, ⟨_, Th.same.seq r1⟩, ?_⟩
    refine for_list (K := K) (a := a1) (xs := (rowAt rows i).map V.int) (fun j σ H3 => ∃ (ts : List T4) (v3 v4 : Option V), σ = [some (.ref p), some (.ref T), some (.int (i : Int)), v3, v4] ∧ ts.length ≤ i * 144 + j * 12 ∧ Threes H H3 T rows ts (fun a b _ => 0 ≤ a ∧ (a < i ∨ (a = i ∧ b ∈ (rowAt rows i).take j))))
      ⟨ts, v3, v4, rfl, by omega, Th.mono fun a b c p _ => ?_⟩ (fun j σ H3 _ ⟨_, _, _, _, _, Th3⟩ => Th3.same.seq r1) ?_ ?_
    · simp at p; omega
    · rintro j v σ H3 hv ⟨ts, v3, v4, rfl, tl, Th⟩
      obtain ⟨y, rfl, hy⟩ := map_int_get hv
      have hj : j < (rowAt rows i).length := (List.getElem?_eq_some_iff.mp hy).1
      have my : y ∈ rowAt rows i := List.mem_of_getElem? hy
      obtain ⟨y0, y1, y2⟩ := (IH.beat i hi).2 y my
      obtain ⟨a2, e2, _, r2⟩ := rows_at hR (k := y) y0 y1
      have few2 := IH.few y.toNat (by omega)
      refine ⟨_, rfl, _, rfl, _, _, _, _, rfl, rfl, Th.same.seq hS, e2, _, rfl, ⟨_, Th.same.seq r2⟩, ?_⟩
      refine for_list (K := K) (a := a2) (xs := (rowAt rows y.toNat).map V.int) (fun k σ H4 => ∃ (ts : List T4) (v4 : Option V), σ = [some (.ref p), some (.ref T), some (.int (i : Int)), some (.int y), v4] ∧ ts.length ≤ i * 144 + j * 12 + k ∧ Threes H H4 T rows ts (fun a b c => 0 ≤ a ∧ (a < i ∨ (a = i ∧ (b ∈ (rowAt rows i).take j ∨ (b = y ∧ c ∈ (rowAt rows y.toNat).take k))))))
        ⟨ts, v4, rfl, by omega, Th.mono fun a b c p _ => ?_⟩ (fun k σ H4 _ ⟨_, _, _, _, Th4⟩ => Th4.same.seq r2) ?_ ?_
      · simpa using p
      · rintro k v σ H4 hv ⟨ts, v4, rfl, tl, Th⟩
        obtain ⟨u, rfl, hu⟩ := map_int_get hv
        have hk : k < (rowAt rows y.toNat).length := (List.getElem?_eq_some_iff.mp hu).1
        have mu : u ∈ rowAt rows y.toNat := List.mem_of_getElem? hu
        obtain ⟨u0, u1, u2⟩ := (IH.beat y.toNat (by omega)).2 u mu
        obtain ⟨a3, e3, _, r3⟩ := rows_at hR (k := u) u0 u1
        refine ⟨_, rfl, _, rfl, _, rfl, _, _, _, _, rfl, rfl, Th.same.seq hS, e3, _, _, rfl, .inl (Th.same.seq r3), rfl, flat_ints _, _, rfl, ?_⟩
        simp only [Bool.false_eq_true, if_false, inV_int]
        have nxt : ∀ a b c, (0 ≤ a ∧ (a < (i : Int) ∨ (a = (i : Int) ∧ (b ∈ (rowAt rows i).take j ∨ (b = y ∧ c ∈ (rowAt rows y.toNat).take (k + 1)))))) → (0 ≤ a ∧ (a < (i : Int) ∨ (a = (i : Int) ∧ (b ∈ (rowAt rows i).take j ∨ (b = y ∧ c ∈ (rowAt rows y.toNat).take k))))) ∨ (a = (i : Int) ∧ b = y ∧ c = u) := fun a b c h => by
          rw [take_snoc hu, List.mem_append] at h
          obtain ⟨g0, g1 | ⟨g1, g2 | ⟨g2, g3 | g3⟩⟩⟩ := h
          · exact .inl ⟨g0, .inl g1⟩
          · exact .inl ⟨g0, .inr ⟨g1, .inl g2⟩⟩
          · exact .inl ⟨g0, .inr ⟨g1, .inr ⟨g2, g3⟩⟩⟩
          · exact .inr ⟨g1, g2, by simpa using g3⟩
        by_cases d : (i : Int) ∈ rowAt rows u.toNat
        · rw [decide_eq_true d]
          refine iteT ⟨_, rfl, .inl ⟨rfl, _, SqL.of Th.top⟩, _, rfl, _, rfl, _, rfl, small (by simp), fun t ht => ?_⟩
          have hTt := same_new ht (.tup [.int (i : Int), .int y, .int u]) _ _ Th.top
          refine ⟨_, _, _, rfl, rfl, hTt, by rw [List.length_map]; exact Nat.lt_of_le_of_lt (show ts.length ≤ 5000 by omega) (by decide), ?_⟩
          refine ⟨ts ++ [(t, (i : Int), y, u)], _, rfl, by rw [List.length_append, List.length_singleton]; omega, Th.add ht ⟨by rw [R_nat']; exact my, mu, d⟩ ⟨by omega, by omega⟩ fun a b c p _ => nxt a b c p⟩
        · rw [decide_eq_false d]
          refine iteF ⟨ts, _, rfl, by omega, Th.mono fun a b c p t3 => ?_⟩
          rcases nxt a b c p with g | ⟨g1, g2, g3⟩
          · exact g
          · exact absurd (by have := t3.2.2; rw [g1, g3] at this; exact this) d
      · rintro σ H4 ⟨ts, v4, rfl, tl, Th⟩
        rw [List.length_map] at tl Th
        refine ⟨ts, _, _, rfl, by rw [Nat.add_mul]; omega, Th.mono fun a b c p t3 => ?_⟩
        rw [List.take_length]
        rw [take_snoc hy, List.mem_append] at p
        obtain ⟨g0, g1 | ⟨g1, g2 | g2⟩⟩ := p
        · exact ⟨g0, .inl g1⟩
        · exact ⟨g0, .inr ⟨g1, .inl g2⟩⟩
        · have : b = y := by simpa using g2
          exact ⟨g0, .inr ⟨g1, .inr ⟨this, by have := t3.2.1; rw [‹b = y›] at this; exact this⟩⟩⟩
    · rintro σ H3 ⟨ts, v3, v4, rfl, tl, Th⟩
      rw [List.length_map] at tl Th
      refine ⟨ts, _, _, _, rfl, by rw [Nat.add_mul]; omega, Th.mono fun a b c p t3 => ?_⟩
      rw [List.take_length]
      by_cases g : a < (i : Int)
      · exact ⟨p.1, .inl g⟩
      · have ea : a = (i : Int) := by omega
        exact ⟨p.1, .inr ⟨ea, by have := t3.1; rw [ea, R_nat'] at this; exact this⟩⟩
  · rintro σ H2 ⟨ts, v2, v3, v4, rfl, tl, Th⟩
    exact ⟨_, rfl, q T ts H2 Th (by omega)⟩
end
end KH
namespace KH
open PySem L2
def spGood (K : PySem.W.Frag) : Sp := fun vs H Q _ => ∃ (p : Addr) (rows : List (List Int)), vs = [.ref p] ∧ RdHall K H p rows ∧ rows.length ≤ 1000 ∧ (∀ i, (rowAt rows i).length ≤ 1000) ∧ Q (.bl (dec (IsHall rows))) H
section
variable {P : Program} {w : World} {K : PySem.W.Frag} {mg : Str → Option Value} {base : Heap} {f : Addr} {fd : FuncData}
theorem sc_good : FnScope ["hall", "many", "one", "k", "other"] ["hall"] (defScope s_law_good) := ⟨rfl, rfl, rfl, by decide +kernel, rfl, by decide +kernel, by decide +kernel⟩
theorem ok_good (F : Fun K "_law_good" "_law_good" s_law_good f fd) (z : Blt mg) : FnOk P w K mg base CX0 1 f fd ["hall"] (spGood K) := by
  refine F.ok sc_good (fun vs H Q E h => ?_) (fun cdv A outer s H vs Q E hr h => ?_)
  · obtain ⟨p, rows, rfl, _⟩ := h
    rfl
  obtain ⟨p, rows, rfl, ⟨as, hS, hR⟩, hz, hzr, q⟩ := h
  have nd := sc_good.nd
  have hl : (as.map V.ref).length = rows.length := by rw [List.length_map]; exact hR.length
  refine ⟨_, (pss_cons (ps_set (i := 1) nd rfl (by first | exact Or.inl rfl | exact Or.inr rfl) (pe_callB call_len_seq rfl z.len (by decide +kernel) (pa_cons (pv 0) pa_nil)))
  (pss_cons (ps_if (PW.pt (pw_or (pt_cmpR op_lt (pv 1) pe_int (nomark _)) (pw_or1 (pt_cmpR op_gt (pv 1) pe_int (nomark _))))) (pss_one (ps_ret pe_bl)) pss_nil)
  (pss_cons (ps_for PassesOwn.never rfl (pi_range1 rfl z.range (pa_cons (pv 1) pa_nil)) (pg_name (i := 2) nd rfl (by first | exact Or.inl rfl | exact Or.inr rfl)) (pss_one (ps_for PassesOwn.never rfl (pi_range1 rfl z.range (pa_cons (pe_callB call_len_seq rfl z.len (by decide +kernel) (pa_cons (pe_ix ix_list (pv 0) (pv 2) (fun _ _ => rfl)) pa_nil)) pa_nil)) (pg_name (i := 3) nd rfl (by first | exact Or.inl rfl | exact Or.inr rfl)) (pss_cons (ps_if (PW.pt (pw_or (pt_not (pt_chain op_le op_lt pe_int (pe_ix ix_list (pe_ix ix_list (pv 0) (pv 2) (fun _ _ => rfl)) (pv 3) (fun _ _ => rfl)) (pv 1))) (pw_or1 (pt_cmpR op_eq (pe_ix ix_list (pe_ix ix_list (pv 0) (pv 2) (fun _ _ => rfl)) (pv 3) (fun _ _ => rfl)) (pv 2) (nomark _))))) (pss_one (ps_ret pe_bl)) pss_nil)
  (pss_one (ps_if (PW.pt (pw_and (pt_cmpR op_gt (pv 3) pe_int (nomark _)) (pw_and1 (pt_cmpR op_le (pe_ix ix_list (pe_ix ix_list (pv 0) (pv 2) (fun _ _ => rfl)) (pv 3) (fun _ _ => rfl)) (pe_ix ix_list (pe_ix ix_list (pv 0) (pv 2) (fun _ _ => rfl)) (pe_op op_sub (pv 3) pe_int) (fun _ _ => rfl)) (nomark _))))) (pss_one (ps_ret pe_bl)) pss_nil))))))
  (pss_cons (ps_for PassesOwn.never rfl (pi_range1 rfl z.range (pa_cons (pv 1) pa_nil)) (pg_name (i := 2) nd rfl (by first | exact Or.inl rfl | exact Or.inr rfl)) (pss_one (ps_for PassesOwn.never rfl (pi_range1 rfl z.range (pa_cons (pv 2) pa_nil)) (pg_name (i := 4) nd rfl (by first | exact Or.inl rfl | exact Or.inr rfl)) (pss_one (ps_if (pt_cmpR op_ne (pe_op op_add (pe_callTy call_int1 rfl z.int (by decide +kernel) (pa_cons (pe_cmpR op_in_seq (pv 2) (pe_ix ix_list (pv 0) (pv 4) (fun _ _ => rfl)) (by with_unfolding_all rfl)) pa_nil)) (pe_callTy call_int1 rfl z.int (by decide +kernel) (pa_cons (pe_cmpR op_in_seq (pv 4) (pe_ix ix_list (pv 0) (pv 2) (fun _ _ => rfl)) (by with_unfolding_all rfl)) pa_nil))) pe_int (nomark _)) (pss_one (ps_ret pe_bl)) pss_nil)))))
  (pss_one (ps_ret pe_bl)))))), ?_⟩
  refine ⟨_, rfl, _, _, rfl, .inl hS, ?_⟩
  rw [hl]
  have nohall : ¬ IsHall rows → Q (.bl false) H := fun h => by
    rw [dec_false h] at q
    exact q
  refine ⟨_, rfl, _, _, rfl, rfl, _, rfl, ?_⟩
  refine ite2 (fun c => iteT (nohall fun h => ?_)) (fun c => ?_)
  · have := of_decide_eq_true c; have := h.lo; omega
  refine ⟨_, rfl, _, _, rfl, rfl, _, rfl, ?_⟩
  refine ite2 (fun d => nohall fun h => ?_) (fun d => ?_)
  · have := of_decide_eq_true d; have := h.hi; omega
  have c' := of_decide_eq_false (Bool.eq_false_iff.mpr c)
  have d' := of_decide_eq_false (Bool.eq_false_iff.mpr d)
  refine ⟨_, rfl, _, rfl, by omega, by omega, ?_⟩
  have hn : ((rows.length : Nat) : Int).toNat = rows.length := by omega
  rw [hn]
  refine for_range (lo := 0) (n := rows.length) (fun i σ H2 => ∃ v2 v3 v4 : Option V, H = H2 ∧ σ = [some (.ref p), some (.int rows.length), v2, v3, v4] ∧ ∀ j, j < i → BeatenOk (rowAt rows j) j rows.length)
    ⟨none, none, none, rfl, rfl, fun j hj => by omega⟩ ?_ ?_
  · rintro i σ H2 hi ⟨v2, v3, v4, rfl, rfl, B⟩
    obtain ⟨a1, e1, _, s1⟩ := rows_at hR (k := 0 + (i : Int)) (by omega) (by omega)
    rw [show (0 + (i : Int)).toNat = i by omega] at s1
    have hzi := hzr i
    refine ⟨_, rfl, _, rfl, _, _, _, _, rfl, rfl, hS, e1, _, _, rfl, .inl s1, _, rfl, by omega, by rw [List.length_map]; omega, ?_⟩
    have hn : (((List.map V.int (rowAt rows i)).length : Nat) : Int).toNat = (rowAt rows i).length := by rw [List.length_map]; omega
    rw [hn]
    refine for_range (lo := 0) (n := (rowAt rows i).length) (fun k σ H2 => ∃ v3 v4 : Option V, H = H2 ∧ σ = [some (.ref p), some (.int rows.length), some (.int (0 + (i : Int))), v3, v4] ∧ BeatenOk ((rowAt rows i).take k) i rows.length)
      ⟨_, _, rfl, rfl, beaten_nil _ _⟩ ?_ ?_
    · rintro k σ H2 hk ⟨v3, v4, rfl, rfl, Bk⟩
      have hy : (rowAt rows i)[k]? = some ((rowAt rows i).getD k 0) := by rw [getD_of_lt hk]; exact List.getElem?_eq_getElem hk
      have ak : atI ((rowAt rows i).map V.int) (0 + (k : Int)) = some (.int ((rowAt rows i).getD k 0)) := by
        have := at_int (ns := rowAt rows i) (k := 0 + (k : Int)) (by omega) (by omega)
        rw [show (0 + (k : Int)).toNat = k by omega] at this; exact this
      generalize hyy : (rowAt rows i).getD k 0 = y at hy ak
      have no : ¬ (0 ≤ y ∧ lastD ((rowAt rows i).take k) < y ∧ y < rows.length ∧ y ≠ i) → Q (.bl false) H := fun hno => nohall fun h => hno (by
        have hb := h.beat i hi
        have q1 := (hb.2 y (List.mem_of_getElem? hy)).1
        have := beaten_take hb (k + 1)
        rw [take_snoc hy] at this
        exact ⟨q1, (beaten_snoc.mp this).2⟩)
      -- not 0 <= hall[one][k] < many
      refine ⟨_, rfl, _, rfl, _, _, _, _, rfl, rfl, hS, e1, _, rfl, _, _, _, _, rfl, rfl, s1, ak, _, _, rfl, rfl, _, rfl, ?_⟩
      refine ite2 (fun c1 => ?_) (fun c1 => ⟨_, rfl, iteT (iteT (no fun z => ?_))⟩)
      rotate_left
      · have := of_decide_eq_false (Bool.eq_false_iff.mpr c1); omega
      have c1' := of_decide_eq_true c1
      refine ⟨_, rfl, _, _, rfl, rfl, _, rfl, ?_⟩
      refine ite2 (fun c2 => iteT (no fun z => ?_)) (fun c2 => ?_)
      · have c2' : decide (y < (rows.length : Int)) = false := by simpa using c2
        have := of_decide_eq_false c2'; omega
      have c2' : y < (rows.length : Int) := by simpa using c2
      refine ⟨_, rfl, _, rfl, _, _, _, _, rfl, rfl, hS, e1, _, rfl, _, _, _, _, rfl, rfl, s1, ak, _, rfl, rfl, _, rfl, ?_⟩
      refine ite2 (fun c3 => no fun z => ?_) (fun c3 => ?_)
      · have := of_decide_eq_true c3
        injection this with this
        exact z.2.2.2 (by omega)
      have c3' : y ≠ i := fun z => (of_decide_eq_false (Bool.eq_false_iff.mpr c3)) (by rw [z, Int.zero_add])
      -- k > 0 and hall[one][k] <= hall[one][k - 1]
      have bk : lastD ((rowAt rows i).take k) < y → BeatenOk ((rowAt rows i).take (k + 1)) i rows.length := fun hlt => by
        rw [take_snoc hy]
        exact beaten_snoc.mpr ⟨Bk, hlt, c2', c3'⟩
      refine ⟨_, rfl, _, _, rfl, rfl, _, rfl, ?_⟩
      refine ite2 (fun g => ?_) (fun g => iteF ⟨_, _, rfl, rfl, bk ?_⟩)
      · have g' := of_decide_eq_true g
        obtain ⟨k', rfl⟩ : ∃ k', k = k' + 1 := ⟨k - 1, by omega⟩
        have hx : (rowAt rows i)[k']? = some ((rowAt rows i).getD k' 0) := by rw [getD_of_lt (by omega)]; exact List.getElem?_eq_getElem (by omega)
        have ak' : atI ((rowAt rows i).map V.int) (0 + ((k' + 1 : Nat) : Int) - 1) = some (.int ((rowAt rows i).getD k' 0)) := by
          have := at_int (ns := rowAt rows i) (k := 0 + ((k' + 1 : Nat) : Int) - 1) (by omega) (by omega)
          rw [show (0 + ((k' + 1 : Nat) : Int) - 1).toNat = k' by omega] at this; exact this
        have hlast : lastD ((rowAt rows i).take (k' + 1)) = (rowAt rows i).getD k' 0 := by rw [take_snoc hx, lastD_snoc]
        refine ⟨_, rfl, _, rfl, _, _, _, _, rfl, rfl, hS, e1, _, rfl, _, _, _, _, rfl, rfl, s1, ak, _, rfl, _, rfl, _, _, _, _, rfl, rfl, hS, e1, _, rfl, _, _, rfl, rfl, _, _, _, _, rfl, rfl, s1, ak', _, _, rfl, rfl, _, rfl, ?_⟩
        refine ite2 (fun g2 => no fun z => ?_) (fun g2 => ⟨_, _, rfl, rfl, bk ?_⟩)
        · have := of_decide_eq_true g2
          rw [hlast] at z; omega
        · have := of_decide_eq_false (Bool.eq_false_iff.mpr g2)
          rw [hlast]; omega
      · have g' := of_decide_eq_false (Bool.eq_false_iff.mpr g)
        have : k = 0 := by omega
        subst this
        show (-1 : Int) < y
        omega
    · rintro σ H2 ⟨v3, v4, rfl, rfl, Bk⟩
      rw [List.take_length] at Bk
      refine ⟨_, _, _, rfl, rfl, fun j hj => ?_⟩
      by_cases h : j < i
      · exact B j h
      · have : j = i := by omega
        subst this; exact Bk
  rintro σ H2 ⟨v2, v3, v4, rfl, rfl, B⟩
  refine ⟨_, rfl, _, rfl, by omega, by omega, ?_⟩
  rw [hn]
  refine for_range (lo := 0) (n := rows.length) (fun i σ H2 => ∃ v2 v3 v4 : Option V, H = H2 ∧ σ = [some (.ref p), some (.int rows.length), v2, v3, v4] ∧ ∀ i' j' : Nat, j' < i' → i' < i → (((j' : Int) ∈ rowAt rows i') ↔ ¬ ((i' : Int) ∈ rowAt rows j')))
    ⟨_, _, _, rfl, rfl, fun i' j' _ h => by omega⟩ ?_ ?_
  · rintro i σ H2 hi ⟨v2, v3, v4, rfl, rfl, D⟩
    refine ⟨_, rfl, _, rfl, by omega, by omega, ?_⟩
    have hn : (0 + (i : Int)).toNat = i := by omega
    rw [hn]
    refine for_range (lo := 0) (n := i) (fun j σ H2 => ∃ v4 : Option V, H = H2 ∧ σ = [some (.ref p), some (.int rows.length), some (.int (0 + (i : Int))), v3, v4] ∧ ∀ j' : Nat, j' < j → (((j' : Int) ∈ rowAt rows i) ↔ ¬ ((i : Int) ∈ rowAt rows j')))
      ⟨_, rfl, rfl, fun j' h => by omega⟩ ?_ ?_
    · rintro j σ H2 hj ⟨v4, rfl, rfl, Dj⟩
      obtain ⟨a1, e1, _, s1⟩ := rows_at hR (k := 0 + (i : Int)) (by omega) (by omega)
      obtain ⟨a2, e2, _, s2⟩ := rows_at hR (k := 0 + (j : Int)) (by omega) (by omega)
      rw [show (0 + (i : Int)).toNat = i by omega] at s1
      rw [show (0 + (j : Int)).toNat = j by omega] at s2
      refine ⟨_, rfl, _, rfl, _, rfl, _, _, _, _, rfl, rfl, hS, e2, _, _, rfl, .inl s2, rfl, flat_ints _, .inr ⟨_, rfl, ?_⟩⟩
      refine ⟨_, rfl, _, rfl, _, rfl, _, _, _, _, rfl, rfl, hS, e1, _, _, rfl, .inl s1, rfl, flat_ints _, .inr ⟨_, rfl, ?_⟩⟩
      refine ⟨_, _, rfl, rfl, rfl, _, rfl, ?_⟩
      simp only [Bool.false_eq_true, if_false, inV_int, Int.zero_add]
      by_cases h1 : (j : Int) ∈ rowAt rows i <;> by_cases h2 : (i : Int) ∈ rowAt rows j
      all_goals simp only [h1, h2, decide_true, decide_false, if_true, Bool.false_eq_true, if_false]
      · refine iteT (nohall fun h => ?_)
        exact (h.one i j hj hi).mp h1 h2
      · refine iteF ⟨_, rfl, rfl, fun j' hj' => ?_⟩
        by_cases h : j' < j
        · exact Dj j' h
        · have : j' = j := by omega
          subst this; simp [h1, h2]
      · refine iteF ⟨_, rfl, rfl, fun j' hj' => ?_⟩
        by_cases h : j' < j
        · exact Dj j' h
        · have : j' = j := by omega
          subst this; simp [h1, h2]
      · refine iteT (nohall fun h => ?_)
        exact h1 ((h.one i j hj hi).mpr h2)
    · rintro σ H2 ⟨v4, rfl, rfl, Dj⟩
      refine ⟨_, _, _, rfl, rfl, fun i' j' h1 h2 => ?_⟩
      by_cases h : i' < i
      · exact D i' j' h1 h
      · have : i' = i := by omega
        subst this; exact Dj j' h1
  · rintro σ H2 ⟨v2, v3, v4, rfl, rfl, D⟩
    have : IsHall rows := ⟨by omega, by omega, B, fun i j h1 h2 => D i j h1 h2⟩
    rw [dec_true this] at q
    exact q
end
end KH
namespace KH
open PySem L2
def spMeet : Sp := fun vs H Q _ => ∃ k : Nat, vs = [.int (k : Int)] ∧ k ≤ 100 ∧ Q (.int (tri k)) H
def spCanBe (K : PySem.W.Frag) : Sp := fun vs H Q _ => ∃ (a : Addr) (ns : List Int), vs = [.ref a] ∧ SqL K H a (ns.map V.int) ∧ ns.length ≤ 50 ∧ ∀ (H' : Hp) (b : Bool), Same H H' → (b = true ↔ SumsOk ns) → Q (.bl b) H'
theorem map_int_getR {ns : List Int} {i : Nat} {x : V} (h : (ns.map V.int)[i]? = some x) : ∃ a, x = .int a ∧ ns[i]? = some a := by
  rw [List.getElem?_map] at h
  cases e : ns[i]? with
  | none => rw [e] at h; cases h
  | some a => rw [e] at h; exact ⟨a, (Option.some.inj h).symm, rfl⟩
theorem perm_sumR {l m : List Int} (h : l.Perm m) : l.sum = m.sum := by
  induction h with
  | nil => rfl
  | cons x _ ih => rw [List.sum_cons, List.sum_cons, ih]
  | swap x y l => simp only [List.sum_cons]; omega
  | trans _ _ a b => exact a.trans b
section
variable {P : Program} {w : World} {K : PySem.W.Frag} {mg : Str → Option Value} {base : Heap} {f : Addr} {fd : FuncData}
theorem sc_meet : FnScope ["many"] ["many"] (defScope s_meetings_of) := ⟨rfl, rfl, rfl, by decide +kernel, rfl, by decide +kernel, by decide +kernel⟩
theorem ok_meet (F : Fun K "meetings_of" "meetings_of" s_meetings_of f fd) : FnOk P w K mg base CX0 1 f fd ["many"] spMeet := by
  refine F.ok sc_meet (fun vs H Q E h => ?_) (fun cdv A outer s H vs Q E hr h => ?_)
  · obtain ⟨k, rfl, _⟩ := h
    rfl
  obtain ⟨k, rfl, h100, q⟩ := h
  refine ⟨_, (pss_one (ps_ret (pe_op op_fdiv (pe_op op_mul (pv 0) (pe_op op_sub (pv 0) pe_int)) pe_int))), ?_⟩
  exact ⟨_, rfl, _, rfl, _, _, rfl, rfl, _, _, rfl, rfl, .inl ⟨by omega, by omega⟩, _, _, rfl, rfl, ⟨by decide, by decide⟩, q⟩
theorem sc_canbe : FnScope ["row", "many", "together", "place", "wins"] ["row"] (defScope s_can_be) := ⟨rfl, rfl, rfl, by decide +kernel, rfl, by decide +kernel, by decide +kernel⟩
theorem ok_canbe {tk : Tok} (F : Fun K "can_be" "can_be" s_can_be f fd) (z : Blt mg) (g_MOST_PLAYERS : mg "MOST_PLAYERS" = some (.int 12 tk)) (C_meetings_of : Has P w K mg base 1 "meetings_of" ["many"] spMeet) : FnOk P w K mg base CX0 2 f fd ["row"] (spCanBe K) := by
  refine F.ok sc_canbe (fun vs H Q E h => ?_) (fun cdv A outer s H vs Q E hr h => ?_)
  · obtain ⟨a, ns, rfl, _⟩ := h
    rfl
  obtain ⟨a, ns, rfl, hS, h50, q⟩ := h
  have nd := sc_canbe.nd
  have hl : (ns.map V.int).length = ns.length := List.length_map _
  have no : ∀ H', Same H H' → ¬ SumsOk ns → Q (.bl false) H' := fun H' s' n => q H' false s' ⟨fun e => (by cases e), fun S => absurd S n⟩
  refine ⟨_, (pss_cons (ps_set (i := 1) nd rfl (by first | exact Or.inl rfl | exact Or.inr rfl) (pe_callB call_len_seq rfl z.len (by decide +kernel) (pa_cons (pv 0) pa_nil)))
  (pss_cons (ps_if (PW.pt (pw_or (pt_cmpR op_lt (pv 1) pe_int (nomark _)) (pw_or1 (pt_cmpR op_gt (pv 1) (pe_glob (v := .int 12) rfl g_MOST_PLAYERS ⟨_, rfl⟩) (nomark _))))) (pss_one (ps_ret pe_bl)) pss_nil)
  (pss_cons (ps_set (i := 2) nd rfl (by first | exact Or.inl rfl | exact Or.inr rfl) pe_int)
  (pss_cons (ps_for PassesOwn.never rfl (pi_enum rfl z.enumerate (pa_cons (pe_callB call_sorted rfl z.sorted (by decide +kernel) (pa_cons (pv 0) pa_nil)) pa_nil)) (pg_tup rfl (pgs_cons (pg_name (i := 3) nd rfl (by first | exact Or.inl rfl | exact Or.inr rfl)) (pgs_cons (pg_name (i := 4) nd rfl (by first | exact Or.inl rfl | exact Or.inr rfl)) pgs_nil))) (pss_cons (ps_aug (i := 2) nd rfl (by first | exact Or.inl rfl | exact Or.inr rfl) (pv 4) ip_add)
  (pss_one (ps_if (pt_cmpR op_lt (pv 2) (pe_callH C_meetings_of (hr.mono (by decide)) rfl (pa_cons (pe_op op_add (pv 3) pe_int) pa_nil)) (nomark _)) (pss_one (ps_ret pe_bl)) pss_nil))))
  (pss_one (ps_ret (pe_cmpR op_eq (pv 2) (pe_callH C_meetings_of (hr.mono (by decide)) rfl (pa_cons (pv 1) pa_nil)) (nomark _)))))))), ?_⟩
  refine ⟨_, rfl, _, _, rfl, .inl hS, ?_⟩
  rw [hl]
  refine ⟨_, rfl, _, _, rfl, rfl, _, rfl, ?_⟩
  refine ite2 (fun c => iteT (no H (Same.refl H) fun h => ?_)) (fun c => ?_)
  · have := of_decide_eq_true c; have := h.lo; omega
  refine ⟨_, rfl, _, _, rfl, rfl, _, rfl, ?_⟩
  refine ite2 (fun d => no H (Same.refl H) fun h => ?_) (fun d => ?_)
  · have := of_decide_eq_true d; have := h.hi; omega
  have c' := of_decide_eq_false (Bool.eq_false_iff.mpr c)
  have d' := of_decide_eq_false (Bool.eq_false_iff.mpr d)
  refine ⟨_, rfl, _, _, rfl, hS, by omega, fun L ms hL hp hs => ?_⟩
  have ml : ms.length = ns.length := hp.length_eq
  have s1 := same_new hL (.lst (ms.map V.int))
  have h1 : (upd H L (.lst (ms.map V.int))) L = some (.lst (ms.map V.int)) := upd_same
  generalize upd H L (.lst (ms.map V.int)) = H1 at s1 h1
  refine ⟨_, rfl, ⟨_, SqL.of h1⟩, ?_⟩
  refine for_enum (K := K) (a := L) (xs := ms.map V.int) (fun i σ H2 => ∃ v1 v2 : Option V, σ = [some (.ref a), some (.int ns.length), some (.int (ms.take i).sum), v1, v2] ∧ Same H1 H2 ∧ ∀ k, 1 ≤ k → k < i + 1 → tri k ≤ (ms.take k).sum)
    ⟨none, none, rfl, Same.refl _, fun k _ _ => by omega⟩ (fun i σ H2 _ ⟨_, _, _, s2, _⟩ => s2.seq (SqL.of h1)) ?_ ?_
  · rintro i x t σ H2 hx ⟨v1, v2, rfl, s2, ok⟩ ht
    obtain ⟨y, rfl, hy⟩ := map_int_getR hx
    have hi : i < ms.length := (List.getElem?_eq_some_iff.mp hy).1
    have s3 : Same H1 (upd H2 t (.tup [.int i, .int y])) := s2.trans (same_new ht _)
    refine ⟨t, _, rfl, SqT.of upd_same, rfl, _, _, rfl, _, _, rfl, rfl, ?_⟩
    have es : (ms.take i).sum + y = (ms.take (i + 1)).sum := by rw [take_snoc hy, List.sum_append]; simp
    refine ⟨_, rfl, _, rfl, _, _, rfl, rfl, _, rfl, _, rfl, _, _, rfl, rfl, i + 1, rfl, by omega, ?_⟩
    rw [show (fun (i j : Int) => i + j) (ms.take i).sum y = (ms.take (i + 1)).sum from es]
    refine ⟨_, _, rfl, rfl, _, rfl, ?_⟩
    by_cases c4 : (ms.take (i + 1)).sum < tri (i + 1)
    · rw [decide_eq_true c4]
      exact iteT (no _ (s1.trans s3) (SumsOk.no hp hs (by omega) (by omega) c4))
    · rw [decide_eq_false c4]
      refine iteF ⟨_, _, rfl, s3, fun k k1 k2 => ?_⟩
      by_cases e : k = i + 1
      · rw [e]; omega
      · exact ok k k1 (by omega)
  · rintro σ H2 ⟨v1, v2, rfl, s2, ok⟩
    rw [List.length_map, ml] at ok
    rw [List.length_map, List.take_length, perm_sumR hp]
    refine ⟨_, rfl, _, rfl, ns.length, rfl, by omega, rfl, ?_⟩
    refine q H2 _ (s1.trans s2) ?_
    constructor
    · intro e
      have e' := of_decide_eq_true e
      injection e' with e'
      exact sums_of hp hs (by omega) (by omega) e' fun k k1 k2 => ok k k1 (by omega)
    · intro S
      exact decide_eq_true (congrArg V.int S.all)
end
end KH
namespace KH
open PySem L2
def lamPosR (st : Stmt) : Pos := match defBody st with
  | [.Return (some (.Call _ _ [⟨_, .Lambda _ _ _ p, _⟩] _)) _] => p
  | _ => ⟨0, 0, 0, 0⟩
abbrev lamRP : Pos := lamPosR s_by_rising
abbrev lamRQ : Str := "by_rising.<locals>." ++ "<lambda>"
abbrev TabR (P : Addr) (H : Hp) : Prop := Tab lamRP lamRQ P H
def spRising (K : PySem.W.Frag) (P : Addr) : Sp := fun vs H Q _ => ∃ (m : Addr) (mi : List Int) (v : Nat), vs = [.ref m, .int (v : Int)] ∧ SqL K H m (mi.map V.int) ∧ v ≤ mi.length ∧ mi.length ≤ 12 ∧ TabR P H ∧
  ∀ (l : Addr) (ord : List Int) (H' : Hp), SameT P H H' → TabR P H' → H l = none → H' l = some (.lst (ord.map V.int)) → ord.Perm (domF mi.length v) → ord.Pairwise (fun x y => rowF mi x ≤ rowF mi y) → Q (.ref l) H'
def spMade (K : PySem.W.Frag) (P CW : Addr) : Sp := fun vs H Q E => ∃ (a : Addr) (ns : List Int), vs = [.ref a] ∧ SqL K H a (ns.map V.int) ∧ ns.length ≤ 50 ∧ TabR P H ∧
  (SumsOk ns → ∀ (p : Addr) (as : List Addr) (rows : List (List Int)) (H' : Hp), SameT P H H' → TabR P H' → HallAt H' p as rows → H p = none → (∀ b ∈ as, H b = none) → IsHall rows → rows.map (fun r => (r.length : Int)) = ns → Q (.ref p) H') ∧
  (¬ SumsOk ns → ∀ H', Same H H' → E (.ref CW) none H')
theorem domF_range {n v : Nat} (h : v ≤ n) : domF n v = (List.range (n - v)).map fun (i : Nat) => (v : Int) + (i : Int) := by
  induction hk : n - v generalizing v with
  | zero =>
    unfold domF
    rw [List.drop_eq_nil_of_le (by rw [nums_length]; omega)]
    rfl
  | succ k ih =>
    rw [domF_cons (by omega), ih (by omega) (by omega), List.range_succ_eq_map, List.map_cons, List.map_map]
    have e0 : (v : Int) + ((0 : Nat) : Int) = (v : Int) := by omega
    rw [e0]
    refine congrArg (List.cons (v : Int)) (List.map_congr_left fun i _ => ?_)
    show ((v + 1 : Nat) : Int) + (i : Int) = (v : Int) + ((i + 1 : Nat) : Int)
    omega
theorem R_natM (rows : List (List Int)) (i : Nat) : R rows (i : Int) = rowAt rows i := by unfold R rowAt; rw [Int.toNat_natCast]
section
variable {Pg : Program} {w : World} {K : PySem.W.Frag} {mg : Str → Option Value} {base : Heap} {f : Addr} {fd : FuncData} {P CW : Addr}
theorem sc_rising : FnScope ["missing", "first"] ["missing", "first"] (defScope s_by_rising) := ⟨rfl, rfl, rfl, by decide +kernel, rfl, by decide +kernel, by decide +kernel⟩
theorem ok_rising {cd0 : Value} (F : Fun K "by_rising" "by_rising" s_by_rising f fd) (z : Blt mg) (ecd : fd.code = cd0) (T : TabF K mg base cd0 P) : FnOk Pg w K mg base CX0 1 f fd ["missing", "first"] (spRising K P) := by
  refine F.okC ecd sc_rising (fun vs H Q E h => ?_) (fun A outer s H vs Q E hr h => ?_)
  · obtain ⟨m, mi, v, rfl, _⟩ := h
    rfl
  obtain ⟨m, mi, v, rfl, hM, hv, h12, TG, q⟩ := h
  have hdep : (cxOf CX0 Pg w K mg base ["missing", "first"] "by_rising" (defScope s_by_rising) f cd0 A outer s H E).nox.A.depth < recursionLimit := by have := hr.dp; show (A.deeper _).depth < _; omega
  have hl : (mi.map V.int).length = mi.length := List.length_map _
  refine ⟨_, (pss_one (ps_ret (pe_sortK2 rfl hdep T (lscope (p := "player") (cscope (N' := ["player", "missing"]) (caps := [none, some 0]))) rfl z.sorted (pe_callTy call_range2 rfl z.range (by decide +kernel) (pa_cons (pv 1) (pa_cons (pe_callB call_len_seq rfl z.len (by decide +kernel) (pa_cons (pv 0) pa_nil)) pa_nil))) (fun _ _ _ _ _ => (pe_ix (ix_listK (K := K) rfl) (pv 1) (pv 0) (fun _ _ => rfl)))))), ?_⟩
  refine ⟨_, rfl, _, rfl, _, _, rfl, .inl hM, _, _, rfl, fun r hr' => ?_⟩
  rw [hl]
  obtain ⟨ps, hP, ok⟩ := TG.ex
  have s1 := same_new hr' (.rng (v : Int) (mi.length : Int))
  have TG1 := TG.same s1
  obtain ⟨ps1, hP1, ok1⟩ := TG1.ex
  have er : ((v : Int) + ((mi.length - v : Nat) : Int)) = (mi.length : Int) := by omega
  refine ⟨r, (v : Int), mi.length - v, rowF mi, ps1, rfl, by rw [er]; exact upd_same, by omega, by omega, by omega, hP1, ok1, fun i H2 h0 h1 sm => ?_, fun l ord H2 ps2 sm hP2 ok2 hl2 pm so => ?_⟩
  · have hM2 := sq_sameT (s1.seq hM) TG1 sm
    exact ⟨_, rfl, _, rfl, _, _, _, _, rfl, rfl, hM2, at_int (by omega) (by omega), rfl, rfl⟩
  · have sm1 : SameT P H H2 := (s1.toT).trans sm
    have TG2 : TabR P H2 := ⟨ps2, hP2, ok2⟩
    refine q l ord _ (sameT_upd sm1 (sm1.free hP2 hl2) _) (TG2.upd (noTab_none hl2) _) (sm1.free hP2 hl2) upd_same ?_ so
    rw [domF_range hv]
    exact pm
theorem sc_made : FnScope ["row", "hall", "missing", "player", "wins", "behind", "other"] ["row"] (defScope s_made) := ⟨rfl, rfl, rfl, by decide +kernel, rfl, by decide +kernel, by decide +kernel⟩
set_option maxHeartbeats 0 in
theorem ok_made (F : Fun K "made" "made" s_made f fd) (z : Blt mg) (O_NoRow : OwnE mg base "NoRow" CW) (C_can_be : Has Pg w K mg base 2 "can_be" ["row"] (spCanBe K)) (C_by_rising : Has Pg w K mg base 1 "by_rising" ["missing", "first"] (spRising K P)) : FnOk Pg w K mg base (CXE Pg w) 3 f fd ["row"] (spMade K P CW) := by
  refine F.okE sc_made (fun vs H Q E h => ?_) (fun cdv A outer s H vs Q E hr h => ?_)
  · obtain ⟨a, ns, rfl, _⟩ := h
    rfl
  obtain ⟨a, ns, rfl, hS, h50, TG, q, e⟩ := h
  have nd := sc_made.nd
  have hl : (ns.map V.int).length = ns.length := List.length_map _
  refine ⟨_, (pss_cons (ps_if (pt_not (pt_val (pe_callH C_can_be (hr.mono (by decide)) rfl (pa_cons (pv 0) pa_nil)))) (pss_one (ps_raise O_NoRow rfl (pa_cons pe_str pa_nil))) pss_nil)
  (pss_cons (ps_setLC (i := 1) nd rfl (by first | exact Or.inl rfl | exact Or.inr rfl) rfl (cscope (N' := ["player"]) (caps := [none])) (pi_list (pv 0)) (fun s H fp => ⟨(pg_name (i := 0) (show (["player"] : List Str).Nodup by decide +kernel) rfl (by first | exact Or.inl rfl | exact Or.inr rfl)), pif_nil, (pe_lst pa_nil)⟩))
  (pss_cons (ps_set (i := 2) nd rfl (by first | exact Or.inl rfl | exact Or.inr rfl) (pe_callTy call_list_of rfl z.list (by decide +kernel) (pa_cons (pv 0) pa_nil)))
  (pss_cons (PS.nox (ps_for PassesOwn.never rfl (pi_range1 rfl z.range (pa_cons (pe_callB call_len_seq rfl z.len (by decide +kernel) (pa_cons (pv 0) pa_nil)) pa_nil)) (pg_name (i := 3) nd rfl (by first | exact Or.inl rfl | exact Or.inr rfl)) (pss_cons (ps_set (i := 4) nd rfl (by first | exact Or.inl rfl | exact Or.inr rfl) (pe_ix ix_list (pv 2) (pv 3) (fun _ _ => rfl)))
  (pss_cons (ps_set (i := 5) nd rfl (by first | exact Or.inl rfl | exact Or.inr rfl) (pe_callH C_by_rising (hr.mono (by decide)) rfl (pa_cons (pv 2) (pa_cons (pe_op op_add (pv 3) pe_int) pa_nil))))
  (pss_cons (ps_expr (pe_bm PySem.F.plainAttrs_list PySem.F.slot_list_extend PySem.F.type_list_extend mt_extend (pe_ix ix_list (pv 1) (pv 3) (fun _ _ => rfl)) (pa_cons (pe_slice sl_list (pv 5) po_none (po_some (pv 4))) pa_nil)))
  (pss_one (PS.nox (ps_for PassesOwn.never rfl (pi_list (pe_slice sl_list (pv 5) (po_some (pv 4)) po_none)) (pg_name (i := 6) nd rfl (by first | exact Or.inl rfl | exact Or.inr rfl)) (pss_cons (ps_expr (pe_bm PySem.F.plainAttrs_list PySem.F.slot_list_append PySem.F.type_list_append mt_append (pe_ix ix_list (pv 1) (pv 6) (fun _ _ => rfl)) (pa_cons (pv 3) pa_nil)))
  (pss_one (ps_augS (pv 2) (pv 6) get_list pe_int ip_sub set_list)))))))))))
  (pss_one (ps_ret (pe_lc rfl (cscope (N' := ["beaten"]) (caps := [none])) (pi_list (pv 1)) (fun s H fp => ⟨(pg_name (i := 0) (show (["beaten"] : List Str).Nodup by decide +kernel) rfl (by first | exact Or.inl rfl | exact Or.inr rfl)), pif_nil, (pe_callB (call_sortedK (K := K) rfl) rfl z.sorted (by decide +kernel) (pa_cons (pv 0) pa_nil))⟩)))))))), ?_⟩
  refine ⟨_, rfl, a, ns, rfl, hS, h50, fun H1 b s1 hb => ⟨_, rfl, ?_⟩⟩
  by_cases S : SumsOk ns
  rotate_left
  · have eb : b = false := by
      cases b with
      | false => rfl
      | true => exact absurd (hb.mp rfl) S
    rw [eb]
    exact iteT ⟨by decide, e S H1 s1⟩
  rw [hb.mpr S]
  refine iteF ?_
  have n12 := S.hi
  have n1 := S.lo
  have hS1 := s1.seq hS
  have TG1 := TG.same s1
  -- hall
  refine ⟨_, rfl, _, rfl, ⟨_, hS1⟩, ?_⟩
  refine lc_list (K := K) (a := a) (xs := ns.map V.int) (fun D i acc H2 => ∃ as, acc = as.map V.ref ∧ i ≤ ns.length ∧ NewHall H1 H2 D as (List.replicate i [])) (fun D hD => ⟨[], rfl, Nat.zero_le _, NewHall.start hD⟩)
    (fun D i acc H2 _ ⟨_, _, _, N2⟩ => N2.same.seq hS1) ?_ ?_
  · rintro D i x acc H2 hx ⟨as, rfl, hi, N2⟩
    have hi' : i < ns.length := by have := (List.getElem?_eq_some_iff.mp hx).1; rw [List.length_map] at this; exact this
    have hb2 := N2.at_.len
    rw [List.length_replicate] at hb2
    refine ⟨CapKeep.set rfl, tt_intro ⟨(by decide), fun L hL => ⟨?_, ?_, ?_⟩⟩⟩
    · rw [upd_ne (ne_of_none N2.at_.top hL)]; exact N2.at_.top
    · rw [List.length_map]; exact smallL (by omega)
    · refine ⟨as ++ [L], by simp, hi', ?_⟩
      rw [List.replicate_succ']
      exact N2.snoc' (same_new hL _) upd_same hL
  rintro D acc H2 ⟨as, rfl, _, N2⟩
  rw [hl] at N2
  have hS2 := N2.same.seq hS1
  have TG2 := TG1.same N2.same
  -- missing
  refine ⟨_, rfl, _, _, rfl, .inl hS2, fun M hM => ?_⟩
  have s3 := same_new hM (.lst (ns.map V.int))
  have N3 := N2.grow s3
  have h3 : (upd H2 M (.lst (ns.map V.int))) M = some (.lst (ns.map V.int)) := upd_same
  have TG3 := TG2.same s3
  have M1 : H1 M = none := N2.same.free hM
  have MD : M ≠ D := (ne_of_none N2.at_.top hM).symm
  have Mas : M ∉ as := fun hm => by
    obtain ⟨i, hi, e⟩ := List.mem_iff_getElem.mp hm
    obtain ⟨r', _, q⟩ := paired_getA N2.at_.row (List.getElem?_eq_getElem hi)
    rw [e, hM] at q
    cases q
  generalize upd H2 M (.lst (ns.map V.int)) = H3 at N3 h3 TG3
  have hS3 := N3.same.seq hS1
  refine ⟨_, rfl, _, _, rfl, .inl hS3, _, rfl, by omega, by omega, ?_⟩
  rw [hl, show ((ns.length : Nat) : Int).toNat = ns.length by omega]
  -- what stays: the hall under way, the missing wins
  obtain ⟨Keep, eK⟩ : ∃ Keep : Hp → List (List Int) → List Int → Prop, Keep = fun H4 rows mi => SameT P H1 H4 ∧ TabR P H4 ∧ HallAt H4 D as rows ∧ H4 M = some (.lst (mi.map V.int)) := ⟨_, rfl⟩
  refine for_range (lo := 0) (n := ns.length) (fun i σ H4 => ∃ (v3 v4 v5 v6 : Option V) (rows : List (List Int)) (mi : List Int), σ = [some (.ref a), some (.ref D), some (.ref M), v3, v4, v5, v6] ∧ Keep H4 rows mi ∧ Made ns i rows mi)
    ⟨none, none, none, none, _, ns, rfl, by rw [eK]; exact ⟨N3.same.toT, TG3, N3.at_, h3⟩, Made.start S⟩ ?_ ?_
  · rintro v σ H4 hv ⟨v3, v4, v5, v6, rows, mi, rfl, kp, MD4⟩
    rw [eK] at kp
    obtain ⟨s4, TG4, A4, h4⟩ := kp
    rw [Int.zero_add]
    have ml := MD4.ml
    have asl := A4.len
    have rl := MD4.part.len
    have bw := MD4.some hv
    -- wins, behind
    refine ⟨_, rfl, _, rfl, _, _, _, _, rfl, rfl, SqL.of h4, at_int (by omega) (by omega), ?_⟩
    rw [show mi.getD ((v : Int)).toNat 0 = rowF mi (v : Int) from rfl]
    refine ⟨_, rfl, _, rfl, _, _, rfl, rfl, M, mi, v + 1, by rw [show ((v + 1 : Nat) : Int) = (v : Int) + 1 by omega]; rfl, SqL.of h4, by omega, by omega, TG4, fun B ord H5 s5 TG5 hB h5 pm so => ?_⟩
    rw [ml] at pm
    have A5 := hallAt_sameT A4 TG4 s5
    have h5M : H5 M = some (.lst (mi.map V.int)) := by
      refine s5 M _ (fun z => ?_) h4
      obtain ⟨ps, hP, _⟩ := TG4.ex
      rw [z, hP] at h4
      cases h4
    have S5 := s4.trans s5
    have ol := pm.length_eq
    rw [domF_len] at ol
    obtain ⟨wn, ewn⟩ : ∃ wn : Nat, rowF mi (v : Int) = (wn : Int) := ⟨(rowF mi (v : Int)).toNat, by omega⟩
    have ewt : (rowF mi (v : Int)).toNat = wn := by omega
    have Bne : B ≠ D ∧ B ∉ as := hallAt_apart A4 hB
    have BM : B ≠ M := fun z => by rw [z, h4] at hB; cases hB
    -- hall[player].extend(behind[:wins])
    have hvn : v < rows.length := by omega
    obtain ⟨a1, f1, f2⟩ := paired_get A5.row (i := v) (b := rowAt rows v) (by unfold rowAt; rw [List.getElem?_eq_getElem hvn, getD_of_lt hvn])
    have e1 : atI (as.map V.ref) (v : Int) = some (.ref a1) := at_ref (by omega) (by rw [Int.toNat_natCast]; exact f1)
    have fw := MD4.part.few v (by omega)
    refine ⟨_, rfl, _, rfl, _, _, _, _, rfl, rfl, A5.sq, e1, .inl ⟨rfl, _, SqL.of f2⟩, _, rfl, _, rfl, _, rfl, _, _, rfl, SqL.of h5, fun C hC => ?_⟩
    rw [cutTake ewn, ← List.map_take]
    have s6 := same_new hC (.lst ((ord.take wn).map V.int))
    have A6 := A5.same s6
    have TG6 := TG5.same s6
    have h6M := s6 _ _ h5M
    have h6B := s6 _ _ h5
    have h6C : (upd H5 C (.lst ((ord.take wn).map V.int))) C = some (.lst ((ord.take wn).map V.int)) := upd_same
    have S6 := S5.trans s6.toT
    have f2' := s6 _ _ f2
    generalize upd H5 C (.lst ((ord.take wn).map V.int)) = H6 at A6 TG6 h6M h6B h6C S6 f2'
    refine ⟨a1, C, _, _, rfl, rfl, f2', h6C, ?_, ?_⟩
    · rw [List.length_map, List.length_map, List.length_take]; exact small (by omega)
    have m1 : a1 ∈ as := List.mem_of_getElem? f1
    have N6 : NewHall (fun _ => none) H6 D as rows := ⟨A6, (fun _ _ z => by cases z), rfl, fun _ _ => rfl⟩
    have N7 := N6.put (r' := rowAt rows v ++ ord.take wn) f1
    rw [List.map_append] at N7
    have na1 : H1 a1 = none := N3.na a1 m1
    have TG7 := TG6.upd (noTab_lst f2') (.lst ((rowAt rows v).map V.int ++ (ord.take wn).map V.int))
    have S7 : SameT P H1 (upd H6 a1 (.lst ((rowAt rows v).map V.int ++ (ord.take wn).map V.int))) := sameT_upd S6 na1 _
    have h7M : (upd H6 a1 (.lst ((rowAt rows v).map V.int ++ (ord.take wn).map V.int))) M = some (.lst (mi.map V.int)) := by rw [upd_ne (fun z => Mas (by rw [z]; exact m1))]; exact h6M
    have h7B : (upd H6 a1 (.lst ((rowAt rows v).map V.int ++ (ord.take wn).map V.int))) B = some (.lst (ord.map V.int)) := by rw [upd_ne (fun z => Bne.2 (by rw [z]; exact m1))]; exact h6B
    have A7 := N7.at_
    generalize upd H6 a1 (.lst ((rowAt rows v).map V.int ++ (ord.take wn).map V.int)) = H7 at A7 TG7 S7 h7M h7B
    have Mi := MD4.mid hv pm
    rw [ewt, R_natM] at Mi
    -- for other in behind[wins:]
    refine ⟨_, rfl, _, rfl, _, rfl, _, _, rfl, SqL.of h7B, fun G hG => ?_⟩
    rw [cutDrop ewn, ← List.map_drop]
    have s8 := same_new hG (.lst ((ord.drop wn).map V.int))
    have A8 := A7.same s8
    have TG8 := TG7.same s8
    have h8M := s8 _ _ h7M
    have h8G : (upd H7 G (.lst ((ord.drop wn).map V.int))) G = some (.lst ((ord.drop wn).map V.int)) := upd_same
    have S8 := S7.trans s8.toT
    have Gne : G ≠ D ∧ G ∉ as := hallAt_apart A7 hG
    have GM : G ≠ M := fun z => by rw [z, h7M] at hG; cases hG
    generalize upd H7 G (.lst ((ord.drop wn).map V.int)) = H8 at A8 TG8 h8M h8G S8
    refine ⟨_, rfl, ⟨_, SqL.of h8G⟩, ?_⟩
    have ndo : ord.Nodup := pm.nodup_iff.mpr (by unfold domF; exact (nums_nodup _).sublist (List.drop_sublist _ _))
    have ndt : (ord.take wn ++ ord.drop wn).Nodup := by rw [List.take_append_drop]; exact ndo
    rw [List.nodup_append] at ndt
    refine for_list (K := K) (a := G) (xs := (ord.drop wn).map V.int) (fun j σ H9 => ∃ (v6 : Option V) (rows' : List (List Int)) (mi' : List Int), σ = [some (.ref a), some (.ref D), some (.ref M), some (.int (v : Int)), some (.int (rowF mi (v : Int))), some (.ref B), v6] ∧ Keep H9 rows' mi' ∧ H9 G = some (.lst ((ord.drop wn).map V.int)) ∧ Mid ns v mi (ord.take wn) ((ord.drop wn).take j) rows' mi')
      ⟨v6, _, mi, rfl, by rw [eK]; exact ⟨S8, TG8, A8, h8M⟩, h8G, Mi⟩ (fun j σ H9 _ ⟨_, _, _, _, _, g9, _⟩ => SqL.of g9) ?_ ?_
    · rintro j x σ H9 hx ⟨v6, rows', mi', rfl, kp9, h9G, Mi9⟩
      rw [eK] at kp9
      obtain ⟨S9, TG9, A9, h9M⟩ := kp9
      obtain ⟨o, rfl, ho⟩ := map_int_getR hx
      have hmo := List.mem_of_getElem? ho
      have ro := mem_domF.mp (pm.mem_iff.mp (List.mem_of_mem_drop hmo))
      have ml9 := Mi9.ml
      have rl9 := Mi9.part.len
      obtain ⟨y, ey⟩ : ∃ y : Nat, o = (y : Int) := ⟨o.toNat, by omega⟩
      have hyn : y < rows'.length := by omega
      obtain ⟨a2, g1, g2⟩ := paired_get A9.row (i := y) (b := rowAt rows' y) (by unfold rowAt; rw [List.getElem?_eq_getElem hyn, getD_of_lt hyn])
      have e2 : atI (as.map V.ref) o = some (.ref a2) := at_ref (by omega) (by rw [ey, Int.toNat_natCast]; exact g1)
      have few2 := Mi9.part.few y (by omega)
      have m2 : a2 ∈ as := List.mem_of_getElem? g1
      refine ⟨_, rfl, _, rfl, _, _, _, _, rfl, rfl, A9.sq, e2, .inl ⟨rfl, _, SqL.of g2⟩, _, rfl, _, _, _, rfl, rfl, g2, by rw [List.length_map]; exact smallL (by omega), ?_⟩
      have N9 : NewHall (fun _ => none) H9 D as rows' := ⟨A9, (fun _ _ z => by cases z), rfl, fun _ _ => rfl⟩
      have N10 := N9.put (r' := rowAt rows' y ++ [(v : Int)]) g1
      rw [List.map_append] at N10
      have na2 : H1 a2 = none := N3.na a2 m2
      have TG10 := TG9.upd (noTab_lst g2) (.lst ((rowAt rows' y).map V.int ++ [.int (v : Int)]))
      have S10 : SameT P H1 (upd H9 a2 (.lst ((rowAt rows' y).map V.int ++ [.int (v : Int)]))) := sameT_upd S9 na2 _
      have h10M : (upd H9 a2 (.lst ((rowAt rows' y).map V.int ++ [.int (v : Int)]))) M = some (.lst (mi'.map V.int)) := by rw [upd_ne (fun z => Mas (by rw [z]; exact m2))]; exact h9M
      have h10G : (upd H9 a2 (.lst ((rowAt rows' y).map V.int ++ [.int (v : Int)]))) G = some (.lst ((ord.drop wn).map V.int)) := by rw [upd_ne (fun z => Gne.2 (by rw [z]; exact m2))]; exact h9G
      have A10 : HallAt (upd H9 a2 (.lst ((rowAt rows' y).map V.int ++ [.int (v : Int)]))) D as (rows'.set y (rowAt rows' y ++ [(v : Int)])) := N10.at_
      generalize upd H9 a2 (.lst ((rowAt rows' y).map V.int ++ [.int (v : Int)])) = H10 at A10 TG10 S10 h10M h10G
      -- missing[other] -= 1
      have ao := at_int (ns := mi') (k := o) (by omega) (by omega)
      have jo : ixN (mi'.map V.int).length o = some o.toNat := by
        unfold ixN
        rw [List.length_map, if_pos (by omega), if_pos (by omega)]
      refine ⟨_, rfl, _, rfl, _, _, _, _, rfl, rfl, by omega, SqL.of h10M, ao, _, _, rfl, rfl, _, _, _, _, rfl, rfl, h10M, jo, ?_⟩
      rw [show mi'.getD o.toNat 0 = rowF mi' o from rfl]
      have em : (mi'.map V.int).set o.toNat (.int (rowF mi' o - 1)) = (mi'.set o.toNat (rowF mi' o - 1)).map V.int := by rw [List.map_set]
      rw [em]
      have A11 : HallAt (upd H10 M (.lst ((mi'.set o.toNat (rowF mi' o - 1)).map V.int))) D as (rows'.set y (rowAt rows' y ++ [(v : Int)])) := hallAt_upd A10 ⟨MD, Mas⟩ _
      refine ⟨_, rows'.set y (rowAt rows' y ++ [(v : Int)]), mi'.set o.toNat (rowF mi' o - 1), rfl, ?_, by rw [upd_ne GM]; exact h10G, ?_⟩
      · rw [eK]
        exact ⟨sameT_upd S10 M1 _, TG10.upd (noTab_lst h10M) _, A11, upd_same⟩
      · rw [take_snoc ho]
        have nx := Mi9.next (o := o) (by omega) (by omega) (fun m => ndt.2.2 o m o hmo rfl) (fun m => by
          have : ((ord.drop wn).take (j + 1)).Nodup := ndt.2.1.sublist (List.take_sublist _ _)
          rw [take_snoc ho, List.nodup_append] at this
          exact this.2.2 o m o (by simp) rfl)
        have ep : push rows' o (v : Int) = rows'.set y (rowAt rows' y ++ [(v : Int)]) := by
          unfold push
          rw [ey, R_natM, Int.toNat_natCast]
        rw [ep] at nx
        exact nx
    · rintro σ H9 ⟨v6, rows', mi', rfl, kp9, h9G, Mi9⟩
      rw [List.length_map, List.take_length] at Mi9
      refine ⟨_, _, _, _, rows', mi', rfl, kp9, ?_⟩
      rw [← ewt] at Mi9
      exact Mid.made MD4 hv pm so Mi9
  rintro σ H4 ⟨v3, v4, v5, v6, rows, mi, rfl, kp, MD4⟩
  rw [eK] at kp
  obtain ⟨s4, TG4, A4, h4⟩ := kp
  have rl := MD4.part.len
  refine ⟨_, rfl, _, rfl, ⟨_, A4.sq⟩, sort_comp A4.sq A4.rows (by omega) (fun i hi => by have := MD4.part.few i (by omega); omega) rfl fun p' as' rows' H5 N5 l5 ss => ?_⟩
  rw [rl] at l5 ss
  obtain ⟨IH, ew⟩ := MD4.hall n1 n12 l5 ss
  have S5 : SameT P H H5 := (s1.toT.trans s4).trans N5.same.toT
  obtain ⟨ps, hP, _⟩ := TG4.ex
  exact q S p' as' rows' H5 S5 (TG4.same N5.same) N5.at_ ((s1.toT.trans s4).free hP N5.np) (fun b hb => (s1.toT.trans s4).free hP (N5.na b hb)) IH ew
end
end KH
namespace KH
open PySem L2
def spLaw (K : PySem.W.Frag) (Pt : Addr) : Sp := fun vs H Q _ => ∃ (a : Addr) (ns : List Int), vs = [.ref a] ∧ SqL K H a (ns.map V.int) ∧ ns.length ≤ 63 ∧ H Pt = some (.tbl #[]) ∧ ∀ H', Q (.bl true) H'
def spMadeN (K : PySem.W.Frag) (P CW : Addr) : Sp := fun vs H Q _ => spMade K P CW vs H Q E0
section
variable {Pg : Program} {w : World} {K : PySem.W.Frag} {mg : Str → Option Value} {base : Heap} {f : Addr} {fd : FuncData} {Pt D_NoRow : Addr}
theorem hasT {k : Nat} {x : Str} {ps : List Str} {sp : Sp} (C : HasE Pg w K mg base k x ps sp) (sp' : Sp) (h : ∀ vs H Q E, sp' vs H Q E → sp vs H Q E0) : Has Pg w K mg base k x ps sp' := by
  obtain ⟨f, fd, F, b, kp, m⟩ := C
  refine ⟨f, fd, ⟨fun vs H Q E q => F.len vs H Q E0 (h _ _ _ _ q), fun A outer s H args us vs Q E hr e0 hb r hs => ?_⟩, b, kp, m⟩
  refine codeAny_mono (F.run A outer s H args us vs Q E0 hr e0 hb r (h _ _ _ _ hs)) fun r s' hq => ?_
  cases r with
  | ok fl =>
    cases fl with
    | ret u => exact hq
    | next => exact hq
    | brk => exact hq
    | cont => exact hq
  | error e =>
    obtain ⟨_, _, _, _, _, _, _, _, _, _, _, _, q⟩ := hq
    exact q.elim
theorem sc_law : FnScope ["script", "hall", "other", "wins", "k", "threes"] ["script"] (defScope s_law) := ⟨rfl, rfl, rfl, by decide +kernel, rfl, by decide +kernel, by decide +kernel⟩
set_option maxHeartbeats 0 in
theorem ok_law (F : Fun K "law" "law" s_law f fd) (z : Blt mg)
    (C_law_cell : Has Pg w K mg base 1 "_law_cell" ["script", "k"] (spCell K)) (C_law_hall : Has Pg w K mg base 3 "_law_hall" ["script", "k", "many"] (spHall K)) (C_law_copy : Has Pg w K mg base 1 "_law_copy" ["hall"] (spCopy K))
    (C_law_contrary : Has Pg w K mg base 1 "_law_contrary" ["hall"] (spContrary K)) (C_law_right : Has Pg w K mg base 6 "_law_right" ["hall", "other"] (spRightT K)) (C_made : Has Pg w K mg base 3 "made" ["row"] (spMadeN K Pt D_NoRow))
    (C_law_good : Has Pg w K mg base 1 "_law_good" ["hall"] (spGood K)) (C_law_threes : Has Pg w K mg base 1 "_law_threes" ["hall"] (spThrees K)) (C_law_turn : Has Pg w K mg base 1 "_law_turn" ["hall", "ring"] (spTurn K)) : FnOk Pg w K mg base CX0 7 f fd ["script"] (spLaw K Pt) := by
  refine F.ok sc_law (fun vs H Q E h => ?_) (fun cdv A outer s H vs Q E hr h => ?_)
  · obtain ⟨a, ns, rfl, _⟩ := h
    rfl
  obtain ⟨a, ns, rfl, hS, h63, hPt, q⟩ := h
  have nd := sc_law.nd
  have hu1 := Nat.lt_of_succ_lt (hu_of hr)
  have TG0 : TabR Pt H := ⟨#[], hPt, .inl rfl⟩
  refine ⟨_, (pss_cons (ps_set (i := 1) nd rfl (by first | exact Or.inl rfl | exact Or.inr rfl) (pe_callH C_law_hall (hr.mono (by decide)) rfl (pa_cons (pv 0) (pa_cons pe_int (pa_cons (pe_op op_add pe_int (pe_op op_mod (pe_callH C_law_cell (hr.mono (by decide)) rfl (pa_cons (pv 0) (pa_cons pe_int pa_nil))) pe_int)) pa_nil)))))
  (pss_cons (ps_set (i := 2) nd rfl (by first | exact Or.inl rfl | exact Or.inr rfl) (pe_callH C_law_contrary (hr.mono (by decide)) rfl (pa_cons (pv 1) pa_nil)))
  (pss_cons (ps_join (ps_if (pt_cmpR (op_eq_ints hu1) (pe_lc rfl (cscope (N' := ["row"]) (caps := [none])) (pi_list (pv 2)) (fun s H fp => ⟨(pg_name (i := 0) (show (["row"] : List Str).Nodup by decide +kernel) rfl (by first | exact Or.inl rfl | exact Or.inr rfl)), pif_nil, (pe_callB (call_len_seqK (K := K) rfl) rfl z.len (by decide +kernel) (pa_cons (pv 0) pa_nil))⟩)) (pe_lc rfl (cscope (N' := ["row"]) (caps := [none])) (pi_list (pv 1)) (fun s H fp => ⟨(pg_name (i := 0) (show (["row"] : List Str).Nodup by decide +kernel) rfl (by first | exact Or.inl rfl | exact Or.inr rfl)), pif_nil, (pe_callB (call_len_seqK (K := K) rfl) rfl z.len (by decide +kernel) (pa_cons (pv 0) pa_nil))⟩)) (nomark _)) (pss_one (ps_if (pt_not (pt_val (pe_callH C_law_right (hr.mono (by decide)) rfl (pa_cons (pv 1) (pa_cons (pv 2) pa_nil))))) (pss_one (ps_ret pe_bl)) pss_nil)) pss_nil))
  (pss_cons (ps_set (i := 2) nd rfl (by first | exact Or.inl rfl | exact Or.inr rfl) (pe_callH C_law_copy (hr.mono (by decide)) rfl (pa_cons (pv 1) pa_nil)))
  (pss_cons (ps_join (ps_if (pt_cmpR op_eq (pe_op op_mod (pe_callH C_law_cell (hr.mono (by decide)) rfl (pa_cons (pv 0) (pa_cons pe_int pa_nil))) pe_int) pe_int (nomark _)) (pss_cons (ps_setLC (i := 3) nd rfl (by first | exact Or.inl rfl | exact Or.inr rfl) rfl (cscope (N' := ["row"]) (caps := [none])) (pi_list (pv 1)) (fun s H fp => ⟨(pg_name (i := 0) (show (["row"] : List Str).Nodup by decide +kernel) rfl (by first | exact Or.inl rfl | exact Or.inr rfl)), pif_nil, (pe_callB (call_len_seqK (K := K) rfl) rfl z.len (by decide +kernel) (pa_cons (pv 0) pa_nil))⟩))
  (pss_cons (ps_set (i := 2) nd rfl (by first | exact Or.inl rfl | exact Or.inr rfl) (pe_callH C_made (hr.mono (by decide)) rfl (pa_cons (pv 3) pa_nil)))
  (pss_cons (ps_if (PW.pt (pw_or (pt_not (pt_val (pe_callB call_isinst rfl z.isinstance (by decide +kernel) (pa_cons (pv 2) (pa_cons (pe_bltn (v := .ty "list") (u := .type "list") rfl z.list (by decide +kernel) rfl) pa_nil))))) (pw_or1 (pt_not (pt_val (pe_callH C_law_good (hr.mono (by decide)) rfl (pa_cons (pv 2) pa_nil))))))) (pss_one (ps_ret pe_bl)) pss_nil)
  (pss_one (ps_if (pt_cmpR (op_ne_ints hu1) (pe_lc rfl (cscope (N' := ["row"]) (caps := [none])) (pi_list (pv 2)) (fun s H fp => ⟨(pg_name (i := 0) (show (["row"] : List Str).Nodup by decide +kernel) rfl (by first | exact Or.inl rfl | exact Or.inr rfl)), pif_nil, (pe_callB (call_len_seqK (K := K) rfl) rfl z.len (by decide +kernel) (pa_cons (pv 0) pa_nil))⟩)) (pv 3) (nomark _)) (pss_one (ps_ret pe_bl)) pss_nil))))) (pss_one (ps_if (pt_cmpR op_gt (pe_op op_mod (pe_callH C_law_cell (hr.mono (by decide)) rfl (pa_cons (pv 0) (pa_cons pe_int pa_nil))) pe_int) pe_int (nomark _)) (pss_one (ps_for PassesOwn.never rfl (pi_range1 rfl z.range (pa_cons (pe_op op_mod (pe_callH C_law_cell (hr.mono (by decide)) rfl (pa_cons (pv 0) (pa_cons pe_int pa_nil))) pe_int) pa_nil)) (pg_name (i := 4) nd rfl (by first | exact Or.inl rfl | exact Or.inr rfl)) (pss_cons (ps_set (i := 5) nd rfl (by first | exact Or.inl rfl | exact Or.inr rfl) (pe_callH C_law_threes (hr.mono (by decide)) rfl (pa_cons (pv 2) pa_nil)))
  (pss_one (ps_if (pt_cmpR op_gt (pe_callB call_len_seq rfl z.len (by decide +kernel) (pa_cons (pv 5) pa_nil)) pe_int (nomark _)) (pss_one (ps_set (i := 2) nd rfl (by first | exact Or.inl rfl | exact Or.inr rfl) (pe_callH C_law_turn (hr.mono (by decide)) rfl (pa_cons (pv 2) (pa_cons (pe_ix ix_list (pv 5) (pe_op op_mod (pe_callH C_law_cell (hr.mono (by decide)) rfl (pa_cons (pv 0) (pa_cons (pe_op op_add pe_int (pv 4)) pa_nil))) (pe_callB call_len_seq rfl z.len (by decide +kernel) (pa_cons (pv 5) pa_nil))) (fun _ _ => rfl)) pa_nil))))) pss_nil))))) pss_nil))))
  (pss_one (ps_ret (pe_and (pe_callH C_law_right (hr.mono (by decide)) rfl (pa_cons (pv 1) (pa_cons (pv 2) pa_nil))) (pe_one (pe_callH C_law_right (hr.mono (by decide)) rfl (pa_cons (pv 2) (pa_cons (pv 1) pa_nil)))))))))))), ?_⟩
  have c1 := Int.emod_lt_of_pos (cell ns 0) (show (0 : Int) < 12 by decide)
  have c0 := Int.emod_nonneg (cell ns 0) (show (12 : Int) ≠ 0 by decide)
  refine ⟨_, rfl, _, rfl, a, ns, _, rfl, hS, by decide, by decide, _, _, rfl, rfl, (by show (0 : Int) < _; decide), _, _, rfl, rfl, a, ns, _, _, rfl, hS, by decide, by decide, by omega, by omega, fun p as rows H1 N1 IH hlen => ?_⟩
  have h12 := IH.hi
  -- all wins turned
  refine ⟨_, rfl, p, rows, rfl, N1.at_.rd, IH, fun o bs H2 N2 => ?_⟩
  have A2 := N1.at_.same N2.same
  have IC := con_hall IH
  have S2 := N1.same.trans N2.same
  refine ⟨fun σ' H' => Same H2 H' ∧ σ' = [some (.ref a), some (.ref p), some (.ref o), none, none, none], ?_, ?_⟩
  · refine ⟨_, rfl, _, rfl, ⟨_, N2.at_.sq⟩, ?_⟩
    refine len_comp N2.at_.sq N2.at_.rows (by have := IC.hi; omega) rfl fun l3 H3 hl3 s3 h3 => ?_
    have A3 := A2.same s3
    refine ⟨_, rfl, _, rfl, ⟨_, A3.sq⟩, ?_⟩
    refine len_comp A3.sq A3.rows (by omega) rfl fun l4 H4 hl4 s4 h4 => ?_
    refine ⟨l3, l4, _, _, rfl, rfl, SqL.of (s4 _ _ h3), SqL.of h4, _, rfl, ite2 (fun c => ?_) (fun c => ⟨s3.trans s4, rfl⟩)⟩
    have e := of_decide_eq_true c
    have s24 := s3.trans s4
    refine ⟨_, rfl, _, rfl, p, o, rows, _, rfl, (A2.same s24).rd, (N2.at_.same s24).rd, like_of IH IC e.symm, fun H5 s5 => ⟨_, rfl, iteF ?_⟩⟩
    exact ⟨s24.trans s5, rfl⟩
  rintro σ' H3 ⟨s3, rfl⟩
  have A3 := A2.same s3
  have S3 := S2.trans s3
  -- the other one
  refine ⟨_, rfl, p, rows, rfl, A3.rd, by omega, fun o4 bs4 H4 N4 => ?_⟩
  have A4 := A3.same N4.same
  have S4 := S3.trans N4.same
  have hS4 := S4.seq hS
  have TG4 := TG0.same S4
  refine ⟨fun σ' H' => ∃ (o' : Addr) (bs' : List Addr) (orows : List (List Int)) (v3 v4 v5 : Option V), σ' = [some (.ref a), some (.ref p), some (.ref o'), v3, v4, v5] ∧ HallAt H' p as rows ∧ HallAt H' o' bs' orows ∧ Like rows orows, ?_, ?_⟩
  · refine ⟨_, rfl, a, ns, _, rfl, hS4, by decide, by decide, _, _, rfl, rfl, (by show (0 : Int) < _; decide), rfl, _, rfl, ite2 (fun c => ?_) (fun c => ?_)⟩
    · -- as made tells one
      refine ⟨_, rfl, _, rfl, ⟨_, A4.sq⟩, ?_⟩
      refine len_comp A4.sq A4.rows (by omega) rfl fun l5 H5 hl5 s5 h5 => ?_
      have A5 := A4.same s5
      have TG5 := TG4.same s5
      have wl : (winsOf rows).length = rows.length := by unfold winsOf; rw [List.length_map]
      refine ⟨_, rfl, l5, winsOf rows, rfl, SqL.of h5, by omega, TG5, fun SO p6 as6 rows6 H6 s6 TG6 A6 np6 na6 I6 e6 => ?_, fun bad => absurd (hall_sums IH) bad⟩
      have A6p := hallAt_sameT A5 TG5 s6
      have h6 := s6 _ _ (TG5.ne (noTab_lst h5)) h5
      refine ⟨_, rfl, _, _, _, _, rfl, TyOf.lst A6.top, kit_list_list K, _, rfl, iteF ?_⟩
      refine ⟨_, rfl, p6, rows6, rfl, A6.rd, by have := I6.hi; omega, fun i => by have := I6.lens.at_ i; omega, _, rfl, ?_⟩
      rw [dec_true I6]
      refine iteF ?_
      refine ⟨_, rfl, _, rfl, ⟨_, A6.sq⟩, ?_⟩
      refine len_comp A6.sq A6.rows (by have := I6.hi; omega) rfl fun l7 H7 hl7 s7 h7 => ?_
      refine ⟨_, rfl, l7, l5, _, _, rfl, rfl, SqL.of h7, SqL.of (s7 _ _ h6), _, rfl, ?_⟩
      rw [decide_eq_true (show winsOf rows6 = winsOf rows from e6)]
      exact iteF ⟨p6, as6, rows6, _, _, _, rfl, A6p.same s7, A6.same s7, like_of IH I6 e6.symm⟩
    · refine ⟨_, rfl, a, ns, _, rfl, hS4, by decide, by decide, _, _, rfl, rfl, (by show (0 : Int) < _; decide), _, _, rfl, rfl, _, rfl, ite2 (fun d => ?_) (fun d => ⟨o4, bs4, rows, none, none, none, rfl, A4, N4.at_, like_refl IH⟩)⟩
      -- by rings turned
      have d1 := Int.emod_lt_of_pos (cell ns 5) (show (0 : Int) < 13 by decide)
      have d0 := Int.emod_nonneg (cell ns 5) (show (13 : Int) ≠ 0 by decide)
      refine ⟨_, rfl, a, ns, _, rfl, hS4, by decide, by decide, _, _, rfl, rfl, (by show (0 : Int) < _; decide), _, rfl, by omega, by omega, ?_⟩
      refine for_range (lo := 0) (n := (cell ns 5 % 13).toNat) (fun i σ H5 => ∃ (o' : Addr) (bs' : List Addr) (orows : List (List Int)) (v4 v5 : Option V), σ = [some (.ref a), some (.ref p), some (.ref o'), none, v4, v5] ∧ Same H4 H5 ∧ HallAt H5 o' bs' orows ∧ Like rows orows)
        ⟨o4, bs4, rows, none, none, rfl, Same.refl _, N4.at_, like_refl IH⟩ ?_ ?_
      · rintro i σ H5 hi ⟨o', bs', orows, v4, v5, rfl, s5, B5, L5⟩
        rw [Int.zero_add]
        refine ⟨_, rfl, o', orows, rfl, B5.rd, L5.h2, fun T ts H6 Th h17 => ?_⟩
        have B6 := B5.same Th.same
        have S6 := s5.trans Th.same
        have lT : (ts.map fun e => V.ref e.1).length = ts.length := List.length_map _
        refine ⟨_, rfl, _, _, rfl, .inl (SqL.of Th.top), _, _, rfl, rfl, _, rfl, ite2 (fun e => ?_) (fun e => ⟨o', bs', orows, _, _, rfl, S6, B6, L5⟩)⟩
        have e' := of_decide_eq_true e
        rw [lT] at e'
        have pos : (0 : Int) < ((ts.map fun e => V.ref e.1).length : Int) := by rw [lT]; omega
        obtain ⟨cv, ecv⟩ : ∃ cv, cell ns (6 + (i : Int)) = cv := ⟨_, rfl⟩
        have i0 := Int.emod_nonneg cv (Int.ne_of_gt pos)
        have i1 := Int.emod_lt_of_pos cv pos
        obtain ⟨k, hk⟩ : ∃ k : Nat, cv % ((ts.map fun e => V.ref e.1).length : Int) = (k : Int) := ⟨(cv % ((ts.map fun e => V.ref e.1).length : Int)).toNat, by omega⟩
        have kl : k < ts.length := by omega
        have ak : atI (ts.map fun e => V.ref e.1) (cv % ((ts.map fun e => V.ref e.1).length : Int)) = some (.ref ts[k].1) := by
          rw [hk]
          exact atI_nat (by rw [List.getElem?_map, List.getElem?_eq_getElem kl]; rfl)
        obtain ⟨_, g2, t3, r3⟩ := Th.el ts[k] (List.getElem_mem kl)
        have rb := (L5.h2.rng r3 t3.1).1
        have rc := (L5.h2.rng rb t3.2.1).1
        refine ⟨_, rfl, _, rfl, _, rfl, _, rfl, _, _, rfl, rfl, a, ns, _, rfl, S6.seq hS4, by omega, by omega, _, rfl, _, _, rfl, .inl (SqL.of Th.top), _, _, rfl, rfl, pos, _, _, _, _, rfl, rfl, SqL.of Th.top, by rw [ecv]; exact ak, ?_⟩
        refine ⟨o', ts[k].1, orows, _, _, _, rfl, B6.rd, L5.h2, SqT.of g2, t3, r3, rb, rc, fun p' as' rows' H7 N7 TB => ?_⟩
        exact ⟨p', as', rows', _, _, rfl, S6.trans N7.same, N7.at_, like_turn L5 r3 rb rc t3 TB⟩
      · rintro σ H5 ⟨o', bs', orows, v4, v5, rfl, s5, B5, L5⟩
        exact ⟨o', bs', orows, none, v4, v5, rfl, A4.same s5, B5, L5⟩
  rintro σ' H5 ⟨o', bs', orows, v3, v4, v5, rfl, A5, B5, L5⟩
  refine ⟨_, rfl, _, rfl, p, o', rows, orows, rfl, A5.rd, B5.rd, L5, fun H6 s6 => ⟨_, rfl, iteT ?_⟩⟩
  exact ⟨_, rfl, _, rfl, o', p, orows, rows, rfl, (B5.same s6).rd, (A5.same s6).rd, L5.symm, fun H7 s7 => q H7⟩
end
theorem all_mk {l : PySem.W.OpenLaw} {w : World} {K : PySem.W.Frag} {h : Heap} {mg : Str → Option Value} {fa f1 f2 f3 f4 f5 f6 f7 f8 f9 f10 f11 f12 f13 f14 f15 f16 f17 f18 f19 f20 f21 f22 f23 f24 f25 f26 f27 f28 f29 f30 : Addr} (X : K.In h) (G : h.Ns mainGlobals mg) (hfa : mg "law" = some (.ref fa))
    {od1 an1 od2 an2 od3 an3 od4 an4 od5 an5 od6 an6 od7 an7 od8 an8 od9 an9 od10 an10 od11 an11 od12 an12 od13 an13 od14 an14 od15 an15 od16 an16 od17 an17 od18 an18 od19 an19 od20 an20 od21 an21 od22 an22 od23 an23 od24 an24 od25 an25 od26 an26 od27 an27 od28 an28 od29 an29 od30 an30 : Option Addr} {sl1 sl2 sl3 sl4 sl5 sl6 sl7 sl8 sl9 sl10 sl11 sl12 sl13 sl14 sl15 sl16 sl17 sl18 sl19 sl20 sl21 sl22 sl23 sl24 sl25 sl26 sl27 sl28 sl29 sl30 : Array (Option Value)} {oc1 kV1 dc1 pm1 cd1 ct1 oc2 kV2 dc2 pm2 cd2 ct2 oc3 kV3 dc3 pm3 cd3 ct3 oc4 kV4 dc4 pm4 cd4 ct4 oc5 kV5 dc5 pm5 cd5 ct5 oc6 kV6 dc6 pm6 cd6 ct6 oc7 kV7 dc7 pm7 cd7 ct7 oc8 kV8 dc8 pm8 cd8 ct8 oc9 kV9 dc9 pm9 cd9 ct9 oc10 kV10 dc10 pm10 cd10 ct10 oc11 kV11 dc11 pm11 cd11 ct11 oc12 kV12 dc12 pm12 cd12 ct12 oc13 kV13 dc13 pm13 cd13 ct13 oc14 kV14 dc14 pm14 cd14 ct14 oc15 kV15 dc15 pm15 cd15 ct15 oc16 kV16 dc16 pm16 cd16 ct16 oc17 kV17 dc17 pm17 cd17 ct17 oc18 kV18 dc18 pm18 cd18 ct18 oc19 kV19 dc19 pm19 cd19 ct19 oc20 kV20 dc20 pm20 cd20 ct20 oc21 kV21 dc21 pm21 cd21 ct21 oc22 kV22 dc22 pm22 cd22 ct22 oc23 kV23 dc23 pm23 cd23 ct23 oc24 kV24 dc24 pm24 cd24 ct24 oc25 kV25 dc25 pm25 cd25 ct25 oc26 kV26 dc26 pm26 cd26 ct26 oc27 kV27 dc27 pm27 cd27 ct27 oc28 kV28 dc28 pm28 cd28 ct28 oc29 kV29 dc29 pm29 cd29 ct29 oc30 kV30 dc30 pm30 cd30 ct30 : Value}
    {tk_MOST_PLAYERS : Tok} (g_MOST_PLAYERS : PySem.W.nsIn K mainGlobals "MOST_PLAYERS" = some (some (.int 12 tk_MOST_PLAYERS)))
    (a1 : PySem.W.nsIn K mainGlobals "is_hall" = some (some (.ref f1))) (l1 : K.lookup f1 = some ⟨oc1, od1, .func (PySem.W.fnOf "is_hall" "is_hall" (defArgs s_is_hall) (defBody s_is_hall) (defScope s_is_hall) .none kV1 dc1 pm1 an1 cd1 ct1), sl1⟩) (c1 : PySem.W.codeIn K cd1 "is_hall" = true) (k1 : PySem.W.keepIn K (.ref f1) = true)
    (a2 : PySem.W.nsIn K mainGlobals "is_beaten_list" = some (some (.ref f2))) (l2 : K.lookup f2 = some ⟨oc2, od2, .func (PySem.W.fnOf "is_beaten_list" "is_beaten_list" (defArgs s_is_beaten_list) (defBody s_is_beaten_list) (defScope s_is_beaten_list) .none kV2 dc2 pm2 an2 cd2 ct2), sl2⟩) (c2 : PySem.W.codeIn K cd2 "is_beaten_list" = true) (k2 : PySem.W.keepIn K (.ref f2) = true)
    (a3 : PySem.W.nsIn K mainGlobals "one_of_each_two_won" = some (some (.ref f3))) (l3 : K.lookup f3 = some ⟨oc3, od3, .func (PySem.W.fnOf "one_of_each_two_won" "one_of_each_two_won" (defArgs s_one_of_each_two_won) (defBody s_one_of_each_two_won) (defScope s_one_of_each_two_won) .none kV3 dc3 pm3 an3 cd3 ct3), sl3⟩) (c3 : PySem.W.codeIn K cd3 "one_of_each_two_won" = true) (k3 : PySem.W.keepIn K (.ref f3) = true)
    (a4 : PySem.W.nsIn K mainGlobals "need_hall" = some (some (.ref f4))) (l4 : K.lookup f4 = some ⟨oc4, od4, .func (PySem.W.fnOf "need_hall" "need_hall" (defArgs s_need_hall) (defBody s_need_hall) (defScope s_need_hall) .none kV4 dc4 pm4 an4 cd4 ct4), sl4⟩) (c4 : PySem.W.codeIn K cd4 "need_hall" = true) (k4 : PySem.W.keepIn K (.ref f4) = true)
    (a5 : PySem.W.nsIn K mainGlobals "is_player" = some (some (.ref f5))) (l5 : K.lookup f5 = some ⟨oc5, od5, .func (PySem.W.fnOf "is_player" "is_player" (defArgs s_is_player) (defBody s_is_player) (defScope s_is_player) .none kV5 dc5 pm5 an5 cd5 ct5), sl5⟩) (c5 : PySem.W.codeIn K cd5 "is_player" = true) (k5 : PySem.W.keepIn K (.ref f5) = true)
    (a6 : PySem.W.nsIn K mainGlobals "wins_of" = some (some (.ref f6))) (l6 : K.lookup f6 = some ⟨oc6, od6, .func (PySem.W.fnOf "wins_of" "wins_of" (defArgs s_wins_of) (defBody s_wins_of) (defScope s_wins_of) .none kV6 dc6 pm6 an6 cd6 ct6), sl6⟩) (c6 : PySem.W.codeIn K cd6 "wins_of" = true) (k6 : PySem.W.keepIn K (.ref f6) = true)
    (a7 : PySem.W.nsIn K mainGlobals "turned" = some (some (.ref f7))) (l7 : K.lookup f7 = some ⟨oc7, od7, .func (PySem.W.fnOf "turned" "turned" (defArgs s_turned) (defBody s_turned) (defScope s_turned) .none kV7 dc7 pm7 an7 cd7 ct7), sl7⟩) (c7 : PySem.W.codeIn K cd7 "turned" = true) (k7 : PySem.W.keepIn K (.ref f7) = true)
    (a8 : PySem.W.nsIn K mainGlobals "is_ring" = some (some (.ref f8))) (l8 : K.lookup f8 = some ⟨oc8, od8, .func (PySem.W.fnOf "is_ring" "is_ring" (defArgs s_is_ring) (defBody s_is_ring) (defScope s_is_ring) .none kV8 dc8 pm8 an8 cd8 ct8), sl8⟩) (c8 : PySem.W.codeIn K cd8 "is_ring" = true) (k8 : PySem.W.keepIn K (.ref f8) = true)
    (a9 : PySem.W.nsIn K mainGlobals "turnings" = some (some (.ref f9))) (l9 : K.lookup f9 = some ⟨oc9, od9, .func (PySem.W.fnOf "turnings" "turnings" (defArgs s_turnings) (defBody s_turnings) (defScope s_turnings) .none kV9 dc9 pm9 an9 cd9 ct9), sl9⟩) (c9 : PySem.W.codeIn K cd9 "turnings" = true) (k9 : PySem.W.keepIn K (.ref f9) = true)
    (a10 : PySem.W.nsIn K mainGlobals "ring_to_turn" = some (some (.ref f10))) (l10 : K.lookup f10 = some ⟨oc10, od10, .func (PySem.W.fnOf "ring_to_turn" "ring_to_turn" (defArgs s_ring_to_turn) (defBody s_ring_to_turn) (defScope s_ring_to_turn) .none kV10 dc10 pm10 an10 cd10 ct10), sl10⟩) (c10 : PySem.W.codeIn K cd10 "ring_to_turn" = true) (k10 : PySem.W.keepIn K (.ref f10) = true)
    (a11 : PySem.W.nsIn K mainGlobals "to_lose" = some (some (.ref f11))) (l11 : K.lookup f11 = some ⟨oc11, od11, .func (PySem.W.fnOf "to_lose" "to_lose" (defArgs s_to_lose) (defBody s_to_lose) (defScope s_to_lose) .none kV11 dc11 pm11 an11 cd11 ct11), sl11⟩) (c11 : PySem.W.codeIn K cd11 "to_lose" = true) (k11 : PySem.W.keepIn K (.ref f11) = true)
    (a12 : PySem.W.nsIn K mainGlobals "threes_for" = some (some (.ref f12))) (l12 : K.lookup f12 = some ⟨oc12, od12, .func (PySem.W.fnOf "threes_for" "threes_for" (defArgs s_threes_for) (defBody s_threes_for) (defScope s_threes_for) .none kV12 dc12 pm12 an12 cd12 ct12), sl12⟩) (c12 : PySem.W.codeIn K cd12 "threes_for" = true) (k12 : PySem.W.keepIn K (.ref f12) = true)
    (a13 : PySem.W.nsIn K mainGlobals "can_be" = some (some (.ref f13))) (l13 : K.lookup f13 = some ⟨oc13, od13, .func (PySem.W.fnOf "can_be" "can_be" (defArgs s_can_be) (defBody s_can_be) (defScope s_can_be) .none kV13 dc13 pm13 an13 cd13 ct13), sl13⟩) (c13 : PySem.W.codeIn K cd13 "can_be" = true) (k13 : PySem.W.keepIn K (.ref f13) = true)
    (a14 : PySem.W.nsIn K mainGlobals "meetings_of" = some (some (.ref f14))) (l14 : K.lookup f14 = some ⟨oc14, od14, .func (PySem.W.fnOf "meetings_of" "meetings_of" (defArgs s_meetings_of) (defBody s_meetings_of) (defScope s_meetings_of) .none kV14 dc14 pm14 an14 cd14 ct14), sl14⟩) (c14 : PySem.W.codeIn K cd14 "meetings_of" = true) (k14 : PySem.W.keepIn K (.ref f14) = true)
    (a15 : PySem.W.nsIn K mainGlobals "made" = some (some (.ref f15))) (l15 : K.lookup f15 = some ⟨oc15, od15, .func (PySem.W.fnOf "made" "made" (defArgs s_made) (defBody s_made) (defScope s_made) .none kV15 dc15 pm15 an15 cd15 ct15), sl15⟩) (c15 : PySem.W.codeIn K cd15 "made" = true) (k15 : PySem.W.keepIn K (.ref f15) = true)
    (a16 : PySem.W.nsIn K mainGlobals "by_rising" = some (some (.ref f16))) (l16 : K.lookup f16 = some ⟨oc16, od16, .func (PySem.W.fnOf "by_rising" "by_rising" (defArgs s_by_rising) (defBody s_by_rising) (defScope s_by_rising) .none kV16 dc16 pm16 an16 cd16 ct16), sl16⟩) (c16 : PySem.W.codeIn K cd16 "by_rising" = true) (k16 : PySem.W.keepIn K (.ref f16) = true)
    (a17 : PySem.W.nsIn K mainGlobals "_law_cell" = some (some (.ref f17))) (l17 : K.lookup f17 = some ⟨oc17, od17, .func (PySem.W.fnOf "_law_cell" "_law_cell" (defArgs s_law_cell) (defBody s_law_cell) (defScope s_law_cell) .none kV17 dc17 pm17 an17 cd17 ct17), sl17⟩) (c17 : PySem.W.codeIn K cd17 "_law_cell" = true) (k17 : PySem.W.keepIn K (.ref f17) = true)
    (a18 : PySem.W.nsIn K mainGlobals "_law_whole" = some (some (.ref f18))) (l18 : K.lookup f18 = some ⟨oc18, od18, .func (PySem.W.fnOf "_law_whole" "_law_whole" (defArgs s_law_whole) (defBody s_law_whole) (defScope s_law_whole) .none kV18 dc18 pm18 an18 cd18 ct18), sl18⟩) (c18 : PySem.W.codeIn K cd18 "_law_whole" = true) (k18 : PySem.W.keepIn K (.ref f18) = true)
    (a19 : PySem.W.nsIn K mainGlobals "_law_next" = some (some (.ref f19))) (l19 : K.lookup f19 = some ⟨oc19, od19, .func (PySem.W.fnOf "_law_next" "_law_next" (defArgs s_law_next) (defBody s_law_next) (defScope s_law_next) .none kV19 dc19 pm19 an19 cd19 ct19), sl19⟩) (c19 : PySem.W.codeIn K cd19 "_law_next" = true) (k19 : PySem.W.keepIn K (.ref f19) = true)
    (a20 : PySem.W.nsIn K mainGlobals "_law_order" = some (some (.ref f20))) (l20 : K.lookup f20 = some ⟨oc20, od20, .func (PySem.W.fnOf "_law_order" "_law_order" (defArgs s_law_order) (defBody s_law_order) (defScope s_law_order) .none kV20 dc20 pm20 an20 cd20 ct20), sl20⟩) (c20 : PySem.W.codeIn K cd20 "_law_order" = true) (k20 : PySem.W.keepIn K (.ref f20) = true)
    (a21 : PySem.W.nsIn K mainGlobals "_law_first_wins" = some (some (.ref f21))) (l21 : K.lookup f21 = some ⟨oc21, od21, .func (PySem.W.fnOf "_law_first_wins" "_law_first_wins" (defArgs s_law_first_wins) (defBody s_law_first_wins) (defScope s_law_first_wins) .none kV21 dc21 pm21 an21 cd21 ct21), sl21⟩) (c21 : PySem.W.codeIn K cd21 "_law_first_wins" = true) (k21 : PySem.W.keepIn K (.ref f21) = true)
    (a22 : PySem.W.nsIn K mainGlobals "_law_hall" = some (some (.ref f22))) (l22 : K.lookup f22 = some ⟨oc22, od22, .func (PySem.W.fnOf "_law_hall" "_law_hall" (defArgs s_law_hall) (defBody s_law_hall) (defScope s_law_hall) .none kV22 dc22 pm22 an22 cd22 ct22), sl22⟩) (c22 : PySem.W.codeIn K cd22 "_law_hall" = true) (k22 : PySem.W.keepIn K (.ref f22) = true)
    (a23 : PySem.W.nsIn K mainGlobals "_law_copy" = some (some (.ref f23))) (l23 : K.lookup f23 = some ⟨oc23, od23, .func (PySem.W.fnOf "_law_copy" "_law_copy" (defArgs s_law_copy) (defBody s_law_copy) (defScope s_law_copy) .none kV23 dc23 pm23 an23 cd23 ct23), sl23⟩) (c23 : PySem.W.codeIn K cd23 "_law_copy" = true) (k23 : PySem.W.keepIn K (.ref f23) = true)
    (a24 : PySem.W.nsIn K mainGlobals "_law_good" = some (some (.ref f24))) (l24 : K.lookup f24 = some ⟨oc24, od24, .func (PySem.W.fnOf "_law_good" "_law_good" (defArgs s_law_good) (defBody s_law_good) (defScope s_law_good) .none kV24 dc24 pm24 an24 cd24 ct24), sl24⟩) (c24 : PySem.W.codeIn K cd24 "_law_good" = true) (k24 : PySem.W.keepIn K (.ref f24) = true)
    (a25 : PySem.W.nsIn K mainGlobals "_law_turn" = some (some (.ref f25))) (l25 : K.lookup f25 = some ⟨oc25, od25, .func (PySem.W.fnOf "_law_turn" "_law_turn" (defArgs s_law_turn) (defBody s_law_turn) (defScope s_law_turn) .none kV25 dc25 pm25 an25 cd25 ct25), sl25⟩) (c25 : PySem.W.codeIn K cd25 "_law_turn" = true) (k25 : PySem.W.keepIn K (.ref f25) = true)
    (a26 : PySem.W.nsIn K mainGlobals "_law_threes" = some (some (.ref f26))) (l26 : K.lookup f26 = some ⟨oc26, od26, .func (PySem.W.fnOf "_law_threes" "_law_threes" (defArgs s_law_threes) (defBody s_law_threes) (defScope s_law_threes) .none kV26 dc26 pm26 an26 cd26 ct26), sl26⟩) (c26 : PySem.W.codeIn K cd26 "_law_threes" = true) (k26 : PySem.W.keepIn K (.ref f26) = true)
    (a27 : PySem.W.nsIn K mainGlobals "_law_walked" = some (some (.ref f27))) (l27 : K.lookup f27 = some ⟨oc27, od27, .func (PySem.W.fnOf "_law_walked" "_law_walked" (defArgs s_law_walked) (defBody s_law_walked) (defScope s_law_walked) .none kV27 dc27 pm27 an27 cd27 ct27), sl27⟩) (c27 : PySem.W.codeIn K cd27 "_law_walked" = true) (k27 : PySem.W.keepIn K (.ref f27) = true)
    (a28 : PySem.W.nsIn K mainGlobals "_law_right" = some (some (.ref f28))) (l28 : K.lookup f28 = some ⟨oc28, od28, .func (PySem.W.fnOf "_law_right" "_law_right" (defArgs s_law_right) (defBody s_law_right) (defScope s_law_right) .none kV28 dc28 pm28 an28 cd28 ct28), sl28⟩) (c28 : PySem.W.codeIn K cd28 "_law_right" = true) (k28 : PySem.W.keepIn K (.ref f28) = true)
    (a29 : PySem.W.nsIn K mainGlobals "_law_contrary" = some (some (.ref f29))) (l29 : K.lookup f29 = some ⟨oc29, od29, .func (PySem.W.fnOf "_law_contrary" "_law_contrary" (defArgs s_law_contrary) (defBody s_law_contrary) (defScope s_law_contrary) .none kV29 dc29 pm29 an29 cd29 ct29), sl29⟩) (c29 : PySem.W.codeIn K cd29 "_law_contrary" = true) (k29 : PySem.W.keepIn K (.ref f29) = true)
    (a30 : PySem.W.nsIn K mainGlobals "law" = some (some (.ref f30))) (l30 : K.lookup f30 = some ⟨oc30, od30, .func (PySem.W.fnOf "law" "law" (defArgs s_law) (defBody s_law) (defScope s_law) .none kV30 dc30 pm30 an30 cd30 ct30), sl30⟩) (c30 : PySem.W.codeIn K cd30 "law" = true) (k30 : PySem.W.keepIn K (.ref f30) = true)
    {Pt ct : Addr}
    (tb_c : cd16 = .ref ct)
    (tb_h : PySem.W.codeHdIn K ct Pt = true)
    (tb_m : mainGlobals ≠ Pt)
    {D_HallError D_NoRing D_NoRow D_Unlike : Addr} {cd_HallError cd_NoRing cd_NoRow cd_Unlike : ClassData}
    (n_HallError : PySem.W.nsIn K mainGlobals "HallError" = some (some (.ref D_HallError)))
    (cl_HallError : PySem.W.clsIn K D_HallError = some cd_HallError)
    (ty_HallError : PySem.W.typeIn K (.ref D_HallError) = some (.type "type"))
    (ex_HallError : PySem.W.excIn K D_HallError bmVE "ValueError.__new__" = true)
    (n_NoRing : PySem.W.nsIn K mainGlobals "NoRing" = some (some (.ref D_NoRing)))
    (cl_NoRing : PySem.W.clsIn K D_NoRing = some cd_NoRing)
    (ty_NoRing : PySem.W.typeIn K (.ref D_NoRing) = some (.type "type"))
    (ex_NoRing : PySem.W.excIn K D_NoRing bmVE "ValueError.__new__" = true)
    (n_NoRow : PySem.W.nsIn K mainGlobals "NoRow" = some (some (.ref D_NoRow)))
    (cl_NoRow : PySem.W.clsIn K D_NoRow = some cd_NoRow)
    (ty_NoRow : PySem.W.typeIn K (.ref D_NoRow) = some (.type "type"))
    (ex_NoRow : PySem.W.excIn K D_NoRow bmVE "ValueError.__new__" = true)
    (n_Unlike : PySem.W.nsIn K mainGlobals "Unlike" = some (some (.ref D_Unlike)))
    (cl_Unlike : PySem.W.clsIn K D_Unlike = some cd_Unlike)
    (ty_Unlike : PySem.W.typeIn K (.ref D_Unlike) = some (.type "type"))
    (ex_Unlike : PySem.W.excIn K D_Unlike bmVE "ValueError.__new__" = true)
    (m_NoRing_HallError : PySem.W.mroIn K D_NoRing (.ref D_HallError) = some true)
    (m_NoRing_NoRing : PySem.W.mroIn K D_NoRing (.ref D_NoRing) = some true)
    (m_NoRing_NoRow : PySem.W.mroIn K D_NoRing (.ref D_NoRow) = some false)
    (m_NoRing_Unlike : PySem.W.mroIn K D_NoRing (.ref D_Unlike) = some false)
    (m_NoRing_ValueError : PySem.W.mroIn K D_NoRing (.type "ValueError") = some true)
    (m_NoRing_object : PySem.W.mroIn K D_NoRing (.type "object") = some true)
    (m_NoRing_BaseException : PySem.W.mroIn K D_NoRing (.type "BaseException") = some true)
    (ga_NoRing : PySem.W.findIn K (.ref D_NoRing) "__getattribute__" = some (some (.builtin "BaseException.__getattribute__")))
    (gh_NoRing : PySem.W.findIn K (.ref D_NoRing) "__getattr__" = some none)
    (gc_NoRing : PySem.W.findIn K (.ref D_NoRing) "__class__" = some (some (.builtin "object.__class__")))
    (m_NoRow_HallError : PySem.W.mroIn K D_NoRow (.ref D_HallError) = some true)
    (m_NoRow_NoRing : PySem.W.mroIn K D_NoRow (.ref D_NoRing) = some false)
    (m_NoRow_NoRow : PySem.W.mroIn K D_NoRow (.ref D_NoRow) = some true)
    (m_NoRow_Unlike : PySem.W.mroIn K D_NoRow (.ref D_Unlike) = some false)
    (m_NoRow_ValueError : PySem.W.mroIn K D_NoRow (.type "ValueError") = some true)
    (m_NoRow_object : PySem.W.mroIn K D_NoRow (.type "object") = some true)
    (m_NoRow_BaseException : PySem.W.mroIn K D_NoRow (.type "BaseException") = some true)
    (ga_NoRow : PySem.W.findIn K (.ref D_NoRow) "__getattribute__" = some (some (.builtin "BaseException.__getattribute__")))
    (gh_NoRow : PySem.W.findIn K (.ref D_NoRow) "__getattr__" = some none)
    (gc_NoRow : PySem.W.findIn K (.ref D_NoRow) "__class__" = some (some (.builtin "object.__class__")))
    (m_Unlike_HallError : PySem.W.mroIn K D_Unlike (.ref D_HallError) = some true)
    (m_Unlike_NoRing : PySem.W.mroIn K D_Unlike (.ref D_NoRing) = some false)
    (m_Unlike_NoRow : PySem.W.mroIn K D_Unlike (.ref D_NoRow) = some false)
    (m_Unlike_Unlike : PySem.W.mroIn K D_Unlike (.ref D_Unlike) = some true)
    (m_Unlike_ValueError : PySem.W.mroIn K D_Unlike (.type "ValueError") = some true)
    (m_Unlike_object : PySem.W.mroIn K D_Unlike (.type "object") = some true)
    (m_Unlike_BaseException : PySem.W.mroIn K D_Unlike (.type "BaseException") = some true)
    (ga_Unlike : PySem.W.findIn K (.ref D_Unlike) "__getattribute__" = some (some (.builtin "BaseException.__getattribute__")))
    (gh_Unlike : PySem.W.findIn K (.ref D_Unlike) "__getattr__" = some none)
    (gc_Unlike : PySem.W.findIn K (.ref D_Unlike) "__class__" = some (some (.builtin "object.__class__")))
    (gt_ : PySem.W.specialIn K (.builtin "object.__class__") "__get__" = some (some (.builtin "getset_descriptor.__get__")))
    (tk_ : PySem.W.takesIn K (.builtin "object.__class__") = some true)
    (z1 : PySem.W.nsIn K mainGlobals "len" = some none)
    (z2 : PySem.W.nsIn K mainGlobals "range" = some none)
    (z3 : PySem.W.nsIn K mainGlobals "sorted" = some none)
    (z4 : PySem.W.nsIn K mainGlobals "list" = some none)
    (z5 : PySem.W.nsIn K mainGlobals "isinstance" = some none)
    (z6 : PySem.W.nsIn K mainGlobals "bool" = some none)
    (z7 : PySem.W.nsIn K mainGlobals "int" = some none)
    (z8 : PySem.W.nsIn K mainGlobals "enumerate" = some none)
    (z9 : PySem.W.nsIn K mainGlobals "all" = some none)
    (z10 : PySem.W.nsIn K mainGlobals "sum" = some none)
    (z11 : PySem.W.nsIn K mainGlobals "set" = some none)
    (z12 : PySem.W.nsIn K mainGlobals "max" = some none)
    (z13 : PySem.W.nsIn K mainGlobals "zip" = some none)
    (z14 : PySem.W.nsIn K mainGlobals "str" = some none)
    (z15 : PySem.W.nsIn K mainGlobals "any" = some none)
    (z16 : PySem.W.nsIn K mainGlobals "ValueError" = some none)
    (zx_tuple : PySem.W.nsIn K mainGlobals "tuple" = some none) :
    (∃ c, PySem.W.codeHdIn K c Pt = true) ∧ ∃ fd : FuncData, (∀ (s : Shared) (v : Value), BindsTo s fd ⟨[v], []⟩ [("script", v)]) ∧ ∀ base : Heap, K.In base → base.Ns mainGlobals mg → BMain mg base → FnOk l.prog w K mg base CX0 7 fa fd ["script"] (spLaw K Pt) := by
  have e := hfa.symm.trans (PySem.W.mg_of X G a30)
  cases e
  have F_is_hall := fun_mk (st := s_is_hall) l1 c1 k1
  have b_is_hall := F_is_hall.binds (ps := ["hall"]) fun _ _ _ _ _ _ us hl => match us, hl with | [_], _ => rfl
  have m_is_hall := PySem.W.mg_of X G a1
  have F_is_beaten_list := fun_mk (st := s_is_beaten_list) l2 c2 k2
  have b_is_beaten_list := F_is_beaten_list.binds (ps := ["beaten", "player", "many"]) fun _ _ _ _ _ _ us hl => match us, hl with | [_, _, _], _ => rfl
  have m_is_beaten_list := PySem.W.mg_of X G a2
  have F_one_of_each_two_won := fun_mk (st := s_one_of_each_two_won) l3 c3 k3
  have b_one_of_each_two_won := F_one_of_each_two_won.binds (ps := ["hall"]) fun _ _ _ _ _ _ us hl => match us, hl with | [_], _ => rfl
  have m_one_of_each_two_won := PySem.W.mg_of X G a3
  have F_need_hall := fun_mk (st := s_need_hall) l4 c4 k4
  have b_need_hall := F_need_hall.binds (ps := ["hall"]) fun _ _ _ _ _ _ us hl => match us, hl with | [_], _ => rfl
  have m_need_hall := PySem.W.mg_of X G a4
  have F_is_player := fun_mk (st := s_is_player) l5 c5 k5
  have b_is_player := F_is_player.binds (ps := ["hall", "player"]) fun _ _ _ _ _ _ us hl => match us, hl with | [_, _], _ => rfl
  have m_is_player := PySem.W.mg_of X G a5
  have F_wins_of := fun_mk (st := s_wins_of) l6 c6 k6
  have b_wins_of := F_wins_of.binds (ps := ["hall"]) fun _ _ _ _ _ _ us hl => match us, hl with | [_], _ => rfl
  have m_wins_of := PySem.W.mg_of X G a6
  have F_turned := fun_mk (st := s_turned) l7 c7 k7
  have b_turned := F_turned.binds (ps := ["hall", "ring"]) fun _ _ _ _ _ _ us hl => match us, hl with | [_, _], _ => rfl
  have m_turned := PySem.W.mg_of X G a7
  have F_is_ring := fun_mk (st := s_is_ring) l8 c8 k8
  have b_is_ring := F_is_ring.binds (ps := ["hall", "ring"]) fun _ _ _ _ _ _ us hl => match us, hl with | [_, _], _ => rfl
  have m_is_ring := PySem.W.mg_of X G a8
  have F_turnings := fun_mk (st := s_turnings) l9 c9 k9
  have b_turnings := F_turnings.binds (ps := ["hall", "other"]) fun _ _ _ _ _ _ us hl => match us, hl with | [_, _], _ => rfl
  have m_turnings := PySem.W.mg_of X G a9
  have F_ring_to_turn := fun_mk (st := s_ring_to_turn) l10 c10 k10
  have b_ring_to_turn := F_ring_to_turn.binds (ps := ["hall", "other"]) fun _ _ _ _ _ _ us hl => match us, hl with | [_, _], _ => rfl
  have m_ring_to_turn := PySem.W.mg_of X G a10
  have F_to_lose := fun_mk (st := s_to_lose) l11 c11 k11
  have b_to_lose := F_to_lose.binds (ps := ["hall", "other", "player"]) fun _ _ _ _ _ _ us hl => match us, hl with | [_, _, _], _ => rfl
  have m_to_lose := PySem.W.mg_of X G a11
  have F_threes_for := fun_mk (st := s_threes_for) l12 c12 k12
  have b_threes_for := F_threes_for.binds (ps := ["hall", "ring"]) fun _ _ _ _ _ _ us hl => match us, hl with | [_, _], _ => rfl
  have m_threes_for := PySem.W.mg_of X G a12
  have F_can_be := fun_mk (st := s_can_be) l13 c13 k13
  have b_can_be := F_can_be.binds (ps := ["row"]) fun _ _ _ _ _ _ us hl => match us, hl with | [_], _ => rfl
  have m_can_be := PySem.W.mg_of X G a13
  have F_meetings_of := fun_mk (st := s_meetings_of) l14 c14 k14
  have b_meetings_of := F_meetings_of.binds (ps := ["many"]) fun _ _ _ _ _ _ us hl => match us, hl with | [_], _ => rfl
  have m_meetings_of := PySem.W.mg_of X G a14
  have F_made := fun_mk (st := s_made) l15 c15 k15
  have b_made := F_made.binds (ps := ["row"]) fun _ _ _ _ _ _ us hl => match us, hl with | [_], _ => rfl
  have m_made := PySem.W.mg_of X G a15
  have F_by_rising := fun_mk (st := s_by_rising) l16 c16 k16
  have b_by_rising := F_by_rising.binds (ps := ["missing", "first"]) fun _ _ _ _ _ _ us hl => match us, hl with | [_, _], _ => rfl
  have m_by_rising := PySem.W.mg_of X G a16
  have F_law_cell := fun_mk (st := s_law_cell) l17 c17 k17
  have b_law_cell := F_law_cell.binds (ps := ["script", "k"]) fun _ _ _ _ _ _ us hl => match us, hl with | [_, _], _ => rfl
  have m_law_cell := PySem.W.mg_of X G a17
  have F_law_whole := fun_mk (st := s_law_whole) l18 c18 k18
  have b_law_whole := F_law_whole.binds (ps := ["found"]) fun _ _ _ _ _ _ us hl => match us, hl with | [_], _ => rfl
  have m_law_whole := PySem.W.mg_of X G a18
  have F_law_next := fun_mk (st := s_law_next) l19 c19 k19
  have b_law_next := F_law_next.binds (ps := ["step"]) fun _ _ _ _ _ _ us hl => match us, hl with | [_], _ => rfl
  have m_law_next := PySem.W.mg_of X G a19
  have F_law_order := fun_mk (st := s_law_order) l20 c20 k20
  have b_law_order := F_law_order.binds (ps := ["script", "k", "many"]) fun _ _ _ _ _ _ us hl => match us, hl with | [_, _, _], _ => rfl
  have m_law_order := PySem.W.mg_of X G a20
  have F_law_first_wins := fun_mk (st := s_law_first_wins) l21 c21 k21
  have b_law_first_wins := F_law_first_wins.binds (ps := ["way", "one", "other", "many", "step"]) fun _ _ _ _ _ _ us hl => match us, hl with | [_, _, _, _, _], _ => rfl
  have m_law_first_wins := PySem.W.mg_of X G a21
  have F_law_hall := fun_mk (st := s_law_hall) l22 c22 k22
  have b_law_hall := F_law_hall.binds (ps := ["script", "k", "many"]) fun _ _ _ _ _ _ us hl => match us, hl with | [_, _, _], _ => rfl
  have m_law_hall := PySem.W.mg_of X G a22
  have F_law_copy := fun_mk (st := s_law_copy) l23 c23 k23
  have b_law_copy := F_law_copy.binds (ps := ["hall"]) fun _ _ _ _ _ _ us hl => match us, hl with | [_], _ => rfl
  have m_law_copy := PySem.W.mg_of X G a23
  have F_law_good := fun_mk (st := s_law_good) l24 c24 k24
  have b_law_good := F_law_good.binds (ps := ["hall"]) fun _ _ _ _ _ _ us hl => match us, hl with | [_], _ => rfl
  have m_law_good := PySem.W.mg_of X G a24
  have F_law_turn := fun_mk (st := s_law_turn) l25 c25 k25
  have b_law_turn := F_law_turn.binds (ps := ["hall", "ring"]) fun _ _ _ _ _ _ us hl => match us, hl with | [_, _], _ => rfl
  have m_law_turn := PySem.W.mg_of X G a25
  have F_law_threes := fun_mk (st := s_law_threes) l26 c26 k26
  have b_law_threes := F_law_threes.binds (ps := ["hall"]) fun _ _ _ _ _ _ us hl => match us, hl with | [_], _ => rfl
  have m_law_threes := PySem.W.mg_of X G a26
  have F_law_walked := fun_mk (st := s_law_walked) l27 c27 k27
  have b_law_walked := F_law_walked.binds (ps := ["hall", "other", "found"]) fun _ _ _ _ _ _ us hl => match us, hl with | [_, _, _], _ => rfl
  have m_law_walked := PySem.W.mg_of X G a27
  have F_law_right := fun_mk (st := s_law_right) l28 c28 k28
  have b_law_right := F_law_right.binds (ps := ["hall", "other"]) fun _ _ _ _ _ _ us hl => match us, hl with | [_, _], _ => rfl
  have m_law_right := PySem.W.mg_of X G a28
  have F_law_contrary := fun_mk (st := s_law_contrary) l29 c29 k29
  have b_law_contrary := F_law_contrary.binds (ps := ["hall"]) fun _ _ _ _ _ _ us hl => match us, hl with | [_], _ => rfl
  have m_law_contrary := PySem.W.mg_of X G a29
  have F_law := fun_mk (st := s_law) l30 c30 k30
  have b_law := F_law.binds (ps := ["script"]) fun _ _ _ _ _ _ us hl => match us, hl with | [_], _ => rfl
  have m_law := PySem.W.mg_of X G a30
  have z : Blt mg := ⟨PySem.W.mg_none_of X G z1, PySem.W.mg_none_of X G z2, PySem.W.mg_none_of X G z3, PySem.W.mg_none_of X G z4, PySem.W.mg_none_of X G z5, PySem.W.mg_none_of X G z6, PySem.W.mg_none_of X G z7, PySem.W.mg_none_of X G z8, PySem.W.mg_none_of X G z9, PySem.W.mg_none_of X G z10, PySem.W.mg_none_of X G z11, PySem.W.mg_none_of X G z12, PySem.W.mg_none_of X G z13, PySem.W.mg_none_of X G z14, PySem.W.mg_none_of X G z15, PySem.W.mg_none_of X G z16⟩
  have z_tuple := PySem.W.mg_none_of X G zx_tuple
  have g_MOST_PLAYERS := PySem.W.mg_of X G g_MOST_PLAYERS
  refine ⟨⟨ct, tb_h⟩, ?_⟩
  refine ⟨PySem.W.fnOf "law" "law" (defArgs s_law) (defBody s_law) (defScope s_law) .none kV30 dc30 pm30 an30 cd30 ct30, fun s v => .of_eq rfl, fun base KB GB BB => ?_⟩
  have g_HallError := PySem.W.mg_of X G n_HallError
  have O_HallError : OwnE mg base "HallError" D_HallError := own_of KB GB n_HallError ex_HallError
  have g_NoRing := PySem.W.mg_of X G n_NoRing
  have O_NoRing : OwnE mg base "NoRing" D_NoRing := own_of KB GB n_NoRing ex_NoRing
  have g_NoRow := PySem.W.mg_of X G n_NoRow
  have O_NoRow : OwnE mg base "NoRow" D_NoRow := own_of KB GB n_NoRow ex_NoRow
  have g_Unlike := PySem.W.mg_of X G n_Unlike
  have O_Unlike : OwnE mg base "Unlike" D_Unlike := own_of KB GB n_Unlike ex_Unlike
  have EF_NoRing : ExcFacts K D_NoRing := ⟨ga_NoRing, m_NoRing_BaseException, gh_NoRing, gc_NoRing, gt_, tk_, m_NoRing_object, m_NoRing_NoRing⟩
  have U_NoRing : Under base D_NoRing D_HallError := under_of KB ex_NoRing m_NoRing_HallError
  have EF_NoRow : ExcFacts K D_NoRow := ⟨ga_NoRow, m_NoRow_BaseException, gh_NoRow, gc_NoRow, gt_, tk_, m_NoRow_object, m_NoRow_NoRow⟩
  have U_NoRow : Under base D_NoRow D_HallError := under_of KB ex_NoRow m_NoRow_HallError
  have EF_Unlike : ExcFacts K D_Unlike := ⟨ga_Unlike, m_Unlike_BaseException, gh_Unlike, gc_Unlike, gt_, tk_, m_Unlike_object, m_Unlike_Unlike⟩
  have U_Unlike : Under base D_Unlike D_HallError := under_of KB ex_Unlike m_Unlike_HallError
  have TF : TabF K mg base cd16 Pt := ⟨⟨ct, tb_c, tb_h⟩, tb_m, BB⟩
  have C_law_cell : Has l.prog w K mg base 1 "_law_cell" ["script", "k"] (spCell K) := ⟨_, _, ok_cell F_law_cell z, b_law_cell, F_law_cell.kp, m_law_cell⟩
  have C_law_next : Has l.prog w K mg base 1 "_law_next" ["step"] spNext := ⟨_, _, ok_next F_law_next, b_law_next, F_law_next.kp, m_law_next⟩
  have C_law_order : Has l.prog w K mg base 2 "_law_order" ["script", "k", "many"] (spOrder K) := ⟨_, _, ok_order F_law_order z C_law_cell C_law_next, b_law_order, F_law_order.kp, m_law_order⟩
  have C_law_first_wins : Has l.prog w K mg base 1 "_law_first_wins" ["way", "one", "other", "many", "step"] spFirst := ⟨_, _, ok_first F_law_first_wins, b_law_first_wins, F_law_first_wins.kp, m_law_first_wins⟩
  have C_law_hall : Has l.prog w K mg base 3 "_law_hall" ["script", "k", "many"] (spHall K) := ⟨_, _, ok_hall F_law_hall z C_law_cell C_law_next C_law_order C_law_first_wins, b_law_hall, F_law_hall.kp, m_law_hall⟩
  have C_law_copy : Has l.prog w K mg base 1 "_law_copy" ["hall"] (spCopy K) := ⟨_, _, ok_copy F_law_copy z, b_law_copy, F_law_copy.kp, m_law_copy⟩
  have C_is_beaten_list : Has l.prog w K mg base 1 "is_beaten_list" ["beaten", "player", "many"] (spBeaten K) := ⟨_, _, ok_beaten F_is_beaten_list, b_is_beaten_list, F_is_beaten_list.kp, m_is_beaten_list⟩
  have C_one_of_each_two_won : Has l.prog w K mg base 1 "one_of_each_two_won" ["hall"] (spOneEach K) := ⟨_, _, ok_oneeach F_one_of_each_two_won z, b_one_of_each_two_won, F_one_of_each_two_won.kp, m_one_of_each_two_won⟩
  have C_is_hall : Has l.prog w K mg base 2 "is_hall" ["hall"] (spIsHall K) := ⟨_, _, ok_ishall F_is_hall z g_MOST_PLAYERS C_is_beaten_list C_one_of_each_two_won, b_is_hall, F_is_hall.kp, m_is_hall⟩
  have C_need_hall : Has l.prog w K mg base 3 "need_hall" ["hall"] (spNeed K) := ⟨_, _, ok_need F_need_hall C_is_hall, b_need_hall, F_need_hall.kp, m_need_hall⟩
  have C_wins_of : Has l.prog w K mg base 4 "wins_of" ["hall"] (spWins K) := ⟨_, _, ok_wins F_wins_of z C_need_hall, b_wins_of, F_wins_of.kp, m_wins_of⟩
  have C_is_player : Has l.prog w K mg base 1 "is_player" ["hall", "player"] (spIsPlayer K) := ⟨_, _, ok_isplayer F_is_player z, b_is_player, F_is_player.kp, m_is_player⟩
  have C_is_ring : Has l.prog w K mg base 2 "is_ring" ["hall", "ring"] (spIsRing K) := ⟨_, _, ok_isring F_is_ring z C_is_player, b_is_ring, F_is_ring.kp, m_is_ring⟩
  have CE_turned : HasE l.prog w K mg base 4 "turned" ["hall", "ring"] (spTurned K D_NoRing) := ⟨_, _, ok_turned F_turned z O_NoRing C_need_hall C_is_ring, b_turned, F_turned.kp, m_turned⟩
  have C_turned : Has l.prog w K mg base 4 "turned" ["hall", "ring"] (fun vs H Q _ => spTurned K D_NoRing vs H Q E0) := hasT CE_turned _ fun _ _ _ _ h => h
  have C_to_lose : Has l.prog w K mg base 1 "to_lose" ["hall", "other", "player"] (spLose K) := ⟨_, _, ok_lose F_to_lose, b_to_lose, F_to_lose.kp, m_to_lose⟩
  have C_ring_to_turn : Has l.prog w K mg base 2 "ring_to_turn" ["hall", "other"] (spRingTo K) := ⟨_, _, ok_ringto F_ring_to_turn z C_to_lose, b_ring_to_turn, F_ring_to_turn.kp, m_ring_to_turn⟩
  have C_threes_for : Has l.prog w K mg base 1 "threes_for" ["hall", "ring"] (spThrees' K) := ⟨_, _, ok_thr F_threes_for z, b_threes_for, F_threes_for.kp, m_threes_for⟩
  have CE_turnings : HasE l.prog w K mg base 5 "turnings" ["hall", "other"] (spTurnings K) := ⟨_, _, ok_turnings F_turnings z O_Unlike C_wins_of C_ring_to_turn C_threes_for C_turned, b_turnings, F_turnings.kp, m_turnings⟩
  have C_turnings : Has l.prog w K mg base 5 "turnings" ["hall", "other"] (spTurnings K) := hasT CE_turnings _ fun _ _ _ _ h => h
  have C_meetings_of : Has l.prog w K mg base 1 "meetings_of" ["many"] spMeet := ⟨_, _, ok_meet F_meetings_of, b_meetings_of, F_meetings_of.kp, m_meetings_of⟩
  have C_can_be : Has l.prog w K mg base 2 "can_be" ["row"] (spCanBe K) := ⟨_, _, ok_canbe F_can_be z g_MOST_PLAYERS C_meetings_of, b_can_be, F_can_be.kp, m_can_be⟩
  have C_by_rising : Has l.prog w K mg base 1 "by_rising" ["missing", "first"] (spRising K Pt) := ⟨_, _, ok_rising F_by_rising z rfl TF, b_by_rising, F_by_rising.kp, m_by_rising⟩
  have CE_made : HasE l.prog w K mg base 3 "made" ["row"] (spMade K Pt D_NoRow) := ⟨_, _, ok_made F_made z O_NoRow C_can_be C_by_rising, b_made, F_made.kp, m_made⟩
  have C_made : Has l.prog w K mg base 3 "made" ["row"] (spMadeN K Pt D_NoRow) := hasT CE_made _ fun _ _ _ _ h => h
  have C_law_whole : Has l.prog w K mg base 1 "_law_whole" ["found"] spWhole := ⟨_, _, ok_whole F_law_whole z, b_law_whole, F_law_whole.kp, m_law_whole⟩
  have C_law_good : Has l.prog w K mg base 1 "_law_good" ["hall"] (spGood K) := ⟨_, _, ok_good F_law_good z, b_law_good, F_law_good.kp, m_law_good⟩
  have C_law_turn : Has l.prog w K mg base 1 "_law_turn" ["hall", "ring"] (spTurn K) := ⟨_, _, ok_turn F_law_turn z, b_law_turn, F_law_turn.kp, m_law_turn⟩
  have C_law_threes : Has l.prog w K mg base 1 "_law_threes" ["hall"] (spThrees K) := ⟨_, _, ok_threes F_law_threes z, b_law_threes, F_law_threes.kp, m_law_threes⟩
  have C_law_walked : Has l.prog w K mg base 2 "_law_walked" ["hall", "other", "found"] (spWalked K) := ⟨_, _, ok_walked F_law_walked z z_tuple C_law_copy C_law_whole C_law_turn, b_law_walked, F_law_walked.kp, m_law_walked⟩
  have C_law_right : Has l.prog w K mg base 6 "_law_right" ["hall", "other"] (spRightT K) := ⟨_, _, ok_right F_law_right z C_law_copy C_turnings C_law_walked, b_law_right, F_law_right.kp, m_law_right⟩
  have C_law_contrary : Has l.prog w K mg base 1 "_law_contrary" ["hall"] (spContrary K) := ⟨_, _, ok_contrary F_law_contrary z, b_law_contrary, F_law_contrary.kp, m_law_contrary⟩
  exact ok_law F_law z C_law_cell C_law_hall C_law_copy C_law_contrary C_law_right C_made C_law_good C_law_threes C_law_turn
theorem walk {l : PySem.W.OpenLaw} {q : Program} {loose : List Str} {XP : (Str → Option Value) → Heap → Prop} {YP : World → Heap → Prop} {d : DefRec} {K : Params → PySem.W.Frag} {Pt : Addr} (hn : l.most = some 63) (hdf : d.params.defaults = [])
    (hY : ∀ (w : World) (h : Heap), YP w h → (K w.params).In h ∧ h.get? Pt = some (PySem.W.tabObj #[])) (hKP : ∀ w : World, (K w.params).lookup Pt = none)
    (F : ∀ (w : World) (mg : Str → Option Value) (fa : Addr) (h : Heap), (K w.params).In h → h.Ns mainGlobals mg → mg d.name = some (.ref fa) →
      (∃ c, PySem.W.codeHdIn (K w.params) c Pt = true) ∧ ∃ fd : FuncData, (∀ (s : Shared) (u : Value), BindsTo s fd ⟨[u], []⟩ [("script", u)]) ∧ ∀ base : Heap, (K w.params).In base → base.Ns mainGlobals mg → BMain mg base → FnOk l.prog w (K w.params) mg base CX0 7 fa fd ["script"] (spLaw (K w.params) Pt)) :
    PySem.W.WalkO q loose XP YP l.row.toRowW d [] (fun f vs => PySem.call f vs) :=
  L2.walk_ofT (n := 63) (k := 7) (x := "script") (sp := fun w => spLaw (K w.params) Pt) hn (by decide) hdf ⟨rfl, by decide, by decide⟩ hY hKP F fun _ _ a ns hl ht hS => ⟨a, ns, rfl, hS, hl, ht, fun _ => rfl⟩
end KH
open PySem PySem.W PyProof.Rows
set_option maxRecDepth 100000 in
set_option maxHeartbeats 0 in
theorem PySem.Challenge.cw_kinghall_k15_whole_led_into_one_another_holds : PySem.Challenge.rw_kinghall_k15_whole_led_into_one_another.Holds := by
  w_on; o_law; k_head; (case hw => w_witness2)
  k_fill
  refine' KH.walk (l := PySem.Challenge.rw_kinghall_k15_whole_led_into_one_another) rfl rfl (fun w h Y => ⟨PySem.W.km_in_of Y, PySem.W.km_tabs_of Y _ (List.Mem.head _)⟩) ?KP ?F
  case F =>
    intro w mg fa h KX G hmg
    refine' KH.all_mk KX G hmg ?g_MOST_PLAYERS ?a1 ?l1 ?c1 ?k1 ?a2 ?l2 ?c2 ?k2 ?a3 ?l3 ?c3 ?k3 ?a4 ?l4 ?c4 ?k4 ?a5 ?l5 ?c5 ?k5 ?a6 ?l6 ?c6 ?k6 ?a7 ?l7 ?c7 ?k7 ?a8 ?l8 ?c8 ?k8 ?a9 ?l9 ?c9 ?k9 ?a10 ?l10 ?c10 ?k10 ?a11 ?l11 ?c11 ?k11 ?a12 ?l12 ?c12 ?k12 ?a13 ?l13 ?c13 ?k13 ?a14 ?l14 ?c14 ?k14 ?a15 ?l15 ?c15 ?k15 ?a16 ?l16 ?c16 ?k16 ?a17 ?l17 ?c17 ?k17 ?a18 ?l18 ?c18 ?k18 ?a19 ?l19 ?c19 ?k19 ?a20 ?l20 ?c20 ?k20 ?a21 ?l21 ?c21 ?k21 ?a22 ?l22 ?c22 ?k22 ?a23 ?l23 ?c23 ?k23 ?a24 ?l24 ?c24 ?k24 ?a25 ?l25 ?c25 ?k25 ?a26 ?l26 ?c26 ?k26 ?a27 ?l27 ?c27 ?k27 ?a28 ?l28 ?c28 ?k28 ?a29 ?l29 ?c29 ?k29 ?a30 ?l30 ?c30 ?k30 ?tb_c ?tb_h ?tb_m ?n_HallError ?cl_HallError ?ty_HallError ?ex_HallError ?n_NoRing ?cl_NoRing ?ty_NoRing ?ex_NoRing ?n_NoRow ?cl_NoRow ?ty_NoRow ?ex_NoRow ?n_Unlike ?cl_Unlike ?ty_Unlike ?ex_Unlike ?m_NoRing_HallError ?m_NoRing_NoRing ?m_NoRing_NoRow ?m_NoRing_Unlike ?m_NoRing_ValueError ?m_NoRing_object ?m_NoRing_BaseException ?ga_NoRing ?gh_NoRing ?gc_NoRing ?m_NoRow_HallError ?m_NoRow_NoRing ?m_NoRow_NoRow ?m_NoRow_Unlike ?m_NoRow_ValueError ?m_NoRow_object ?m_NoRow_BaseException ?ga_NoRow ?gh_NoRow ?gc_NoRow ?m_Unlike_HallError ?m_Unlike_NoRing ?m_Unlike_NoRow ?m_Unlike_Unlike ?m_Unlike_ValueError ?m_Unlike_object ?m_Unlike_BaseException ?ga_Unlike ?gh_Unlike ?gc_Unlike ?gt_ ?tk_ ?z1 ?z2 ?z3 ?z4 ?z5 ?z6 ?z7 ?z8 ?z9 ?z10 ?z11 ?z12 ?z13 ?z14 ?z15 ?z16 ?zx_tuple
    (case g_MOST_PLAYERS => k_is)
    (case a1 => k_is)
    (case l1 => k_is)
    (case c1 => k_is)
    (case k1 => k_is)
    (case a2 => k_is)
    (case l2 => k_is)
    (case c2 => k_is)
    (case k2 => k_is)
    (case a3 => k_is)
    (case l3 => k_is)
    (case c3 => k_is)
    (case k3 => k_is)
    (case a4 => k_is)
    (case l4 => k_is)
    (case c4 => k_is)
    (case k4 => k_is)
    (case a5 => k_is)
    (case l5 => k_is)
    (case c5 => k_is)
    (case k5 => k_is)
    (case a6 => k_is)
    (case l6 => k_is)
    (case c6 => k_is)
    (case k6 => k_is)
    (case a7 => k_is)
    (case l7 => k_is)
    (case c7 => k_is)
    (case k7 => k_is)
    (case a8 => k_is)
    (case l8 => k_is)
    (case c8 => k_is)
    (case k8 => k_is)
    (case a9 => k_is)
    (case l9 => k_is)
    (case c9 => k_is)
    (case k9 => k_is)
    (case a10 => k_is)
    (case l10 => k_is)
    (case c10 => k_is)
    (case k10 => k_is)
    (case a11 => k_is)
    (case l11 => k_is)
    (case c11 => k_is)
    (case k11 => k_is)
    (case a12 => k_is)
    (case l12 => k_is)
    (case c12 => k_is)
    (case k12 => k_is)
    (case a13 => k_is)
    (case l13 => k_is)
    (case c13 => k_is)
    (case k13 => k_is)
    (case a14 => k_is)
    (case l14 => k_is)
    (case c14 => k_is)
    (case k14 => k_is)
    (case a15 => k_is)
    (case l15 => k_is)
    (case c15 => k_is)
    (case k15 => k_is)
    (case a16 => k_is)
    (case l16 => k_is)
    (case c16 => k_is)
    (case k16 => k_is)
    (case a17 => k_is)
    (case l17 => k_is)
    (case c17 => k_is)
    (case k17 => k_is)
    (case a18 => k_is)
    (case l18 => k_is)
    (case c18 => k_is)
    (case k18 => k_is)
    (case a19 => k_is)
    (case l19 => k_is)
    (case c19 => k_is)
    (case k19 => k_is)
    (case a20 => k_is)
    (case l20 => k_is)
    (case c20 => k_is)
    (case k20 => k_is)
    (case a21 => k_is)
    (case l21 => k_is)
    (case c21 => k_is)
    (case k21 => k_is)
    (case a22 => k_is)
    (case l22 => k_is)
    (case c22 => k_is)
    (case k22 => k_is)
    (case a23 => k_is)
    (case l23 => k_is)
    (case c23 => k_is)
    (case k23 => k_is)
    (case a24 => k_is)
    (case l24 => k_is)
    (case c24 => k_is)
    (case k24 => k_is)
    (case a25 => k_is)
    (case l25 => k_is)
    (case c25 => k_is)
    (case k25 => k_is)
    (case a26 => k_is)
    (case l26 => k_is)
    (case c26 => k_is)
    (case k26 => k_is)
    (case a27 => k_is)
    (case l27 => k_is)
    (case c27 => k_is)
    (case k27 => k_is)
    (case a28 => k_is)
    (case l28 => k_is)
    (case c28 => k_is)
    (case k28 => k_is)
    (case a29 => k_is)
    (case l29 => k_is)
    (case c29 => k_is)
    (case k29 => k_is)
    (case a30 => k_is)
    (case l30 => k_is)
    (case c30 => k_is)
    (case k30 => k_is)
    (case tb_c => exact rfl)
    (case tb_h => kernel_rfl)
    (case tb_m => decide)
    (case n_HallError => k_is)
    (case cl_HallError => k_is)
    (case ty_HallError => k_is)
    (case ex_HallError => k_exc)
    (case n_NoRing => k_is)
    (case cl_NoRing => k_is)
    (case ty_NoRing => k_is)
    (case ex_NoRing => k_exc)
    (case n_NoRow => k_is)
    (case cl_NoRow => k_is)
    (case ty_NoRow => k_is)
    (case ex_NoRow => k_exc)
    (case n_Unlike => k_is)
    (case cl_Unlike => k_is)
    (case ty_Unlike => k_is)
    (case ex_Unlike => k_exc)
    (case m_NoRing_HallError => k_is)
    (case m_NoRing_NoRing => k_is)
    (case m_NoRing_NoRow => k_is)
    (case m_NoRing_Unlike => k_is)
    (case m_NoRing_ValueError => k_is)
    (case m_NoRing_object => k_is)
    (case m_NoRing_BaseException => k_is)
    (case ga_NoRing => k_is)
    (case gh_NoRing => k_is)
    (case gc_NoRing => k_is)
    (case m_NoRow_HallError => k_is)
    (case m_NoRow_NoRing => k_is)
    (case m_NoRow_NoRow => k_is)
    (case m_NoRow_Unlike => k_is)
    (case m_NoRow_ValueError => k_is)
    (case m_NoRow_object => k_is)
    (case m_NoRow_BaseException => k_is)
    (case ga_NoRow => k_is)
    (case gh_NoRow => k_is)
    (case gc_NoRow => k_is)
    (case m_Unlike_HallError => k_is)
    (case m_Unlike_NoRing => k_is)
    (case m_Unlike_NoRow => k_is)
    (case m_Unlike_Unlike => k_is)
    (case m_Unlike_ValueError => k_is)
    (case m_Unlike_object => k_is)
    (case m_Unlike_BaseException => k_is)
    (case ga_Unlike => k_is)
    (case gh_Unlike => k_is)
    (case gc_Unlike => k_is)
    (case gt_ => k_is)
    (case tk_ => k_is)
    (case z1 => k_is)
    (case z2 => k_is)
    (case z3 => k_is)
    (case z4 => k_is)
    (case z5 => k_is)
    (case z6 => k_is)
    (case z7 => k_is)
    (case z8 => k_is)
    (case z9 => k_is)
    (case z10 => k_is)
    (case z11 => k_is)
    (case z12 => k_is)
    (case z13 => k_is)
    (case z14 => k_is)
    (case z15 => k_is)
    (case z16 => k_is)
    (case zx_tuple => k_is)
  (case KP => intro w; kernel_rfl)
