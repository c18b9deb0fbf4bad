import PyProof.Rows.All
import Wide.All
import OpenK.AllK
import Wide.FinOn
import Lean
import PyProof.EqAt
import PyProof.EqKinds
import PyProof.TupleCall
import PySem.Challenge.RW_kinghall_k18_read_or_refused
import PyProof.Draws
import PyProof.EnumMake
import PyProof.WalksMore
import PyProof.StationsW
import PyProof.ExcClass3
import PyProof.NsDelKeeps
import PyProof.Rows.CatchOwn
set_option Elab.async false
set_option linter.all false
set_option maxRecDepth 100000
/-! THE HAND LAYER, for ints, bools, texts, own classes, LISTS and tuples (index, slices, in, append, pop ..), calls, loops. Paste it whole ahead of your own text; what your proof does not reach may be deleted. -/
namespace L2
open PySem PySem.Spec PyProof.Rows

/-- a key: an int or a str -/
abbrev Key := Sum Int Str
def keyIs : Key → Value → Bool
  | .inl k, v => Value.isInt k v
  | .inr x, v => Value.isStrOf x v
def keyH (w : World) : Key → Int
  | .inl k => hashInt k
  | .inr x => hashStr w x
theorem keyIs_shape : ∀ {k : Key} {v : Value}, keyIs k v = true → (∃ i t, k = Sum.inl i ∧ v = Value.int i t) ∨ (∃ x t, k = Sum.inr x ∧ v = Value.str x t)
  | .inl i, v, h => by
    obtain ⟨t, e⟩ := Value.isInt_shape (k := i) (v := v) h
    exact .inl ⟨i, t, rfl, e⟩
  | .inr x, v, h => by
    obtain ⟨t, e⟩ := Value.isStrOf_shape (x := x) (v := v) h
    exact .inr ⟨x, t, rfl, e⟩
theorem keyIs_int (i : Int) (t : Tok) : keyIs (.inl i) (.int i t) = true := by simp [keyIs, Value.isInt]
theorem keyIs_str (x : Str) (t : Tok) : keyIs (.inr x) (.str x t) = true := by simp [keyIs, Value.isStrOf]
theorem key_ll (a b : Int) : decide ((Sum.inl a : Key) = Sum.inl b) = (a == b) := by
  by_cases e : a = b
  · subst e; simp
  · have h : ¬ (Sum.inl a : Key) = Sum.inl b := fun q => e (Sum.inl.inj q)
    rw [decide_eq_false h]
    exact (beq_eq_false_iff_ne.mpr e).symm
theorem key_rr (a b : Str) : decide ((Sum.inr a : Key) = Sum.inr b) = decide (a = b) := by
  by_cases e : a = b
  · subst e; simp
  · have h : ¬ (Sum.inr a : Key) = Sum.inr b := fun q => e (Sum.inr.inj q)
    rw [decide_eq_false h, decide_eq_false e]
theorem key_lr (a : Int) (b : Str) : decide ((Sum.inl a : Key) = Sum.inr b) = false := decide_eq_false (fun q => nomatch q)
theorem key_rl (a : Str) (b : Int) : decide ((Sum.inr a : Key) = Sum.inl b) = false := decide_eq_false (fun q => nomatch q)

def mixKind (prog : Program) (w : World) : PySem.KeyKind prog w Key where
  is := keyIs
  hash := keyH w
  inj := fun v a b ha hb => by
    rcases keyIs_shape ha with ⟨i, t, rfl, rfl⟩ | ⟨x, t, rfl, rfl⟩
    · rcases keyIs_shape hb with ⟨j, u, rfl, e⟩ | ⟨y, u, rfl, e⟩
      · injection e with e1 _; rw [e1]
      · exact nomatch e
    · rcases keyIs_shape hb with ⟨j, u, rfl, e⟩ | ⟨y, u, rfl, e⟩
      · exact nomatch e
      · injection e with e1 _; rw [e1]
  byValue := fun k v h => by
    rcases keyIs_shape h with ⟨i, t, rfl, rfl⟩ | ⟨x, t, rfl, rfl⟩ <;> rfl
  pyHash := fun hv h => by
    rcases keyIs_shape hv with ⟨i, t, rfl, rfl⟩ | ⟨x, t, rfl, rfl⟩
    · exact wpAny_pyHash_int h
    · exact wpAny_pyHash_str h
  eqBool := fun hu hv h => by
    rcases keyIs_shape hu with ⟨i, t, rfl, rfl⟩ | ⟨x, t, rfl, rfl⟩
    · rcases keyIs_shape hv with ⟨j, u, rfl, rfl⟩ | ⟨y, u, rfl, rfl⟩
      · rw [key_ll] at h; exact wpAny_eqBool_int h
      · rw [key_lr] at h; exact SeqAt.EqAt.int_str i t y u _ _ _ _ h
    · rcases keyIs_shape hv with ⟨j, u, rfl, rfl⟩ | ⟨y, u, rfl, rfl⟩
      · rw [key_rl] at h; exact SeqAt.EqAt.str_int x t j u _ _ _ _ h
      · rw [key_rr] at h; exact wpAny_eqBool_str h
  «strs» := fun k x t v h => by
    rcases keyIs_shape h with ⟨i, u, rfl, e⟩ | ⟨y, u, rfl, e⟩
    · exact nomatch e
    · injection e with e1 _
      subst e1
      cases v <;> rfl

theorem mixKind_is (prog : Program) (w : World) (k : Key) (v : Value) : (mixKind prog w).is k v = keyIs k v := rfl
theorem mixKind_int (prog : Program) (w : World) (i : Int) (t : Tok) : (mixKind prog w).is (.inl i) (.int i t) = true := keyIs_int i t
theorem mixKind_str (prog : Program) (w : World) (x : Str) (t : Tok) : (mixKind prog w).is (.inr x) (.str x t) = true := keyIs_str x t
end L2

namespace L2
open PySem PySem.Spec PyProof.Rows

/-- a value, without the heap -/
inductive V where
  | non | bl (b : Bool) | int (i : Int) | str (x : Str) | byt (b : Array UInt8) | flt (b : UInt64) | ref (a : Addr) | ty (n : String)
  deriving DecidableEq

def RelV : V → Value → Prop
  | .non, u => u = Value.none
  | .bl b, u => u = Value.bool b
  | .int i, u => ∃ t, u = Value.int i t
  | .str x, u => ∃ t, u = Value.str x t
  | .byt b, u => ∃ t, u = Value.bytes b t
  | .flt b, u => ∃ t, u = Value.float b t
  | .ref a, u => u = Value.ref a
  | .ty n, u => u = Value.type n

abbrev Vals : List V → List Value → Prop := Paired RelV
theorem Vals.length {xs : List V} {us : List Value} (r : Vals xs us) : xs.length = us.length := Paired.length r
theorem Vals.get : ∀ {xs : List V} {us : List Value} {i : Nat} {x : V}, Vals xs us → xs[i]? = some x → ∃ u, us[i]? = some u ∧ RelV x u
  | _, _, _, _, .nil, e => by simp at e
  | _, _, 0, _, .cons r _, e => by simp at e; subst e; exact ⟨_, rfl, r⟩
  | _, _, i + 1, x, .cons _ t, e => by
    obtain ⟨u, h1, h2⟩ := Vals.get (i := i) (x := x) t (by simpa using e)
    exact ⟨u, by simpa using h1, h2⟩
theorem Vals.set {x : V} {u : Value} (r : RelV x u) : ∀ {xs : List V} {us : List Value} (i : Nat), Vals xs us → Vals (xs.set i x) (us.set i u)
  | _, _, _, .nil => .nil
  | _, _, 0, .cons _ t => .cons r t
  | _, _, i + 1, .cons q t => .cons q (Vals.set r i t)
theorem Vals.append : ∀ {xs ys : List V} {us ws : List Value}, Vals xs us → Vals ys ws → Vals (xs ++ ys) (us ++ ws)
  | _, _, _, _, .nil, s => s
  | _, _, _, _, .cons r t, s => .cons r (Vals.append t s)
theorem Vals.take : ∀ {xs : List V} {us : List Value} (n : Nat), Vals xs us → Vals (xs.take n) (us.take n)
  | _, _, 0, _ => .nil
  | _, _, _ + 1, .nil => .nil
  | _, _, n + 1, .cons r t => .cons r (Vals.take n t)
theorem Vals.drop : ∀ {xs : List V} {us : List Value} (n : Nat), Vals xs us → Vals (xs.drop n) (us.drop n)
  | _, _, 0, r => r
  | _, _, _ + 1, .nil => .nil
  | _, _, n + 1, .cons _ t => Vals.drop n t
theorem Vals.none_of : ∀ {xs : List V} {us : List Value} {i : Nat}, Vals xs us → xs[i]? = none → us[i]? = none := fun {xs us i} r e => by
  have h1 := r.length
  have h2 : xs.length ≤ i := List.getElem?_eq_none_iff.mp e
  exact List.getElem?_eq_none_iff.mpr (by omega)

def RelO : Option V → Option Value → Prop
  | some v, some u => RelV v u
  | none, none => True
  | _, _ => False
def KV {κ : Type} : List (κ × V) → List (κ × Value) → Prop := Paired fun (p : κ × V) (q : κ × Value) => p.1 = q.1 ∧ RelV p.2 q.2

/-- a key of a dict (00_mix): an int or a text -/
def kV : Key → V
  | .inl i => .int i
  | .inr x => .str x

/-- what stands at a tracked address -/
inductive HO where
  /-- a list -/
  | lst (xs : List V)
  /-- a tuple (never changes) -/
  | tup (xs : List V)
  /-- a dict whose keys are ints and texts; one whose keys are tuples of ints and texts (the empty one is both) -/
  | dK (kvs : List (Key × V)) | dT (kvs : List (List Key × V))
  /-- a set of ints: its members, its size -/
  | set (S : Int → Bool) (n : Nat)
  /-- an instance of the class at C, its dict at dx, its attributes -/
  | ins (C dx : Addr) (fs : List (Str × V))
  /-- the dict of the instance at x -/
  | own (x : Addr)
  /-- the dict of an exception -/
  | xd (fs : List (Str × V))
  /-- a bound method, f of x -/
  | met (f x : Addr)
  /-- a range object lo, lo + 1, .. below hi -/
  | rng (lo hi : Int)
  /-- a thing that is known to the object (the script; a dict while a loop walks it): read, never written while it is so -/
  | frz (o : Obj) (u : HO)
  /-- a code object's table -/
  | tbl (ps : Array Value)
  /-- any other thing, by what is true of its one object (a def of one's own: SetO a S n := HO.ext fun h => ..) -/
  | ext (φ : Heap → Prop)

abbrev Hp := Addr → Option HO
def upd (H : Hp) (a : Addr) (o : HO) : Hp := fun b => if b = a then some o else H b
theorem upd_same {H : Hp} {a : Addr} {o : HO} : upd H a o a = some o := by unfold upd; rw [if_pos rfl]
theorem upd_ne {H : Hp} {a b : Addr} {o : HO} (h : b ≠ a) : upd H a o b = H b := by unfold upd; rw [if_neg h]
theorem upd_upd {H : Hp} {a : Addr} {o u : HO} : upd (upd H a o) a u = upd H a u := by
  funext b; unfold upd; split <;> rfl
/-- two objects of different content stand apart -/
theorem ne_of {H : Hp} {a b : Addr} {o u : HO} (h : H a = some o) (h' : H b = some u) (d : o ≠ u) : a ≠ b := by
  intro e; subst e; rw [h] at h'; exact d (Option.some.inj h')
theorem ne_of_none {H : Hp} {a b : Addr} {o : HO} (h : H a = some o) (h' : H b = none) : a ≠ b := by
  intro e; subst e; rw [h] at h'; cases h'

section
variable (P : Program) (w : World)
def ObjOk (H : Hp) (h : Heap) (a : Addr) : HO → Prop
  | .lst xs => xs.length ≤ sizeLine ∧ ∃ (its : List Value) (n : Nat), Vals xs its ∧ h.get? a = some { cls := .type "list", data := .seq its.toArray n }
  | .tup xs => xs.length ≤ sizeLine ∧ ∃ its : List Value, Vals xs its ∧ IsTup h a its.toArray
  | .dK kvs => kvs.length ≤ sizeLine ∧ (a == sysModules) = false ∧ ∃ vs, KV kvs vs ∧ h.DictOf (mixKind P w) a vs
  | .dT kvs => kvs.length ≤ sizeLine ∧ (a == sysModules) = false ∧ ∃ xs : List (List Key × Addr × Value),
      Paired (fun (p : List Key × V) (q : List Key × Addr × Value) => p.1 = q.1 ∧ H q.2.1 = some (.tup (p.1.map kV)) ∧ RelV p.2 q.2.2) kvs xs ∧
      ∃ o es ep, h.get? a = some o ∧ o.ExactDict ∧ o.data = .dict es ep ∧ es.toList = xs.map (entryOfKey (tupleKind (mixKind P w))) ∧ (xs.map (·.1)).Nodup
  | .set S n => h.SetOf (intKind P w) a S n
  | .ins C dx fs => H dx = some (.own a) ∧ fs.length ≤ 1000 ∧ dx ≠ a ∧ h.get? a = some (PySem.W.instObj C dx) ∧
      ∃ mA, h.Ns1 dx mA ∧ (∀ f, RelO (fs.lookup f) (mA f)) ∧ PySem.Within mA (fs.map (·.1))
  | .own _ => ∃ o, h.get? a = some o
  | .xd fs => ∃ mA, h.Ns1 a mA ∧ ∀ f, RelO (fs.lookup f) (mA f)
  | .rng lo hi => ∃ t u v, h.get? a = some { cls := .type "range", data := .fields #[.int lo t, .int hi u, .int 1 v] }
  | .frz o u => h.get? a = some o ∧ ObjOk H h a u
  | .tbl ps => h.get? a = some { cls := .none, data := .fields ps }
  | .met f x => h.get? a = some (PySem.W.methodObj (.ref f) (.ref x))
  | .ext φ => φ h ∧ (∃ o, h.get? a = some o) ∧ ∀ h1 h2 : Heap, φ h1 → (∀ o, h1.get? a = some o → h2.get? a = some o) → φ h2
/-- the abstract heap is held -/
def HOk (H : Hp) (h : Heap) : Prop := ∀ a o, H a = some o → ObjOk P w H h a o
end

section
variable {P : Program} {w : World} {H H' : Hp} {h h' : Heap} {a : Addr} {o : HO}
theorem ObjOk.lt (x : ObjOk P w H h a o) : a < h.objs.size := by
  cases o with
  | lst xs => obtain ⟨_, _, _, _, e⟩ := x; exact Heap.lt_size e
  | tup xs => obtain ⟨_, _, _, p⟩ := x; exact p.lt
  | dK kvs => obtain ⟨_, _, _, _, o, _, _, e, _⟩ := x; exact Heap.lt_size e
  | dT kvs => obtain ⟨_, _, _, _, o, _, _, e, _⟩ := x; exact Heap.lt_size e
  | set S n => obtain ⟨o, _, _, _, e, _⟩ := x; exact Heap.lt_size e
  | ins C dx fs => obtain ⟨_, _, _, e, _⟩ := x; exact Heap.lt_size e
  | own y => obtain ⟨_, e⟩ := x; exact Heap.lt_size e
  | xd fs => obtain ⟨_, ⟨_, _, _, e, _⟩, _⟩ := x; exact Heap.lt_size e
  | rng lo hi => obtain ⟨_, _, _, e⟩ := x; exact Heap.lt_size e
  | frz ob u => obtain ⟨e, _⟩ := x; exact Heap.lt_size e
  | tbl ps => exact Heap.lt_size (show h.get? a = some _ from x)
  | met f y => exact Heap.lt_size (show h.get? a = some _ from x)
  | ext φ => obtain ⟨_, ⟨_, e⟩, _⟩ := x; exact Heap.lt_size e
theorem Paired.mapP {α β : Type} {F G : α → β → Prop} : ∀ {l₁ : List α} {l₂ : List β}, Paired F l₁ l₂ → (∀ a b, F a b → G a b) → Paired G l₁ l₂
  | _, _, .nil, _ => .nil
  | _, _, .cons r t, f => .cons (f _ _ r) (Paired.mapP t f)
theorem Paired.imp' {α β : Type} {F G : α → β → Prop} (f : ∀ a b, F a b → G a b) {l₁ : List α} {l₂ : List β} (r : Paired F l₁ l₂) : Paired G l₁ l₂ := Paired.mapP r f
/-- what an object's description leans on: its own object, its own dict, the tuples -/
theorem ObjOk.stay (x : ObjOk P w H h a o) (k : ∀ b u, (b = a ∨ H b = some (.own a)) → h.get? b = some u → h'.get? b = some u)
    (ho : ∀ b, H b = some (.own a) → H' b = some (.own a)) (ht : ∀ b xs, H b = some (.tup xs) → H' b = some (.tup xs)) : ObjOk P w H' h' a o := by
  induction o with
  | lst xs => obtain ⟨z, its, n, r, e⟩ := x; exact ⟨z, its, n, r, k _ _ (.inl rfl) e⟩
  | tup xs => obtain ⟨z, its, r, ob, e, c⟩ := x; exact ⟨z, its, r, ob, k _ _ (.inl rfl) e, c⟩
  | dK kvs => obtain ⟨z, y, vs, r, ob, es, ep, e, c⟩ := x; exact ⟨z, y, vs, r, ob, es, ep, k _ _ (.inl rfl) e, c⟩
  | dT kvs =>
    obtain ⟨z, y, xs, r, ob, es, ep, e, c⟩ := x
    exact ⟨z, y, xs, Paired.mapP r fun p q z => ⟨z.1, ht _ _ z.2.1, z.2.2⟩, ob, es, ep, k _ _ (.inl rfl) e, c⟩
  | set S n => obtain ⟨ob, es, ep, t, e, c⟩ := x; exact ⟨ob, es, ep, t, k _ _ (.inl rfl) e, c⟩
  | ins C dx fs =>
    obtain ⟨d, z, ne, e, mA, ⟨od, es, ep, e2, c⟩, r⟩ := x
    exact ⟨ho _ d, z, ne, k _ _ (.inl rfl) e, mA, ⟨od, es, ep, k _ _ (.inr d) e2, c⟩, r⟩
  | own y => obtain ⟨ob, e⟩ := x; exact ⟨ob, k _ _ (.inl rfl) e⟩
  | xd fs => obtain ⟨mA, ⟨od, es, ep, e, c⟩, r⟩ := x; exact ⟨mA, ⟨od, es, ep, k _ _ (.inl rfl) e, c⟩, r⟩
  | rng lo hi => obtain ⟨t, u, v, e⟩ := x; exact ⟨t, u, v, k _ _ (.inl rfl) e⟩
  | frz ob u ih => obtain ⟨e, q⟩ := x; exact ⟨k _ _ (.inl rfl) e, ih q⟩
  | tbl ps =>
    have e : h.get? a = some { cls := .none, data := .fields ps } := x
    show h'.get? a = some { cls := .none, data := .fields ps }
    exact k a _ (.inl rfl) e
  | met f y =>
    have e : h.get? a = some (PySem.W.methodObj (.ref f) (.ref y)) := x
    show h'.get? a = some (PySem.W.methodObj (.ref f) (.ref y))
    exact k a _ (.inl rfl) e
  | ext φ => obtain ⟨p, ⟨o, e⟩, st⟩ := x; exact ⟨st _ _ p fun o q => k _ _ (.inl rfl) q, ⟨o, k _ _ (.inl rfl) e⟩, st⟩
theorem HOk.lt (x : HOk P w H h) (e : H a = some o) : a < h.objs.size := (x a o e).lt
theorem HOk.fresh (x : HOk P w H h) (e : h.objs.size ≤ a) : H a = none := by
  cases q : H a with
  | none => rfl
  | some u => exact absurd (Nat.lt_of_lt_of_le (x.lt q) e) (Nat.lt_irrefl _)
/-- every object of the heap is kept -/
theorem HOk.kept (x : HOk P w H h) (k : ∀ b u, h.get? b = some u → h'.get? b = some u) : HOk P w H h' := fun a o e =>
  (x a o e).stay (fun b u _ q => k b u q) (fun _ q => q) fun _ _ q => q
/-- a new object is laid and tracked -/
theorem HOk.laid (x : HOk P w H h) (k : ∀ b u, h.get? b = some u → h'.get? b = some u) (hp : h.objs.size ≤ a) (new : ObjOk P w (upd H a o) h' a o) : HOk P w (upd H a o) h' := fun b u e => by
  have hn := x.fresh hp
  by_cases hb : b = a
  · subst hb; rw [upd_same] at e; cases e; exact new
  · rw [upd_ne hb] at e
    exact (x b u e).stay (fun c v _ q => k c v q) (fun c q => by rw [upd_ne (ne_of_none q hn)]; exact q) fun c xs q => by rw [upd_ne (ne_of_none q hn)]; exact q
end

/-- what may be read as u: it is u, or a known u -/
def Rd (H : Hp) (a : Addr) (u : HO) : Prop := H a = some u ∨ ∃ o, H a = some (.frz o u)
theorem Rd.of {H : Hp} {a : Addr} {u : HO} (h : H a = some u) : Rd H a u := .inl h
theorem Rd.ok {P : Program} {w : World} {H : Hp} {h : Heap} {a : Addr} {u : HO} (r : Rd H a u) (x : HOk P w H h) : ObjOk P w H h a u := by
  rcases r with r | ⟨o, r⟩
  · exact x a u r
  · obtain ⟨_, q⟩ := x a _ r
    exact q
/-- what may be written -/
def Mut : Option HO → Prop
  | some (.lst _) => True
  | some (.dK _) => True
  | some (.dT _) => True
  | some (.set _ _) => True
  | some (.ins _ _ _) => True
  | some (.ext _) => True
  | _ => False
section
variable {P : Program} {w : World} {H : Hp} {h h' : Heap} {x e : Addr} {o' : HO}
/-- the object at e is changed: x itself, or the dict of the instance x -/
theorem HOk.write (ok : HOk P w H h) (mu : Mut (H x)) (he : e = x ∨ H e = some (.own x)) (k : ∀ b u, b ≠ e → h.get? b = some u → h'.get? b = some u) (heo : ∃ u, h'.get? e = some u)
    (new : ObjOk P w (upd H x o') h' x o') : HOk P w (upd H x o') h' := fun b u q => by
  have nown : ∀ c y, H c = some (.own y) → c ≠ x := fun c y r z => by subst z; rw [r] at mu; exact mu
  have ntup : ∀ c xs, H c = some (.tup xs) → c ≠ x := fun c xs r z => by subst z; rw [r] at mu; exact mu
  by_cases hb : b = x
  · subst hb; rw [upd_same] at q; cases q; exact new
  · rw [upd_ne hb] at q
    by_cases hbe : b = e
    · have q' : H b = some (.own x) := by
        rcases he with z | z
        · exact absurd (hbe.trans z) hb
        · rw [hbe]; exact z
      rw [q] at q'; cases q'
      obtain ⟨v, hv⟩ := heo
      exact ⟨v, by rw [hbe]; exact hv⟩
    · refine (ok b u q).stay (fun c v hc r => k c v ?_ r) (fun c r => by rw [upd_ne (nown c b r)]; exact r) fun c xs r => by rw [upd_ne (ntup c xs r)]; exact r
      rcases hc with rfl | hc
      · exact hbe
      · rintro rfl
        rcases he with z | z
        · exact nown c b hc z
        · rw [hc] at z; cases z; exact hb rfl
end

/-! ### kept unless tracked; of the frames at fs (the callers') the slots may change (an exception that passes writes there); of the records at ex (iterators) nothing is said -/
structure Un (fs ex : List Addr) (H H' : Hp) (h h' : Heap) : Prop where
  keep : ∀ b o, h.get? b = some o → H b = none → b ∉ fs → b ∉ ex → h'.get? b = some o
  slot : ∀ b o, h.get? b = some o → H b = none → b ∈ fs → b ∉ ex → ∃ sl, h'.get? b = some { o with slots := sl }
  free : ∀ b o, h.get? b = some o → H b = none → b ∉ ex → H' b = none
  there : ∀ b o, h.get? b = some o → b ∉ ex → ∃ o', h'.get? b = some o'
  tups : ∀ b xs, H b = some (.tup xs) → H' b = some (.tup xs)
  frzs : ∀ b o u, H b = some (.frz o u) → H' b = some (.frz o u)
  tbls : ∀ b ps, H b = some (.tbl ps) → ∃ more, H' b = some (.tbl (ps ++ more))
section
variable {fs fs' ex ex' : List Addr} {H H1 H2 : Hp} {h h1 h2 h' : Heap} {a x e : Addr} {o : HO}
theorem Un.any (u : Un fs ex H H1 h h1) {b : Addr} {ob : Obj} (q : h.get? b = some ob) (n : H b = none) (hx : b ∉ ex) : ∃ sl, h1.get? b = some { ob with slots := sl } := by
  by_cases hb : b ∈ fs
  · exact u.slot b ob q n hb hx
  · exact ⟨ob.slots, u.keep b ob q n hb hx⟩
theorem Un.trans (a : Un fs ex H H1 h h1) (b : Un fs ex H1 H2 h1 h2) : Un fs ex H H2 h h2 where
  keep := fun c ob q n hc hx => b.keep c ob (a.keep c ob q n hc hx) (a.free c ob q n hx) hc hx
  slot := fun c ob q n hc hx => by
    obtain ⟨sl, e1⟩ := a.slot c ob q n hc hx
    obtain ⟨sl', e2⟩ := b.slot c _ e1 (a.free c ob q n hx) hc hx
    exact ⟨sl', e2⟩
  free := fun c ob q n hx => by
    obtain ⟨o', e1⟩ := a.there c ob q hx
    exact b.free c o' e1 (a.free c ob q n hx) hx
  there := fun c ob q hx => by
    obtain ⟨o', e1⟩ := a.there c ob q hx
    exact b.there c o' e1 hx
  tups := fun c xs q => b.tups c xs (a.tups c xs q)
  frzs := fun c ob xs q => b.frzs c ob xs (a.frzs c ob xs q)
  tbls := fun c ps q => by
    obtain ⟨m1, e1⟩ := a.tbls c ps q
    obtain ⟨m2, e2⟩ := b.tbls c _ e1
    exact ⟨m1 ++ m2, by rw [e2, Array.append_assoc]⟩
theorem Un.kept (k : ∀ b u, h.get? b = some u → h'.get? b = some u) : Un fs ex H H h h' :=
  ⟨fun b ob q _ _ _ => k b ob q, fun b ob q _ _ _ => ⟨ob.slots, k b ob q⟩, fun _ _ _ n _ => n, fun b ob q _ => ⟨ob, k b ob q⟩, fun _ _ q => q, fun _ _ _ q => q, fun _ ps q => ⟨#[], by rw [q]; simp⟩⟩
theorem Un.refl : Un fs ex H H h h := Un.kept fun _ _ q => q
theorem Un.laid (k : ∀ b u, h.get? b = some u → h'.get? b = some u) (hp : h.objs.size ≤ a) (hn : H a = none) : Un fs ex H (upd H a o) h h' where
  keep := fun b u q _ _ _ => k b u q
  slot := fun b u q _ _ _ => ⟨u.slots, k b u q⟩
  free := fun b u q n _ => by rw [upd_ne (Nat.ne_of_lt (Nat.lt_of_lt_of_le (Heap.lt_size q) hp))]; exact n
  there := fun b u q _ => ⟨u, k b u q⟩
  tups := fun b xs q => by rw [upd_ne (ne_of_none q hn)]; exact q
  frzs := fun b u xs q => by rw [upd_ne (ne_of_none q hn)]; exact q
  tbls := fun b ps q => ⟨#[], by rw [upd_ne (ne_of_none q hn), q]; simp⟩
theorem Un.write (mu : Mut (H x)) (he : e = x ∨ H e = some (.own x)) (k : ∀ b u, b ≠ e → h.get? b = some u → h'.get? b = some u) (heo : ∃ u, h'.get? e = some u) : Un fs ex H (upd H x o) h h' := by
  have hx : ∀ b, H b = none → b ≠ x := fun b n z => by subst z; rw [n] at mu; exact mu
  have hb : ∀ b, H b = none → b ≠ e := fun b n z => by
    subst z
    rcases he with r | r
    · exact hx b n r
    · rw [n] at r; cases r
  have hm : ∀ b u, H b = some u → ¬ Mut (some u) → b ≠ x := fun b u q nm z => by subst z; rw [q] at mu; exact nm mu
  refine ⟨fun b u q n _ _ => k b u (hb b n) q, fun b u q n _ _ => ⟨u.slots, k b u (hb b n) q⟩, fun b u q n _ => by rw [upd_ne (hx b n)]; exact n, fun b u q _ => ?_,
    fun b xs q => by rw [upd_ne (hm b _ q fun z => z)]; exact q, fun b u xs q => by rw [upd_ne (hm b _ q fun z => z)]; exact q, fun b ps q => ⟨#[], by rw [upd_ne (hm b _ q fun z => z), q]; simp⟩⟩
  by_cases hbe : b = e
  · subst hbe; exact heo
  · exact ⟨u, k b u hbe q⟩
theorem Un.mono (u : Un fs ex H H1 h h1) (hs : ∀ b ∈ fs, b ∈ fs') (hx : ∀ b ∈ ex, b ∈ ex') : Un fs' ex' H H1 h h1 :=
  ⟨fun b ob q n hb he => u.keep b ob q n (fun z => hb (hs b z)) fun z => he (hx b z), fun _ _ q n _ he => u.any q n fun z => he (hx _ z), fun b ob q n he => u.free b ob q n fun z => he (hx b z), fun b ob q he => u.there b ob q fun z => he (hx b z), u.tups, u.frzs, u.tbls⟩
end

/-! ### the heap without what is tracked -/
def trk (h : Heap) (H : Hp) : List Addr := (List.range h.objs.size).filter fun a => (H a).isSome
def hidT (h : Heap) (H : Hp) : Heap := PySem.W.hideAll h (trk h H)
theorem hidT_size (h : Heap) (H : Hp) : (hidT h H).objs.size = h.objs.size := PySem.W.hideAll_size _ _
theorem hidT_get {h : Heap} {H : Hp} {b : Addr} {o : Obj} (e : h.get? b = some o) (n : H b = none) : (hidT h H).get? b = some o :=
  PySem.W.hideAll_get _ e fun hm => by
    have q : (H b).isSome = true := (List.mem_filter.mp hm).2
    rw [n] at q; simp at q
theorem of_hidT {h : Heap} {H : Hp} {b : Addr} {o : Obj} (e : (hidT h H).get? b = some o) : h.get? b = some o ∧ H b = none := by
  have e' : h.get? b = some o := PySem.W.of_hideAll (trk h H) e
  refine ⟨e', ?_⟩
  cases q : H b with
  | none => rfl
  | some x =>
    have hm : b ∈ trk h H := List.mem_filter.mpr ⟨List.mem_range.mpr (Heap.lt_size e'), by simp [q]⟩
    have z : (hidT h H).get? b = none := PySem.W.hideAll_none (trk h H) hm
    rw [z] at e; cases e

/-! ### OpenK's ledger, filled with every new object but one -/
def allNews (g h : Heap) (L : Addr) : List (Addr × Obj) := (List.range h.objs.size).filterMap fun a => if a = L ∨ (g.get? a).isSome = true then none else (h.get? a).map fun o => (a, o)
theorem mem_allNews {g h : Heap} {L a : Addr} {o : Obj} (h1 : a ≠ L) (h2 : g.get? a = none) (h3 : h.get? a = some o) : (a, o) ∈ allNews g h L :=
  List.mem_filterMap.mpr ⟨a, List.mem_range.mpr (Heap.lt_size h3), by simp [h1, h2, h3]⟩
theorem of_mem_allNews {g h : Heap} {L : Addr} {p : Addr × Obj} (hp : p ∈ allNews g h L) : p.1 ≠ L ∧ g.get? p.1 = none ∧ h.get? p.1 = some p.2 := by
  obtain ⟨b, _, e⟩ := List.mem_filterMap.mp hp
  split at e
  · cases e
  · rename_i hn
    cases q : h.get? b with
    | none => rw [q] at e; simp at e
    | some u =>
      rw [q] at e
      simp only [Option.map_some, Option.some.injEq] at e
      subst e
      refine ⟨fun z => hn (.inl z), ?_, q⟩
      show g.get? b = none
      cases r : g.get? b with
      | none => rfl
      | some v => exact (hn (.inr (by simp [r]))).elim
def rest (g h : Heap) (L d : Addr) : List (Addr × Obj) := (allNews g h L).filter fun p => decide (p.1 ≠ d)
theorem rest_ne {g h : Heap} {L d : Addr} : ∀ p ∈ rest g h L d, p.1 ≠ d := fun p hp => of_decide_eq_true (List.mem_filter.mp hp).2
theorem mem_rest {g h : Heap} {L d a : Addr} {o : Obj} (h1 : a ≠ L) (h2 : g.get? a = none) (h3 : h.get? a = some o) (h4 : a ≠ d) : (a, o) ∈ rest g h L d :=
  List.mem_filter.mpr ⟨mem_allNews h1 h2 h3, decide_eq_true h4⟩
theorem news_all {g h : Heap} {L : Addr} : News g L h (allNews g h L) := fun p hp => let ⟨a, b, c⟩ := of_mem_allNews hp; ⟨c, a, b⟩
theorem news_at {g h : Heap} {L d : Addr} {o : Obj} (h1 : d ≠ L) (h2 : g.get? d = none) (h3 : h.get? d = some o) : News g L h ((d, o) :: rest g h L d) := fun p hp => by
  rcases List.mem_cons.mp hp with rfl | hp
  · exact ⟨h3, h1, h2⟩
  · exact news_all p (List.mem_filter.mp hp).1
/-- behind a rule that changed d alone: all else but the frame is kept -/
theorem kept_of_news {g h h' : Heap} {L d : Addr} {m : Str → Option Value} (k : ∀ b o, g.get? b = some o → h.get? b = some o) (F : Fr g L h' m) (N : News g L h' (rest g h L d)) :
    ∀ b o, b ≠ L → b ≠ d → h.get? b = some o → h'.get? b = some o := fun b o h1 h2 e => by
  cases q : g.get? b with
  | some u =>
    have := k b u q
    rw [e] at this; cases this
    exact F.keep b _ q
  | none => exact (N (b, o) (mem_rest h1 q e h2)).1
end L2

namespace L2
open PySem PySem.Spec PyProof.Rows

/-- the module's facts, over the base: the heap at the law's entry without what is tracked there -/
structure Mod (K : PySem.W.Frag) (mg : Str → Option Value) (base : Heap) : Prop where
  kin : K.In base
  glob : base.Ns mainGlobals mg
  blt : ∃ mb, base.Ns builtinsNs mb ∧ ∀ x : Str, x ≠ "__name__" → mb x = bootBuiltins x
  nolimit : base.NoLimit

/-- the context: a def's body (or a comprehension's block) running. base: fixed through the whole law; s₀, H₀: the entry; outer: the frames whose slots others may change (a def's callers); stack: all frames that run;
   ex: iterators that were made ahead of the entry and are walked here (a comprehension's); fn: the names whose cells were made at the entry (a def: all; a comprehension's block: its own); calm: not within an except suite; pn: pins that every state bears; xe: what is wanted of an exception that leaves the code -/
structure Cx where
  prog : Program
  w : World
  K : PySem.W.Frag
  mg : Str → Option Value
  base : Heap
  A : Around
  N : List Str
  s₀ : Shared
  H₀ : Hp
  env : Env
  outer : List Env
  stack : List Env
  ex : List Addr
  fn : Str → Bool
  calm : Bool
  pn : List (Addr × Obj)
  xe : Value → Shared → Prop
/-- the callers' frames -/
def frs (l : List Env) : List Addr := l.filterMap (·.frame)
abbrev Cx.fs (X : Cx) : List Addr := frs X.outer

def Vis (sc : Scope) (x : Str) : Prop := sc.names.lookup x = some .local ∨ sc.names.lookup x = some .cell ∨ sc.names.lookup x = some .free
def Loc (sc : Scope) (x : Str) : Prop := sc.names.lookup x = some .local ∨ sc.names.lookup x = some .cell
def Look (env : Env) (h : Heap) (m : Str → Option Value) (x : Str) (u : Value) : Prop :=
  (env.kindOf x = some .local ∧ m x = some u) ∨ ((env.kindOf x = some .cell ∨ env.kindOf x = some .free) ∧ ∃ c, env.cells.lookup x = some c ∧ h.IsCell c (some u))

structure Cx.Ok (X : Cx) : Prop where
  mod : Mod X.K X.mg X.base
  kind : X.env.scope.kind = .function
  glob : X.env.globals = mainGlobals
  blt : X.env.builtins = builtinsNs
  above : X.s₀.heap.objs.size ≤ X.env.locals
  inj : ∀ x y c, X.env.cells.lookup x = some c → X.env.cells.lookup y = some c → x = y
  has : ∀ x, (X.env.kindOf x = some .cell ∨ X.env.kindOf x = some .free) → ∃ c, X.env.cells.lookup x = some c
  cab : ∀ x c, X.fn x = true → X.env.cells.lookup x = some c → X.s₀.heap.objs.size ≤ c
  hd : X.calm = true → X.A.handled = none
  frames : X.A.frames = some X.stack
  stk : X.stack = X.outer ∨ (X.stack = X.env :: X.outer ∧ X.env.frame = some X.env.locals)
  exf : ∀ b ∈ X.ex, b ≠ X.env.locals ∧ ∀ x c, X.env.cells.lookup x = some c → c ≠ b
  bs : ∀ b o, X.base.get? b = some o → X.s₀.heap.get? b = some o ∧ X.H₀ b = none
  bsz : X.base.objs.size ≤ X.s₀.heap.objs.size
  noex : ∀ b o, X.base.get? b = some o → b ∉ X.ex
  exfs : ∀ b ∈ X.ex, b ∉ X.fs
  funs : X.s₀.heap.FunFrames X.base X.outer
  frf : ∀ b ∈ X.fs, X.H₀ b = none

structure Inv (X : Cx) (pins : List (Addr × Obj)) (σ : List (Option V)) (H : Hp) (s : Shared) : Prop where
  ok : X.Ok
  os : s.os = X.s₀.os
  bare : AllBare s.gens
  base : Un X.fs X.ex X.H₀ H X.s₀.heap s.heap
  loc : ∃ m, s.heap.Ns X.env.locals m ∧ ∀ (i : Nat) (x : Str) (v : V), X.N[i]? = some x → σ[i]? = some (some v) → Vis X.env.scope x → ∃ u, RelV v u ∧ Look X.env s.heap m x u
  cell : ∀ x c, X.env.cells.lookup x = some c → ∃ v, s.heap.IsCell c v
  free : H X.env.locals = none
  freeC : ∀ x c, X.env.cells.lookup x = some c → H c = none
  pin : ∀ p ∈ X.pn ++ pins, s.heap.get? p.1 = some p.2 ∧ H p.1 = none ∧ p.1 ≠ X.env.locals ∧ p.1 ∉ X.fs ∧ ∀ v, p.2.data ≠ .cell v
  hok : HOk X.prog X.w H s.heap
  len : σ.length = X.N.length

section
variable {X : Cx} {pins : List (Addr × Obj)} {σ : List (Option V)} {H H' : Hp} {s : Shared} {h' : Heap}

theorem Cx.Ok.nofr (ok : X.Ok) {b : Addr} {o : Obj} (e : X.base.get? b = some o) : b ∉ X.fs := fun hb => by
  have := (ok.funs.mem hb).1
  rw [e] at this; cases this
theorem Inv.bs (I : Inv X pins σ H s) : ∀ b o, X.base.get? b = some o → s.heap.get? b = some o ∧ H b = none := fun b o e =>
  ⟨I.base.keep b o (I.ok.bs b o e).1 (I.ok.bs b o e).2 (I.ok.nofr e) (I.ok.noex b o e), I.base.free b o (I.ok.bs b o e).1 (I.ok.bs b o e).2 (I.ok.noex b o e)⟩
theorem Inv.bk (I : Inv X pins σ H s) : ∀ b o, X.base.get? b = some o → s.heap.get? b = some o := fun b o e => (I.bs b o e).1
theorem Inv.mod (I : Inv X pins σ H s) : Mod X.K X.mg X.base := I.ok.mod
theorem Inv.kIn (I : Inv X pins σ H s) : X.K.In s.heap := I.ok.mod.kin.keeps I.bk
theorem Inv.nolimit (I : Inv X pins σ H s) : s.heap.NoLimit := I.ok.mod.nolimit.keeps I.bk
/-- the frame over the base: for OpenK's rules (K.In X.base is I.mod.kin) -/
theorem Inv.fr (I : Inv X pins σ H s) : ∃ m, Fr X.base X.env.locals s.heap m :=
  let ⟨m, hn, _⟩ := I.loc
  ⟨m, hn, I.bk, Nat.le_trans I.ok.bsz I.ok.above⟩
theorem Inv.lt (I : Inv X pins σ H s) : X.env.locals < s.heap.objs.size := let ⟨_, hn, _⟩ := I.loc; hn.lt
theorem Inv.sz (I : Inv X pins σ H s) : X.s₀.heap.objs.size ≤ s.heap.objs.size := Nat.le_trans I.ok.above (Nat.le_of_lt I.lt)
theorem Inv.nofs (I : Inv X pins σ H s) {a : Addr} (h : s.heap.objs.size ≤ a) : a ∉ X.fs := fun hb => by
  obtain ⟨_, o, ho, _⟩ := I.ok.funs.mem hb
  exact absurd (Nat.lt_of_lt_of_le (Heap.lt_size ho) (Nat.le_trans I.sz h)) (Nat.lt_irrefl _)
theorem Inv.cne (I : Inv X pins σ H s) : ∀ x c, X.env.cells.lookup x = some c → c ≠ X.env.locals := fun x c e z => by
  obtain ⟨v, o, ho, hd⟩ := I.cell x c e
  obtain ⟨m, ⟨o', es, ep, ho', hd', _⟩, _⟩ := I.loc
  rw [z, ho'] at ho; cases ho; rw [hd'] at hd; cases hd
theorem Inv.funs (I : Inv X pins σ H s) : s.heap.FunFrames X.base X.outer := by
  have all : ∀ (l : List Env), (∀ b ∈ frs l, b ∈ X.fs) → X.s₀.heap.FunFrames X.base l → s.heap.FunFrames X.base l := by
    intro l
    induction l with
    | nil => intro _ _; trivial
    | cons env r ih =>
      intro hs hl
      obtain ⟨hk, ⟨L, o, hf, hn, ho, hd⟩, hr⟩ := hl
      have hL : L ∈ X.fs := hs L (by unfold frs; rw [List.filterMap_cons, hf]; exact List.mem_cons_self)
      obtain ⟨sl, e⟩ := I.base.slot L o ho (I.ok.frf L hL) hL fun z => I.ok.exfs L z hL
      exact ⟨hk, ⟨L, _, hf, hn, e, hd⟩, ih (fun b hb => hs b (by unfold frs; rw [List.filterMap_cons, hf]; exact List.mem_cons_of_mem _ hb)) hr⟩
  exact all X.outer (fun _ hb => hb) I.ok.funs

/-- the frames that run, for a call -/
theorem Inv.stack (I : Inv X pins σ H s) : s.heap.FunFrames X.base X.stack := by
  rcases I.ok.stk with e | ⟨e, hf⟩
  · rw [e]; exact I.funs
  · rw [e]
    obtain ⟨m, hn, _⟩ := I.loc
    refine .cons (by rw [I.ok.kind]; decide) hf hn ?_ I.funs
    exact Heap.get?_none_of_le (Nat.le_trans I.ok.bsz I.ok.above)
theorem Inv.stkSub (I : Inv X pins σ H s) : ∀ b ∈ frs X.stack, b ∈ X.env.locals :: X.fs := fun b hb => by
  rcases I.ok.stk with e | ⟨e, hf⟩
  · rw [e] at hb; exact List.mem_cons_of_mem _ hb
  · rw [e] at hb
    unfold frs at hb
    rw [List.filterMap_cons, hf] at hb
    exact hb
theorem Inv.stkFree (I : Inv X pins σ H s) : ∀ b ∈ frs X.stack, H b = none := fun b hb => by
  rcases List.mem_cons.mp (I.stkSub b hb) with e | hb
  · rw [e]; exact I.free
  · obtain ⟨_, o, ho, _⟩ := I.ok.funs.mem hb
    exact I.base.free b o ho (I.ok.frf b hb) fun z => I.ok.exfs b z hb

/-- THE STEP: the untracked objects but the frame and the records at ch are kept (the callers' frames up to slots), the frame's map is kept, the new abstract heap is held -/
theorem Inv.step {g' : Array GenState} {t' : Nat} {d' : Drawn} {ch : List Addr} (I : Inv X pins σ H s)
    (hch : ∀ b ∈ ch, (b ∈ X.ex ∨ X.s₀.heap.objs.size ≤ b) ∧ b ≠ X.env.locals ∧ (∀ x c, X.env.cells.lookup x = some c → c ≠ b) ∧ ∀ p ∈ X.pn ++ pins, p.1 ≠ b)
    (keep : ∀ b o, b ≠ X.env.locals → b ∉ X.fs → b ∉ ch → s.heap.get? b = some o → H b = none → h'.get? b = some o)
    (slot : ∀ b o, b ≠ X.env.locals → b ∈ X.fs → b ∉ ch → s.heap.get? b = some o → H b = none → ∃ sl, h'.get? b = some { o with slots := sl }) (free : ∀ b o, b ∉ ch → s.heap.get? b = some o → H b = none → H' b = none)
    (there : ∀ b o, b ∉ ch → s.heap.get? b = some o → ∃ o', h'.get? b = some o')
    (tups : ∀ b xs, H b = some (.tup xs) → H' b = some (.tup xs)) (frzs : ∀ b o u, H b = some (.frz o u) → H' b = some (.frz o u)) (tbls : ∀ b ps, H b = some (.tbl ps) → ∃ more, H' b = some (.tbl (ps ++ more)))
    (ns : ∀ m, s.heap.Ns X.env.locals m → h'.Ns X.env.locals m) (hok : HOk X.prog X.w H' h') (hg : AllBare g') :
    Inv X pins σ H' { s with heap := h', gens := g', drawn := d', toks := t' } := by
  have neL : ∀ b o, X.s₀.heap.get? b = some o → b ≠ X.env.locals := fun b o e => Nat.ne_of_lt (Nat.lt_of_lt_of_le (Heap.lt_size e) I.ok.above)
  have neC : ∀ b o, X.s₀.heap.get? b = some o → b ∉ X.ex → b ∉ ch := fun b o e hx hb => by
    rcases (hch b hb).1 with z | z
    · exact hx z
    · exact absurd (Nat.lt_of_lt_of_le (Heap.lt_size e) z) (Nat.lt_irrefl _)
  have cellK : ∀ x c, X.env.cells.lookup x = some c → ∀ v, s.heap.IsCell c v → h'.IsCell c v := fun x c e v ⟨o, ho, hd⟩ => by
    have nch : c ∉ ch := fun z => (hch c z).2.2.1 x c e rfl
    by_cases hc : c ∈ X.fs
    · obtain ⟨sl, q⟩ := slot c o (I.cne x c e) hc nch ho (I.freeC x c e)
      exact ⟨_, q, hd⟩
    · exact ⟨o, keep c o (I.cne x c e) hc nch ho (I.freeC x c e), hd⟩
  refine ⟨I.ok, I.os, hg, ⟨fun b o e n hb hx => ?_, fun b o e n hb hx => ?_, fun b o e n hx => ?_, fun b o e hx => ?_, fun b xs e => tups b xs (I.base.tups b xs e), fun b o xs e => frzs b o xs (I.base.frzs b o xs e), fun b ps e => ?_⟩, ?_, fun x c e => ?_, ?_, fun x c e => ?_, fun p hp => ?_, hok, I.len⟩
  · exact keep b o (neL b o e) hb (neC b o e hx) (I.base.keep b o e n hb hx) (I.base.free b o e n hx)
  · obtain ⟨sl, e1⟩ := I.base.slot b o e n hb hx
    obtain ⟨sl', e2⟩ := slot b _ (neL b o e) hb (neC b o e hx) e1 (I.base.free b o e n hx)
    exact ⟨sl', e2⟩
  · obtain ⟨o', e1⟩ := I.base.there b o e hx
    exact free b o' (neC b o e hx) e1 (I.base.free b o e n hx)
  · obtain ⟨o', e1⟩ := I.base.there b o e hx
    exact there b o' (neC b o e hx) e1
  · obtain ⟨m1, e1⟩ := I.base.tbls b ps e
    obtain ⟨m2, e2⟩ := tbls b _ e1
    exact ⟨m1 ++ m2, by rw [e2, Array.append_assoc]⟩
  · obtain ⟨m, hn, hl⟩ := I.loc
    refine ⟨m, ns m hn, fun i x v e1 e2 e3 => ?_⟩
    obtain ⟨u, r, l⟩ := hl i x v e1 e2 e3
    refine ⟨u, r, ?_⟩
    rcases l with l | ⟨k, c, e, z⟩
    · exact .inl l
    · exact .inr ⟨k, c, e, cellK x c e _ z⟩
  · obtain ⟨v, z⟩ := I.cell x c e
    exact ⟨v, cellK x c e v z⟩
  · obtain ⟨m, ⟨o, _, _, ho, _⟩, _⟩ := I.loc
    exact free _ o (fun z => (hch _ z).2.1 rfl) ho I.free
  · obtain ⟨v, o, ho, hd⟩ := I.cell x c e
    exact free c o (fun z => (hch c z).2.2.1 x c e rfl) ho (I.freeC x c e)
  · obtain ⟨e, n, ne, nf, d⟩ := I.pin p hp
    have nch : p.1 ∉ ch := fun z => (hch p.1 z).2.2.2 p hp rfl
    exact ⟨keep p.1 p.2 ne nf nch e n, free p.1 p.2 nch e n, ne, nf, d⟩
/-- .. where the frame's own object is kept too -/
theorem Inv.un {t' : Nat} (I : Inv X pins σ H s) (u : Un X.fs [] H H' s.heap h') (hok : HOk X.prog X.w H' h') : Inv X pins σ H' { s with heap := h', toks := t' } := by
  obtain ⟨m, ⟨o, es, ep, ho, r⟩, _⟩ := id I.loc
  obtain ⟨sl, hL⟩ := u.any ho I.free (by simp)
  exact I.step (g' := s.gens) (d' := s.drawn) (ch := []) (fun _ z => nomatch z) (fun b o _ hb _ e n => u.keep b o e n hb (by simp)) (fun b o _ hb _ e n => u.slot b o e n hb (by simp)) (fun b o _ e n => u.free b o e n (by simp)) (fun b o _ e => u.there b o e (by simp)) u.tups u.frzs u.tbls (fun m' hm => by
    obtain ⟨o', es', ep', ho', r'⟩ := hm
    rw [ho] at ho'; cases ho'
    exact ⟨_, es', ep', hL, r'⟩) hok I.bare
/-- behind a call (or a comprehension's block): the slots of this frame may have changed too, the records at ch may have turned -/
theorem Inv.call {g' : Array GenState} {t' : Nat} {d' : Drawn} {ch : List Addr} (I : Inv X pins σ H s) (u : Un (frs X.stack) ch H H' s.heap h') (hok : HOk X.prog X.w H' h') (hg : AllBare g')
    (hch : ∀ b ∈ ch, (b ∈ X.ex ∨ X.s₀.heap.objs.size ≤ b) ∧ b ≠ X.env.locals ∧ (∀ x c, X.env.cells.lookup x = some c → c ≠ b) ∧ ∀ p ∈ X.pn ++ pins, p.1 ≠ b) :
    Inv X pins σ H' { s with heap := h', gens := g', drawn := d', toks := t' } := by
  obtain ⟨m, ⟨o, es, ep, ho, r⟩, _⟩ := id I.loc
  obtain ⟨sl, hL⟩ := u.any ho I.free fun z => (hch _ z).2.1 rfl
  exact I.step (ch := ch) hch (fun b o hL hb hc e n => u.keep b o e n (fun z => (List.mem_cons.mp (I.stkSub b z)).elim hL hb) hc) (fun b o _ _ hc e n => u.any e n hc) (fun b o hc e n => u.free b o e n hc) (fun b o hc e => u.there b o e hc) u.tups u.frzs u.tbls (fun m' hm => by
    obtain ⟨o', es', ep', ho', r'⟩ := hm
    rw [ho] at ho'; cases ho'
    exact ⟨_, es', ep', hL, r'⟩) hok hg
/-- an untracked record of ours (an iterator) has turned -/
theorem Inv.turned {t' : Nat} {it : Addr} (I : Inv X pins σ H s) (k : ∀ b o, b ≠ it → s.heap.get? b = some o → h'.get? b = some o) (hn : H it = none) (hL : it ≠ X.env.locals)
    (h1 : it ∈ X.ex ∨ X.s₀.heap.objs.size ≤ it) (h2 : ∀ x c, X.env.cells.lookup x = some c → c ≠ it) (h3 : ∀ p ∈ X.pn ++ pins, p.1 ≠ it) : Inv X pins σ H { s with heap := h', toks := t' } := by
  have nit : ∀ b u, H b = some u → b ≠ it := fun b u e z => by rw [z, hn] at e; cases e
  refine I.step (g' := s.gens) (d' := s.drawn) (ch := [it]) (fun b hb => ?_) (fun b o _ _ hc e _ => k b o (fun z => hc (by simp [z])) e) (fun b o _ _ hc e _ => ⟨o.slots, k b o (fun z => hc (by simp [z])) e⟩) (fun _ _ _ _ n => n)
    (fun b o hc e => ⟨o, k b o (fun z => hc (by simp [z])) e⟩) (fun _ _ e => e) (fun _ _ _ e => e) (fun b ps e => ⟨#[], by rw [e]; simp⟩) (fun m hm => ?_) (fun b u e => ?_) I.bare
  · have e : b = it := by simpa using hb
    subst e
    exact ⟨h1, hL, h2, h3⟩
  · obtain ⟨o, es, ep, ho, r⟩ := hm
    exact ⟨o, es, ep, k _ o (Ne.symm hL) ho, r⟩
  · refine (I.hok b u e).stay (fun c v hc q => k c v ?_ q) (fun _ q => q) fun _ _ q => q
    rcases hc with z | z
    · rw [z]; exact nit b u e
    · exact nit c _ z
theorem Inv.tok (I : Inv X pins σ H s) (t : Nat) : Inv X pins σ H { s with toks := t } := I.un (h' := s.heap) (t' := t) Un.refl I.hok
/-- all objects kept -/
theorem Inv.kept {t' : Nat} (I : Inv X pins σ H s) (k : ∀ b u, s.heap.get? b = some u → h'.get? b = some u) : Inv X pins σ H { s with heap := h', toks := t' } := I.un (Un.kept k) (I.hok.kept k)
/-- a new object laid and tracked -/
theorem Inv.laid {a : Addr} {o : HO} {t' : Nat} (I : Inv X pins σ H s) (k : ∀ b u, s.heap.get? b = some u → h'.get? b = some u) (hp : s.heap.objs.size ≤ a) (new : ObjOk X.prog X.w (upd H a o) h' a o) :
    Inv X pins σ (upd H a o) { s with heap := h', toks := t' } := I.un (Un.laid k hp (I.hok.fresh hp)) (I.hok.laid k hp new)
/-- an object written -/
theorem Inv.write {x e : Addr} {o : HO} {t' : Nat} (I : Inv X pins σ H s) (mu : Mut (H x)) (he : e = x ∨ H e = some (.own x)) (k : ∀ b u, b ≠ e → s.heap.get? b = some u → h'.get? b = some u) (heo : ∃ u, h'.get? e = some u)
    (new : ObjOk X.prog X.w (upd H x o) h' x o) : Inv X pins σ (upd H x o) { s with heap := h', toks := t' } := I.un (Un.write mu he k heo) (I.hok.write mu he k heo new)
/-- forgetting slots, pins -/
theorem Inv.weak {σ' : List (Option V)} (I : Inv X pins σ H s) (hl : σ'.length = σ.length) (w : ∀ (i : Nat) v, σ'[i]? = some (some v) → σ[i]? = some (some v)) : Inv X pins σ' H s :=
  ⟨I.ok, I.os, I.bare, I.base, let ⟨m, hn, hl'⟩ := I.loc; ⟨m, hn, fun i x v e1 e2 e3 => hl' i x v e1 (w i v e2) e3⟩, I.cell, I.free, I.freeC, I.pin, I.hok, hl.trans I.len⟩
theorem Inv.pins_of {pins' : List (Addr × Obj)} (I : Inv X pins σ H s) (h : ∀ p ∈ pins', s.heap.get? p.1 = some p.2 ∧ H p.1 = none ∧ p.1 ≠ X.env.locals ∧ p.1 ∉ X.fs ∧ ∀ v, p.2.data ≠ .cell v) : Inv X pins' σ H s :=
  ⟨I.ok, I.os, I.bare, I.base, I.loc, I.cell, I.free, I.freeC, fun p hp => (List.mem_append.mp hp).elim (fun z => I.pin p (List.mem_append_left _ z)) (h p), I.hok, I.len⟩

theorem nodup_ix {N : List Str} (hN : N.Nodup) {i j : Nat} {x : Str} (a : N[i]? = some x) (b : N[j]? = some x) : i = j := by
  obtain ⟨h1, e1⟩ := List.getElem?_eq_some_iff.mp a
  obtain ⟨h2, e2⟩ := List.getElem?_eq_some_iff.mp b
  exact (List.getElem_inj hN).mp (e1.trans e2.symm)

/-- a name is stored; what changed -/
theorem store_ok2 {M : Model} {A : Around} {E : Value → Shared → Prop} {i : Nat} {x : Str} {v : V} {u : Value} {Q : Unit → Shared → Prop} (I : Inv X pins σ H s) (hN : X.N.Nodup) (hi : X.N[i]? = some x) (hx : Loc X.env.scope x) (r : RelV v u)
    (h : ∀ s', Inv X pins (σ.set i (some v)) H s' → (∃ a, Heap.SameBut a s.heap s'.heap ∧ (a = X.env.locals ∨ X.env.cells.lookup x = some a)) → Q () s') (hf : X.fn x = true ∨ X.env.scope.names.lookup x = some .local := by first | exact .inl rfl | exact .inr rfl | assumption) : wpAny M A (storeName X.env x u) Q E s := by
  obtain ⟨m, hn, hl⟩ := id I.loc
  have hcls : (X.env.scope.kind == .class || (X.env.scope.kind == .module && X.env.locals != X.env.globals)) = false := by rw [I.ok.kind]; rfl
  have hiσ : i < σ.length := by rw [I.len]; exact (List.getElem?_eq_some_iff.mp hi).1
  have cne := I.cne
  have tracked : ∀ {a : Addr} {h' : Heap}, (∃ o, s.heap.get? a = some o ∧ H a = none) → Heap.SameBut a s.heap h' → HOk X.prog X.w H h' := fun {a h'} ha hs b ob e => by
    obtain ⟨_, _, hfree⟩ := ha
    refine (I.hok b ob e).stay (fun c w' hc q => (hs.2 c ?_).trans q) (fun _ q => q) fun _ _ q => q
    rintro rfl
    rcases hc with rfl | hc
    · rw [hfree] at e; cases e
    · rw [hfree] at hc; cases hc
  rcases hx with hk | hk
  · refine wpAny_storeName_local hk hn (fun h' hn' hs => ?_) hcls
    obtain ⟨oL, _, _, hoL, _⟩ := id hn
    refine h _ ⟨I.ok, I.os, I.bare, ⟨fun b o e n hb hx => ?_, fun b o e n hb hx => ?_, I.base.free, fun b o e hx => ?_, I.base.tups, I.base.frzs, I.base.tbls⟩, ⟨_, hn', fun j y v' e1 e2 e3 => ?_⟩, fun y c e => ?_, I.free, I.freeC, fun p hp => ?_, tracked ⟨oL, hoL, I.free⟩ hs, by simpa using I.len⟩ ⟨_, hs, .inl rfl⟩
    · exact (hs.2 b (Nat.ne_of_lt (Nat.lt_of_lt_of_le (Heap.lt_size e) I.ok.above))).trans (I.base.keep b o e n hb hx)
    · obtain ⟨sl, e1⟩ := I.base.slot b o e n hb hx
      exact ⟨sl, (hs.2 b (Nat.ne_of_lt (Nat.lt_of_lt_of_le (Heap.lt_size e) I.ok.above))).trans e1⟩
    · obtain ⟨o', e1⟩ := I.base.there b o e hx
      exact ⟨o', (hs.2 b (Nat.ne_of_lt (Nat.lt_of_lt_of_le (Heap.lt_size e) I.ok.above))).trans e1⟩
    · by_cases hj : j = i
      · subst hj
        rw [hi] at e1; cases e1
        rw [List.getElem?_set_self hiσ] at e2
        cases e2
        exact ⟨u, r, .inl ⟨hk, by simp⟩⟩
      · rw [List.getElem?_set_ne (Ne.symm hj)] at e2
        obtain ⟨u', r', q⟩ := hl j y v' e1 e2 e3
        refine ⟨u', r', ?_⟩
        rcases q with ⟨k, e⟩ | ⟨k, c, e, z⟩
        · refine .inl ⟨k, ?_⟩
          have : y ≠ x := fun e => hj (nodup_ix hN e1 (e ▸ hi))
          simp [this, e]
        · exact .inr ⟨k, c, e, z.sameBut hs (cne y c e)⟩
    · obtain ⟨w', z⟩ := I.cell y c e
      exact ⟨w', z.sameBut hs (cne y c e)⟩
    · obtain ⟨e, n, ne, nf, d⟩ := I.pin p hp
      exact ⟨(hs.2 p.1 ne).trans e, n, ne, nf, d⟩
  · have hfn : X.fn x = true := by
      rcases hf with z | z
      · exact z
      · rw [z] at hk; cases hk
    obtain ⟨c, hc⟩ := I.ok.has x (.inl hk)
    obtain ⟨w', z⟩ := I.cell x c hc
    refine wpAny_storeName_cell I.ok.kind hk hc z (fun h' hc' hs => ?_)
    obtain ⟨oc, hoc, hocd⟩ := id z
    refine h { s with heap := h' } ⟨I.ok, I.os, I.bare, ⟨fun b o e n hb hx => ?_, fun b o e n hb hx => ?_, I.base.free, fun b o e hx => ?_, I.base.tups, I.base.frzs, I.base.tbls⟩, ⟨m, hn.sameBut hs (Ne.symm (cne x c hc)), fun j y v' e1 e2 e3 => ?_⟩, fun y c' e => ?_, I.free, I.freeC, fun p hp => ?_, tracked ⟨oc, hoc, I.freeC x c hc⟩ hs, by simpa using I.len⟩ ⟨c, hs, .inr hc⟩
    · exact (hs.2 b (Nat.ne_of_lt (Nat.lt_of_lt_of_le (Heap.lt_size e) (I.ok.cab x c hfn hc)))).trans (I.base.keep b o e n hb hx)
    · obtain ⟨sl, e1⟩ := I.base.slot b o e n hb hx
      exact ⟨sl, (hs.2 b (Nat.ne_of_lt (Nat.lt_of_lt_of_le (Heap.lt_size e) (I.ok.cab x c hfn hc)))).trans e1⟩
    · obtain ⟨o', e1⟩ := I.base.there b o e hx
      exact ⟨o', (hs.2 b (Nat.ne_of_lt (Nat.lt_of_lt_of_le (Heap.lt_size e) (I.ok.cab x c hfn hc)))).trans e1⟩
    · by_cases hj : j = i
      · subst hj
        rw [hi] at e1; cases e1
        rw [List.getElem?_set_self hiσ] at e2
        cases e2
        exact ⟨u, r, .inr ⟨.inl hk, c, hc, hc'⟩⟩
      · rw [List.getElem?_set_ne (Ne.symm hj)] at e2
        obtain ⟨u', r', q⟩ := hl j y v' e1 e2 e3
        refine ⟨u', r', ?_⟩
        rcases q with q | ⟨k, c', e, z'⟩
        · exact .inl q
        · refine .inr ⟨k, c', e, z'.sameBut hs ?_⟩
          rintro rfl
          exact hj (nodup_ix hN e1 (I.ok.inj _ _ _ e hc ▸ hi))
    · by_cases hcc : c' = c
      · subst hcc; exact ⟨_, hc'⟩
      · obtain ⟨w2, z2⟩ := I.cell y c' e
        exact ⟨w2, z2.sameBut hs hcc⟩
    · obtain ⟨e, n, ne, nf, d⟩ := I.pin p hp
      refine ⟨(hs.2 p.1 ?_).trans e, n, ne, nf, d⟩
      intro q
      rw [q, hoc] at e
      have q' : oc = p.2 := Option.some.inj e
      exact d w' (by rw [← q']; exact hocd)
theorem store_ok {M : Model} {A : Around} {E : Value → Shared → Prop} {i : Nat} {x : Str} {v : V} {u : Value} {Q : Unit → Shared → Prop} (I : Inv X pins σ H s) (hN : X.N.Nodup) (hi : X.N[i]? = some x) (hx : Loc X.env.scope x) (r : RelV v u)
    (h : ∀ s', Inv X pins (σ.set i (some v)) H s' → Q () s') (hf : X.fn x = true ∨ X.env.scope.names.lookup x = some .local := by first | exact .inl rfl | exact .inr rfl | assumption) : wpAny M A (storeName X.env x u) Q E s :=
  store_ok2 I hN hi hx r (fun s' I' _ => h s' I') hf
/-- behind a call or a block, the state as it is -/
theorem Inv.call' {s' : Shared} {ch : List Addr} (I : Inv X pins σ H s) (ho : s'.os = s.os) (u : Un (frs X.stack) ch H H' s.heap s'.heap) (hok : HOk X.prog X.w H' s'.heap) (hg : AllBare s'.gens)
    (hch : ∀ b ∈ ch, (b ∈ X.ex ∨ X.s₀.heap.objs.size ≤ b) ∧ b ≠ X.env.locals ∧ (∀ x c, X.env.cells.lookup x = some c → c ≠ b) ∧ ∀ p ∈ X.pn ++ pins, p.1 ≠ b) : Inv X pins σ H' s' := by
  obtain ⟨h', g', d', t', o'⟩ := s'
  have e : o' = s.os := ho
  subst e
  exact I.call (g' := g') (t' := t') (d' := d') u hok hg hch
end

/-! ### the judgements -/
/-- an exception: its class, its own dict's address (where it has one), the abstract heap behind it -/
abbrev XK := Value → Option Addr → Hp → Prop
abbrev St := List (Option V)
abbrev VK := V → Hp → Prop
/-- an expression's reading; a test's; an argument list's -/
abbrev TE := St → Hp → VK → Prop
abbrev TT := St → Hp → (Bool → Hp → Prop) → Prop
abbrev TA := St → Hp → (List V → Hp → Prop) → Prop
/-- what is wanted behind a statement -/
structure Ends where
  nx : St → Hp → Prop
  rt : VK
  bk : St → Hp → Prop := fun _ _ => False
  ct : St → Hp → Prop := fun _ _ => False
abbrev TS := Ends → St → Hp → Prop

def EP (X : Cx) (pins : List (Addr × Obj)) (σ : St) (Q : VK) (u : Value) (s' : Shared) : Prop := ∃ v H', Inv X pins σ H' s' ∧ RelV v u ∧ Q v H'
def TP (X : Cx) (pins : List (Addr × Obj)) (σ : St) (Q : Bool → Hp → Prop) (b : Bool) (s' : Shared) : Prop := ∃ H', Inv X pins σ H' s' ∧ Q b H'
def AP (X : Cx) (pins : List (Addr × Obj)) (σ : St) (Q : List V → Hp → Prop) (us : List Value) (s' : Shared) : Prop := ∃ vs H', Inv X pins σ H' s' ∧ Vals vs us ∧ Q vs H'
def SP (X : Cx) (pins : List (Addr × Obj)) (D : Ends) (f : Flow) (s' : Shared) : Prop :=
  match f with
  | .next => ∃ σ' H', Inv X pins σ' H' s' ∧ D.nx σ' H'
  | .brk => ∃ σ' H', Inv X pins σ' H' s' ∧ D.bk σ' H'
  | .cont => ∃ σ' H', Inv X pins σ' H' s' ∧ D.ct σ' H'
  | .ret u => ∃ v σ' H', Inv X pins σ' H' s' ∧ RelV v u ∧ D.rt v H'

def PE (X : Cx) (e : Expr) (t : TE) : Prop :=
  ∀ (pins : List (Addr × Obj)) (s : Shared) (σ : St) (H : Hp) (Q : VK), Inv X pins σ H s → t σ H Q → wpAny (model X.prog X.w) X.A (eval e X.env) (EP X pins σ Q) X.xe s
def PT (X : Cx) (e : Expr) (t : TT) : Prop :=
  ∀ (pins : List (Addr × Obj)) (s : Shared) (σ : St) (H : Hp) (Q : Bool → Hp → Prop), Inv X pins σ H s → t σ H Q → wpAny (model X.prog X.w) X.A (isTrue e X.env (eval e X.env)) (TP X pins σ Q) X.xe s
/-- a test whatever its 'whole' is (and, or) -/
def PW (X : Cx) (e : Expr) (t : TT) : Prop :=
  ∀ (whole : Sem Value) (pins : List (Addr × Obj)) (s : Shared) (σ : St) (H : Hp) (Q : Bool → Hp → Prop), Inv X pins σ H s → t σ H Q → wpAny (model X.prog X.w) X.A (isTrue e X.env whole) (TP X pins σ Q) X.xe s
theorem PW.pt {X : Cx} {e : Expr} {t : TT} (h : PW X e t) : PT X e t := h _
/-- an argument list (no star), from the left -/
def PA (X : Cx) (es : List Expr) (t : TA) : Prop :=
  ∀ (pos : Pos) (pins : List (Addr × Obj)) (s : Shared) (σ : St) (H : Hp) (Q : List V → Hp → Prop), Inv X pins σ H s → t σ H Q → wpAny (model X.prog X.w) X.A (spliced (backTo pos (starEach es X.env))) (AP X pins σ Q) X.xe s
def PS (X : Cx) (st : Stmt) (t : TS) : Prop :=
  ∀ (pins : List (Addr × Obj)) (s : Shared) (σ : St) (H : Hp) (D : Ends), Inv X pins σ H s → t D σ H → wpAny (model X.prog X.w) X.A (exec st X.env) (SP X pins D) X.xe s
def PSs (X : Cx) (st : List Stmt) (t : TS) : Prop :=
  ∀ (pins : List (Addr × Obj)) (s : Shared) (σ : St) (H : Hp) (D : Ends), Inv X pins σ H s → t D σ H → wpAny (model X.prog X.w) X.A (execs st X.env) (SP X pins D) X.xe s
/-- weaken the end -/
theorem thn {α : Type} {t : Sem α} {Q Q' : α → Shared → Prop} {M : Model} {A : Around} {E : Value → Shared → Prop} {s : Shared} (h : wpAny M A t Q E s) (hQ : ∀ a s, Q a s → Q' a s) : wpAny M A t Q' E s := wpAny_mono h hQ fun _ _ x => x
end L2

namespace L2
open PySem PySem.Spec PyProof.Rows
section
variable {X : Cx}

/-- two expressions in a row -/
theorem bin {a b : Expr} {ta tb : TE} (ha : PE X a ta) (hb : PE X b tb) {pins : List (Addr × Obj)} {s : Shared} {σ : St} {H : Hp} {R : V → V → Hp → Prop} (I : Inv X pins σ H s) (h : ta σ H fun x H1 => tb σ H1 fun y H2 => R x y H2)
    {α : Type} {Q : α → Shared → Prop} {f : Value → Value → Sem α}
    (hf : ∀ v u s2 x y H2, Inv X pins σ H2 s2 → RelV x v → RelV y u → R x y H2 → wpAny (model X.prog X.w) X.A (f v u) Q X.xe s2) :
    wpAny (model X.prog X.w) X.A (eval a X.env) (fun v s₁ => wpAny (model X.prog X.w) X.A (eval b X.env) (fun u s₂ => wpAny (model X.prog X.w) X.A (f v u) Q X.xe s₂) X.xe s₁) X.xe s := by
  refine thn (ha pins s σ H _ I h) fun v s1 ⟨x, H1, I1, r1, q1⟩ => ?_
  refine thn (hb pins s1 σ H1 _ I1 q1) fun u s2 ⟨y, H2, I2, r2, q2⟩ => ?_
  exact hf v u s2 x y H2 I2 r1 r2 q2

/-! ### names and constants -/
def tVar (i : Nat) : TE := fun σ H Q => ∃ v, σ[i]? = some (some v) ∧ Q v H
def tC (v : V) : TE := fun _ H Q => Q v H
theorem pe_var {i : Nat} {x : Str} {pos : Pos} (hN : X.N[i]? = some x) (hv : Vis X.env.scope x) (hd : (x == ("__debug__" : Str)) = false := by decide) (hcd : (x == ("__classdict__" : Str)) = false := by decide) : PE X (.Name x pos) (tVar i) := by
  intro pins s σ H Q I h
  obtain ⟨v, e, h⟩ := h
  obtain ⟨m, hn, hl⟩ := I.loc
  obtain ⟨u, r, l⟩ := hl i x v hN e hv
  have fin : EP X pins σ Q u s := ⟨v, H, I, r, h⟩
  rcases l with ⟨hk, hm⟩ | ⟨hk, c, hc, hcell⟩
  · exact wpAny_Name (wpAny_loadName_local I.ok.kind hk hn hm fin) hd
  · rcases hk with hk | hk
    · exact wpAny_Name (wpAny_loadName_cell I.ok.kind hk hc hcell fin) hd
    · exact wpAny_Name (wpAny_loadName_free I.ok.kind hk hc hcell fin hcd) hd
theorem pe_int {i j pos} : PE X (.Constant (.int i) j pos) (tC (.int i)) := fun _ _ _ H _ I h => wpAny_Constant_int ⟨.int i, H, I.tok _, ⟨_, rfl⟩, h⟩
theorem pe_bl {b j pos} : PE X (.Constant (.bool b) j pos) (tC (.bl b)) := fun _ _ _ H _ I h => Constant_bool ⟨.bl b, H, I, rfl, h⟩
theorem pe_non {j pos} : PE X (.Constant .none j pos) (tC .non) := fun _ _ _ H _ I h => Constant_none ⟨.non, H, I, rfl, h⟩
theorem pe_str {x j pos} : PE X (.Constant (.str x) j pos) (tC (.str x)) := fun _ _ _ H _ I h => Calls.Constant_str ⟨.str x, H, I.tok _, ⟨_, rfl⟩, h⟩

/-- a global name of the def -/
def Gl (X : Cx) (x : Str) : Prop := X.env.kindOf x = some .globalImplicit
theorem ld_glob {E : Value → Shared → Prop} {pins : List (Addr × Obj)} {s : Shared} {σ : St} {H : Hp} {x : Str} {u : Value} {pos : Pos} {Q : Value → Shared → Prop} (I : Inv X pins σ H s) (hg : Gl X x) (hm : X.mg x = some u) (h : Q u s)
    (hd : (x == ("__debug__" : Str)) = false := by decide) : wpAny (model X.prog X.w) X.A (eval (.Name x pos) X.env) Q E s :=
  Calls.Name_function_global I.ok.kind hg (Calls.loadGlobal_global (by rw [I.ok.glob]; exact I.mod.glob.keeps I.bk) hm h) hd
theorem ld_blt {E : Value → Shared → Prop} {pins : List (Addr × Obj)} {s : Shared} {σ : St} {H : Hp} {x : Str} {u : Value} {pos : Pos} {Q : Value → Shared → Prop} (I : Inv X pins σ H s) (hg : Gl X x) (hm : X.mg x = none) (hv : bootBuiltins x = some u) (h : Q u s)
    (hn : x ≠ "__name__" := by decide) (hd : (x == ("__debug__" : Str)) = false := by decide) : wpAny (model X.prog X.w) X.A (eval (.Name x pos) X.env) Q E s := by
  obtain ⟨mb, h1, h2⟩ := I.mod.blt
  exact Calls.Name_function_global I.ok.kind hg (Calls.loadGlobal_builtin (by rw [I.ok.glob]; exact I.mod.glob.keeps I.bk) hm (by rw [I.ok.blt]; exact h1.keeps I.bk) ((h2 x hn).trans hv) h) hd
/-- a module's constant, a class, a function, as a value -/
theorem pe_glob {x : Str} {v : V} {u : Value} {pos : Pos} (hg : Gl X x) (hm : X.mg x = some u) (r : RelV v u) (hd : (x == ("__debug__" : Str)) = false := by decide) : PE X (.Name x pos) (tC v) :=
  fun _ _ _ H _ I h => ld_glob I hg hm ⟨v, H, I, r, h⟩ hd
theorem pe_bltn {x : Str} {v : V} {u : Value} {pos : Pos} (hg : Gl X x) (hm : X.mg x = none) (hv : bootBuiltins x = some u) (r : RelV v u) (hn : x ≠ "__name__" := by decide) (hd : (x == ("__debug__" : Str)) = false := by decide) : PE X (.Name x pos) (tC v) :=
  fun _ _ _ H _ I h => ld_blt I hg hm hv ⟨v, H, I, r, h⟩ hn hd

/-! ### arithmetic -/
/-- two ints -/
def t2I (ta tb : TE) (k : Int → Int → Hp → Prop) : St → Hp → Prop := fun σ H => ta σ H fun x H1 => tb σ H1 fun y H2 => ∃ i j, x = .int i ∧ y = .int j ∧ k i j H2
def tAdd (ta tb : TE) : TE := fun σ H Q => t2I ta tb (fun i j H2 => Q (.int (i + j)) H2) σ H
def tSub (ta tb : TE) : TE := fun σ H Q => t2I ta tb (fun i j H2 => Q (.int (i - j)) H2) σ H
/-- the left factor below 2^64 -/
def tMul (ta tb : TE) : TE := fun σ H Q => t2I ta tb (fun i j H2 => (-(2 ^ 64) < i ∧ i < 2 ^ 64) ∧ Q (.int (i * j)) H2) σ H
variable {a b : Expr} {ta tb : TE} {pos : Pos}
theorem pe_add (ha : PE X a ta) (hb : PE X b tb) : PE X (.BinOp a .Add b pos) (tAdd ta tb) := by
  intro pins s σ H Q I h
  refine wpAny_BinOp (bin ha hb I h fun v u s2 x y H2 I2 rx ry q => ?_)
  obtain ⟨i, j, rfl, rfl, q⟩ := q
  obtain ⟨t, rfl⟩ := rx
  obtain ⟨t', rfl⟩ := ry
  exact add_int ⟨.int _, H2, I2.tok _, ⟨_, rfl⟩, q⟩
theorem pe_sub (ha : PE X a ta) (hb : PE X b tb) : PE X (.BinOp a .Sub b pos) (tSub ta tb) := by
  intro pins s σ H Q I h
  refine wpAny_BinOp (bin ha hb I h fun v u s2 x y H2 I2 rx ry q => ?_)
  obtain ⟨i, j, rfl, rfl, q⟩ := q
  obtain ⟨t, rfl⟩ := rx
  obtain ⟨t', rfl⟩ := ry
  exact sub_int ⟨.int _, H2, I2.tok _, ⟨_, rfl⟩, q⟩
theorem pe_mul (ha : PE X a ta) (hb : PE X b tb) : PE X (.BinOp a .Mult b pos) (tMul ta tb) := by
  intro pins s σ H Q I h
  refine wpAny_BinOp (bin ha hb I h fun v u s2 x y H2 I2 rx ry q => ?_)
  obtain ⟨i, j, rfl, rfl, ⟨q1, q2⟩, q⟩ := q
  obtain ⟨t, rfl⟩ := rx
  obtain ⟨t', rfl⟩ := ry
  exact mul_int ⟨.int _, H2, I2.tok _, ⟨_, rfl⟩, q⟩ (.of_left (intBits_le_64 q1 q2))

/-! ### comparisons -/
def PC (X : Cx) (op : CmpOp) (a b : Expr) (t : TE) : Prop :=
  ∀ (pins : List (Addr × Obj)) (s : Shared) (σ : St) (H : Hp) (Q : VK), Inv X pins σ H s → t σ H Q →
    wpAny (model X.prog X.w) X.A (eval a X.env) (fun v s₁ => wpAny (model X.prog X.w) X.A (eval b X.env) (fun u s₂ => wpAny (model X.prog X.w) X.A (compareOp op v u) (EP X pins σ Q) X.xe s₂) X.xe s₁) X.xe s
theorem nobehind (b : Expr) {op : CmpOp} (h : op ≠ .In) (h2 : op ≠ .NotIn) : behindInMarks op b = false := by
  have e1 : (op == CmpOp.In) = false := by cases op <;> first | rfl | exact absurd rfl h
  have e2 : (op == CmpOp.NotIn) = false := by cases op <;> first | rfl | exact absurd rfl h2
  cases b <;> simp [behindInMarks, e1, e2]
def tCmp (p : Int → Int → Bool) (ta tb : TE) : TE := fun σ H Q => t2I ta tb (fun i j H2 => Q (.bl (p i j)) H2) σ H
abbrev tLt : TE → TE → TE := tCmp fun i j => decide (i < j)
abbrev tLe : TE → TE → TE := tCmp fun i j => decide (i ≤ j)
abbrev tGt : TE → TE → TE := tCmp fun i j => decide (j < i)
abbrev tGe : TE → TE → TE := tCmp fun i j => decide (j ≤ i)
abbrev tEqI : TE → TE → TE := tCmp fun i j => decide (i = j)
abbrev tNeI : TE → TE → TE := tCmp fun i j => !decide (i = j)
/-- a comparison of two ints, by its rule -/
theorem pc_int {op : CmpOp} {p : Int → Int → Bool} (ha : PE X a ta) (hb : PE X b tb)
    (rule : ∀ (i j : Int) (t u : Tok) (Q : Value → Shared → Prop) (s : Shared), Q (.bool (p i j)) s → wpAny (model X.prog X.w) X.A (compareOp op (.int i t) (.int j u)) Q X.xe s) : PC X op a b (tCmp p ta tb) := by
  intro pins s σ H Q I h
  refine bin ha hb I h fun v u s2 x y H2 I2 rx ry q => ?_
  obtain ⟨i, j, rfl, rfl, q⟩ := q
  obtain ⟨t, rfl⟩ := rx
  obtain ⟨t', rfl⟩ := ry
  exact rule i j t t' _ s2 ⟨.bl _, H2, I2, rfl, q⟩
theorem pc_lt (ha : PE X a ta) (hb : PE X b tb) : PC X .Lt a b (tLt ta tb) := pc_int ha hb fun _ _ _ _ _ _ h => lt_int h
theorem pc_le (ha : PE X a ta) (hb : PE X b tb) : PC X .LtE a b (tLe ta tb) := pc_int ha hb fun _ _ _ _ _ _ h => le_int h
theorem pc_gt (ha : PE X a ta) (hb : PE X b tb) : PC X .Gt a b (tGt ta tb) := pc_int ha hb fun _ _ _ _ _ _ h => gt_int h
theorem pc_ge (ha : PE X a ta) (hb : PE X b tb) : PC X .GtE a b (tGe ta tb) := pc_int ha hb fun _ _ _ _ _ _ h => ge_int h
theorem pc_eqI (ha : PE X a ta) (hb : PE X b tb) : PC X .Eq a b (tEqI ta tb) := pc_int ha hb fun _ _ _ _ _ _ h => eq_int (by rw [Bool.beq_eq_decide_eq]; exact h)
theorem pc_neI (ha : PE X a ta) (hb : PE X b tb) : PC X .NotEq a b (tNeI ta tb) := pc_int ha hb fun _ _ _ _ _ _ h => ne_int (by rw [bne, Bool.beq_eq_decide_eq]; exact h)
/-- is None -/
def tIsN (ta : TE) : TE := fun σ H Q => ta σ H fun x H1 => Q (.bl (decide (x = .non))) H1
def tNotN (ta : TE) : TE := fun σ H Q => ta σ H fun x H1 => Q (.bl (!decide (x = .non))) H1
theorem RelV.none_iff {x : V} {v : Value} (r : RelV x v) : (v == Value.none) = decide (x = .non) := by
  cases x with
  | non => cases r; rfl
  | bl _ => cases r; rfl
  | int _ => obtain ⟨t, rfl⟩ := r; rfl
  | str _ => obtain ⟨t, rfl⟩ := r; rfl
  | byt _ => obtain ⟨t, rfl⟩ := r; rfl
  | flt _ => obtain ⟨t, rfl⟩ := r; rfl
  | ref _ => cases r; rfl
  | ty _ => cases r; rfl
theorem pc_isN {j pos'} (ha : PE X a ta) : PC X .Is a (.Constant .none j pos') (tIsN ta) := by
  intro pins s σ H Q I h
  refine thn (ha pins s σ H _ I h) fun v s1 ⟨x, H1, I1, r1, q1⟩ => ?_
  exact Constant_none (is_none_gen ⟨.bl _, H1, I1, by rw [r1.none_iff]; rfl, q1⟩)
theorem pc_notN {j pos'} (ha : PE X a ta) : PC X .IsNot a (.Constant .none j pos') (tNotN ta) := by
  intro pins s σ H Q I h
  refine thn (ha pins s σ H _ I h) fun v s1 ⟨x, H1, I1, r1, q1⟩ => ?_
  exact Constant_none (isnot_none_gen ⟨.bl _, H1, I1, by rw [r1.none_iff]; rfl, q1⟩)
/-- a comparison as a value, as a test -/
def tB (t : TE) : TT := fun σ H Q => t σ H fun x H1 => ∃ c, x = .bl c ∧ Q c H1
theorem pe_cmp {op : CmpOp} {t : TE} (h : PC X op a b t) (h1 : behindInMarks op b = false := by first | exact nobehind _ (by decide) (by decide) | rfl) : PE X (.Compare a [op] [b] pos) t := fun pins s σ H Q I hw => wpAny_Compare1 (h pins s σ H Q I hw) h1
theorem pt_cmp {op : CmpOp} {t : TE} (h : PC X op a b t) (h1 : behindInMarks op b = false := by first | exact nobehind _ (by decide) (by decide) | rfl) : PT X (.Compare a [op] [b] pos) (tB t) := by
  intro pins s σ H Q I hw
  refine wpAny_isTrue_Compare1 (thn (h pins s σ H _ I hw) fun v s1 h1 => thn h1 fun u s2 h2 => thn h2 fun c s3 ⟨x, H1, I1, r1, q1⟩ => ?_) h1
  obtain ⟨d, rfl, q⟩ := q1
  cases r1
  exact wpAny_truthy_bool ⟨H1, I1, q⟩
/-- an expression whose value is a bool, as a test -/
theorem pt_val {e : Expr} {t : TE} (h : PE X e t) (he : ∀ whole, isTrue e X.env whole = (do let v ← whole; standAt e.pos; holding [v] (truthy v)) := by intro _; rfl) : PT X e (tB t) := by
  intro pins s σ H Q I hw
  refine isTrue_plain (thn (h pins s σ H _ I hw) fun v s1 ⟨x, H1, I1, r1, q1⟩ => ?_) (he _)
  obtain ⟨d, rfl, q⟩ := q1
  cases r1
  exact wpAny_truthy_bool ⟨H1, I1, q⟩

/-! ### and, or, not -/
variable {tA tB' : TT} {rest : List Expr}
def tAnd (t u : TT) : TT := fun σ H Q => t σ H fun c H1 => if c = true then u σ H1 Q else Q false H1
def tOr (t u : TT) : TT := fun σ H Q => t σ H fun c H1 => if c = true then Q true H1 else u σ H1 Q
def tNot (t : TT) : TT := fun σ H Q => t σ H fun c H1 => Q (!c) H1
theorem pw_and1 (ha : PT X a tA) : PW X (.BoolOp .And [a] pos) tA := by
  intro wh pins s σ H Q I h
  refine isTrue_and (thn (ha pins s σ H Q I h) fun c s1 e => ?_)
  cases c with
  | true => exact isTrue_and_nil e
  | false => exact e
theorem pw_or1 (ha : PT X a tA) : PW X (.BoolOp .Or [a] pos) tA := by
  intro wh pins s σ H Q I h
  refine isTrue_or (thn (ha pins s σ H Q I h) fun c s1 e => ?_)
  cases c with
  | false => exact isTrue_or_nil e
  | true => exact e
theorem pw_and (ha : PT X a tA) (hb : PW X (.BoolOp .And (b :: rest) pos) tB') : PW X (.BoolOp .And (a :: b :: rest) pos) (tAnd tA tB') := by
  intro wh pins s σ H Q I h
  refine isTrue_and (thn (ha pins s σ H _ I h) fun c s1 ⟨H1, I1, q1⟩ => ?_)
  cases c with
  | true => exact hb wh pins s1 σ H1 Q I1 q1
  | false => exact ⟨H1, I1, q1⟩
theorem pw_or (ha : PT X a tA) (hb : PW X (.BoolOp .Or (b :: rest) pos) tB') : PW X (.BoolOp .Or (a :: b :: rest) pos) (tOr tA tB') := by
  intro wh pins s σ H Q I h
  refine isTrue_or (thn (ha pins s σ H _ I h) fun c s1 ⟨H1, I1, q1⟩ => ?_)
  cases c with
  | true => exact ⟨H1, I1, q1⟩
  | false => exact hb wh pins s1 σ H1 Q I1 q1
theorem pt_not (ha : PT X a tA) : PT X (.UnaryOp .Not a pos) (tNot tA) := by
  intro pins s σ H Q I h
  exact isTrue_not (ha pins s σ H (fun c H1 => Q (!c) H1) I h)
/-- .. as values (bools) -/
def tAndV (ta tb : TE) : TE := fun σ H Q => ta σ H fun x H1 => ∃ c, x = .bl c ∧ if c = true then tb σ H1 Q else Q (.bl false) H1
def tOrV (ta tb : TE) : TE := fun σ H Q => ta σ H fun x H1 => ∃ c, x = .bl c ∧ if c = true then Q (.bl true) H1 else tb σ H1 Q
def tNotV (ta : TE) : TE := fun σ H Q => ta σ H fun x H1 => ∃ c, x = .bl c ∧ Q (.bl (!c)) H1
theorem pe_one {op} {t : TE} (h : PE X a t) : PE X (.BoolOp op [a] pos) t := fun pins s σ H Q I hw => BoolOp_one (h pins s σ H Q I hw)
theorem pe_and (ha : PE X a ta) (hb : PE X (.BoolOp .And (b :: rest) pos) tb) : PE X (.BoolOp .And (a :: b :: rest) pos) (tAndV ta tb) := by
  intro pins s σ H Q I h
  refine BoolOp_and (thn (ha pins s σ H _ I h) fun v s1 ⟨x, H1, I1, r1, q1⟩ => ?_)
  obtain ⟨c, rfl, q1⟩ := q1
  cases r1
  refine wpAny_truthy_bool ?_
  cases c with
  | true => exact hb pins s1 σ H1 Q I1 q1
  | false => exact ⟨.bl false, H1, I1, rfl, q1⟩
theorem pe_or (ha : PE X a ta) (hb : PE X (.BoolOp .Or (b :: rest) pos) tb) : PE X (.BoolOp .Or (a :: b :: rest) pos) (tOrV ta tb) := by
  intro pins s σ H Q I h
  refine BoolOp_or (thn (ha pins s σ H _ I h) fun v s1 ⟨x, H1, I1, r1, q1⟩ => ?_)
  obtain ⟨c, rfl, q1⟩ := q1
  cases r1
  refine wpAny_truthy_bool ?_
  cases c with
  | false => exact hb pins s1 σ H1 Q I1 q1
  | true => exact ⟨.bl true, H1, I1, rfl, q1⟩
theorem pe_not (ha : PE X a ta) : PE X (.UnaryOp .Not a pos) (tNotV ta) := by
  intro pins s σ H Q I h
  refine UnaryOp_ (thn (ha pins s σ H _ I h) fun v s1 ⟨x, H1, I1, r1, q1⟩ => ?_)
  obtain ⟨c, rfl, q1⟩ := q1
  cases r1
  exact not_of (wpAny_truthy_bool ⟨.bl (!c), H1, I1, rfl, q1⟩)
/-- a if t else b -/
def tIf (t : TT) (ta tb : TE) : TE := fun σ H Q => t σ H fun c H1 => if c = true then ta σ H1 Q else tb σ H1 Q
theorem pe_ifExp {c : Expr} (hc : PT X c tA) (ha : PE X a ta) (hb : PE X b tb) : PE X (.IfExp c a b pos) (tIf tA ta tb) := by
  intro pins s σ H Q I h
  refine wpAny_IfExp (thn (hc pins s σ H _ I h) fun d s1 ⟨H1, I1, q1⟩ => ?_)
  cases d with
  | true => exact ha pins s1 σ H1 Q I1 q1
  | false => exact hb pins s1 σ H1 Q I1 q1
end
end L2

namespace L2
open PySem PySem.Spec PyProof.Rows

/-! ### a list, a tuple that is read: tracked, frozen, or an object of the module -/
def SqL (K : PySem.W.Frag) (H : Hp) (a : Addr) (xs : List V) : Prop :=
  Rd H a (.lst xs) ∨
    ∃ (o : Obj) (its : Array Value) (n : Nat), K.lookup a = some o ∧ o.cls = .type "list" ∧ o.dict = none ∧ o.data = .seq its n ∧ its.size ≤ sizeLine ∧ Vals xs its.toList
def SqT (K : PySem.W.Frag) (H : Hp) (a : Addr) (xs : List V) : Prop :=
  Rd H a (.tup xs) ∨
    ∃ (o : Obj) (its : Array Value) (n : Nat), K.lookup a = some o ∧ o.cls = .type "tuple" ∧ o.data = .seq its n ∧ its.size ≤ sizeLine ∧ Vals xs its.toList
def absV : Value → Option V
  | .none => some .non
  | .bool b => some (.bl b)
  | .int i _ => some (.int i)
  | .str x _ => some (.str x)
  | .bytes b _ => some (.byt b)
  | .float b _ => some (.flt b)
  | .ref a => some (.ref a)
  | .type n => some (.ty n)
  | _ => none
theorem RelV.abs {x : V} {u : Value} (r : RelV x u) : absV u = some x := by
  cases x with
  | non => cases r; rfl
  | bl _ => cases r; rfl
  | int _ => obtain ⟨t, rfl⟩ := r; rfl
  | str _ => obtain ⟨t, rfl⟩ := r; rfl
  | byt _ => obtain ⟨t, rfl⟩ := r; rfl
  | flt _ => obtain ⟨t, rfl⟩ := r; rfl
  | ref _ => cases r; rfl
  | ty _ => cases r; rfl
theorem RelV.inj {x y : V} {u : Value} (r : RelV x u) (q : RelV y u) : x = y := Option.some.inj (r.abs.symm.trans q.abs)
theorem Vals.inj : ∀ {xs ys : List V} {us : List Value}, Vals xs us → Vals ys us → xs = ys
  | _, _, _, .nil, .nil => rfl
  | _, _, _, .cons r t, .cons r' t' => by rw [r.inj r', Vals.inj t t']
section
variable {X : Cx} {pins : List (Addr × Obj)} {σ : St} {H : Hp} {s : Shared} {a : Addr} {xs ys : List V}
theorem SqL.of {K : PySem.W.Frag} (h : H a = some (.lst xs)) : SqL K H a xs := .inl (.inl h)
theorem SqT.of {K : PySem.W.Frag} (h : H a = some (.tup xs)) : SqT K H a xs := .inl (.inl h)
theorem Inv.list (I : Inv X pins σ H s) (h : SqL X.K H a xs) : ∃ its : List Value, Vals xs its ∧ PlainL s.heap a its.toArray ∧ xs.length ≤ sizeLine := by
  rcases h with h | ⟨o, its, n, hk, hc, hd, hs, hz, r⟩
  · obtain ⟨z, its, n, r, e⟩ := h.ok I.hok
    exact ⟨its, r, ⟨_, n, e, rfl, rfl, rfl⟩, z⟩
  · refine ⟨its.toList, r, ⟨o, n, I.kIn a o hk, hc, hd, by simpa using hs⟩, ?_⟩
    have e := r.length
    simp only [Array.length_toList] at e
    omega
theorem Inv.tuple (I : Inv X pins σ H s) (h : SqT X.K H a xs) : ∃ its : List Value, Vals xs its ∧ IsTup s.heap a its.toArray ∧ xs.length ≤ sizeLine := by
  rcases h with h | ⟨o, its, n, hk, hc, hs, hz, r⟩
  · obtain ⟨z, its, r, p⟩ := h.ok I.hok
    exact ⟨its, r, p, z⟩
  · refine ⟨its.toList, r, ⟨o, I.kIn a o hk, hc, n, by simpa using hs⟩, ?_⟩
    have e := r.length
    simp only [Array.length_toList] at e
    omega
theorem Inv.list_inj (I : Inv X pins σ H s) (h : SqL X.K H a xs) (h' : SqL X.K H a ys) : xs = ys := by
  obtain ⟨its, r, ⟨o, n, e, _, _, d⟩, _⟩ := I.list h
  obtain ⟨its', r', ⟨o', n', e', _, _, d'⟩, _⟩ := I.list h'
  rw [e] at e'; cases e'
  rw [d] at d'
  injection d' with d1 _
  have : its = its' := by simpa using congrArg Array.toList d1
  subst this
  exact r.inj r'
theorem Inv.tuple_inj (I : Inv X pins σ H s) (h : SqT X.K H a xs) (h' : SqT X.K H a ys) : xs = ys := by
  obtain ⟨its, r, ⟨o, e, _, n, d⟩, _⟩ := I.tuple h
  obtain ⟨its', r', ⟨o', e', _, n', d'⟩, _⟩ := I.tuple h'
  rw [e] at e'; cases e'
  rw [d] at d'
  injection d' with d1 _
  have : its = its' := by simpa using congrArg Array.toList d1
  subst this
  exact r.inj r'
end

/-! ### another wish about exceptions -/
abbrev Cx.wish (X : Cx) (E : Value → Shared → Prop) : Cx := { X with xe := E }
/-- no exception leaves -/
abbrev Cx.nox (X : Cx) : Cx := X.wish fun _ _ => False
theorem Cx.Ok.wish {X : Cx} (ok : X.Ok) (E : Value → Shared → Prop) : (X.wish E).Ok :=
  ⟨ok.mod, ok.kind, ok.glob, ok.blt, ok.above, ok.inj, ok.has, ok.cab, ok.hd, ok.frames, ok.stk, ok.exf, ok.bs, ok.bsz, ok.noex, ok.exfs, ok.funs, ok.frf⟩
theorem Cx.Ok.unwish {X : Cx} {E : Value → Shared → Prop} (ok : (X.wish E).Ok) : X.Ok :=
  ⟨ok.mod, ok.kind, ok.glob, ok.blt, ok.above, ok.inj, ok.has, ok.cab, ok.hd, ok.frames, ok.stk, ok.exf, ok.bs, ok.bsz, ok.noex, ok.exfs, ok.funs, ok.frf⟩
section
variable {X : Cx} {pins : List (Addr × Obj)} {σ : St} {H : Hp} {s : Shared} {E : Value → Shared → Prop}
theorem Inv.wish (I : Inv X pins σ H s) (E : Value → Shared → Prop) : Inv (X.wish E) pins σ H s := ⟨I.ok.wish E, I.os, I.bare, I.base, I.loc, I.cell, I.free, I.freeC, I.pin, I.hok, I.len⟩
theorem Inv.unwish (I : Inv (X.wish E) pins σ H s) : Inv X pins σ H s := ⟨I.ok.unwish, I.os, I.bare, I.base, I.loc, I.cell, I.free, I.freeC, I.pin, I.hok, I.len⟩
theorem SP.unwish {D : Ends} {f : Flow} {s' : Shared} (h : SP (X.wish E) pins D f s') : SP X pins D f s' := by
  cases f with
  | next => obtain ⟨σ', H', I, q⟩ := h; exact ⟨σ', H', I.unwish, q⟩
  | brk => obtain ⟨σ', H', I, q⟩ := h; exact ⟨σ', H', I.unwish, q⟩
  | cont => obtain ⟨σ', H', I, q⟩ := h; exact ⟨σ', H', I.unwish, q⟩
  | ret u => obtain ⟨v, σ', H', I, r, q⟩ := h; exact ⟨v, σ', H', I.unwish, r, q⟩
theorem PE.nox {e : Expr} {t : TE} (h : PE X.nox e t) : PE X e t := fun pins s σ H Q I hw =>
  wpAny_mono (h pins s σ H Q (I.wish _) hw) (fun _ _ ⟨v, H', I', r, q⟩ => ⟨v, H', I'.unwish, r, q⟩) fun _ _ z => False.elim z
theorem PT.nox {e : Expr} {t : TT} (h : PT X.nox e t) : PT X e t := fun pins s σ H Q I hw =>
  wpAny_mono (h pins s σ H Q (I.wish _) hw) (fun _ _ ⟨H', I', q⟩ => ⟨H', I'.unwish, q⟩) fun _ _ z => False.elim z
theorem PSs.nox {st : List Stmt} {t : TS} (h : PSs X.nox st t) : PSs X st t := fun pins s σ H D I hw =>
  wpAny_mono (h pins s σ H D (I.wish _) hw) (fun _ _ q => q.unwish) fun _ _ z => False.elim z
end

/-! ### blocks and small statements -/
section
variable {X : Cx} {st : Stmt} {rest : List Stmt} {t u : TS} {e : Expr} {te : TE} {pos : Pos}
def tNext : TS := fun D σ H => D.nx σ H
def tSeq (t u : TS) : TS := fun D σ H => t { D with nx := u D } σ H
theorem pss_nil : PSs X [] tNext := fun _ _ σ H _ I h => wpAny_execs_nil ⟨σ, H, I, h⟩
theorem pss_cons (h1 : PS X st t) (h2 : PSs X rest u) : PSs X (st :: rest) (tSeq t u) := by
  intro pins s σ H D I h
  refine wpAny_execs_cons (thn (h1 pins s σ H { D with nx := u D } I h) fun f s1 q => ?_)
  cases f with
  | next =>
    obtain ⟨σ', H', I', q⟩ := q
    exact h2 pins s1 σ' H' D I' q
  | ret v => exact q
  | brk => exact q
  | cont => exact q
theorem pss_one (h1 : PS X st t) : PSs X [st] t := by
  intro pins s σ H D I h
  refine wpAny_execs_cons (thn (h1 pins s σ H D I h) fun f s1 q => ?_)
  cases f with
  | next => exact wpAny_execs_nil q
  | ret v => exact q
  | brk => exact q
  | cont => exact q
def tBreak : TS := fun D σ H => D.bk σ H
def tCont : TS := fun D σ H => D.ct σ H
theorem ps_pass : PS X (.Pass pos) tNext := fun _ _ σ H _ I h => wpAny_Pass ⟨σ, H, I, h⟩
theorem ps_break : PS X (.Break pos) tBreak := fun _ _ σ H _ I h => wpAny_Break ⟨σ, H, I, h⟩
theorem ps_continue : PS X (.Continue pos) tCont := fun _ _ σ H _ I h => wpAny_Continue ⟨σ, H, I, h⟩
/-- in a def's body nothing is shown -/
theorem Inv.quiet {pins : List (Addr × Obj)} {σ : St} {H : Hp} {s : Shared} (I : Inv X pins σ H s) : interactive X.env = false := by simp [interactive, I.ok.kind]
/-- a docstring -/
theorem ps_doc {x j pos pos'} : PS X (.Expr (.Constant (.str x) j pos) pos') tNext := fun _ s σ H _ I h => wpAny_Expr (Calls.Constant_str (show SP X _ _ .next { s with toks := s.toks + 1 } from ⟨σ, H, I.tok _, h⟩)) I.quiet
/-- an expression whose value is dropped -/
def tDrop (te : TE) : TS := fun D σ H => te σ H fun _ H1 => D.nx σ H1
theorem ps_expr (he : PE X e te) (hs : swapsWith e none pos.line X.env = pure false := by rfl) : PS X (.Expr e pos) (tDrop te) := by
  intro pins s σ H D I h
  exact wpAny_Expr_any (thn (he pins s σ H _ I h) fun v s1 ⟨x, H1, I1, r1, q1⟩ => ⟨σ, H1, I1, q1⟩) I.quiet hs
def tRet (te : TE) : TS := fun D σ H => te σ H D.rt
theorem ps_ret (he : PE X e te) : PS X (.Return (some e) pos) (tRet te) := by
  intro pins s σ H D I h
  exact wpAny_Return_some (thn (he pins s σ H _ I h) fun v s1 ⟨x, H1, I1, r1, q1⟩ => ⟨x, σ, H1, I1, r1, q1⟩)
def tRetN : TS := fun D _ H => D.rt .non H
theorem ps_retN : PS X (.Return none pos) tRetN := fun _ _ σ H _ I h => wpAny_Return_none ⟨.non, σ, H, I, rfl, h⟩
def tIfS (c : TT) (t u : TS) : TS := fun D σ H => c σ H fun b H1 => if b = true then t D σ H1 else u D σ H1
theorem ps_if {c : Expr} {a b : List Stmt} {tc : TT} (hc : PT X c tc) (ha : PSs X a t) (hb : PSs X b u) : PS X (.If c a b pos) (tIfS tc t u) := by
  intro pins s σ H D I h
  refine wpAny_If (thn (hc pins s σ H _ I h) fun d s1 ⟨H1, I1, q1⟩ => ?_)
  cases d with
  | true => exact ha pins s1 σ H1 D I1 q1
  | false => exact hb pins s1 σ H1 D I1 q1
/-- code that the proof never comes to -/
def tNever : TS := fun _ _ _ => False
theorem ps_never : PS X st tNever := fun _ _ _ _ _ _ h => h.elim
theorem pss_never {sts : List Stmt} : PSs X sts tNever := fun _ _ _ _ _ _ h => h.elim
end

/-! ### targets -/
abbrev TG := V → St → Hp → (St → Hp → Prop) → Prop
abbrev TGs := List V → St → Hp → (St → Hp → Prop) → Prop
def PG (X : Cx) (target : Expr) (t : TG) : Prop :=
  ∀ (pins : List (Addr × Obj)) (s : Shared) (σ : St) (H : Hp) (v : V) (u : Value) (Q : St → Hp → Prop), Inv X pins σ H s → RelV v u → t v σ H Q →
    wpAny (model X.prog X.w) X.A (assign target X.env u) (fun _ s' => ∃ σ' H', Inv X pins σ' H' s' ∧ Q σ' H') X.xe s
/-- several targets, one after another -/
def PGs (X : Cx) (ts : List Expr) (t : TGs) : Prop :=
  ∀ (pins : List (Addr × Obj)) (s : Shared) (σ : St) (H : Hp) (vs : List V) (us : List Value) (Q : St → Hp → Prop), Inv X pins σ H s → Vals vs us → t vs σ H Q →
    wpAny (model X.prog X.w) X.A (assignInOrder ((assignEach ts X.env).map (·.2)) us) (fun _ s' => ∃ σ' H', Inv X pins σ' H' s' ∧ Q σ' H') X.xe s
/-- o[i] = v, by values -/
abbrev TSet := V → V → V → Hp → (Hp → Prop) → Prop
def PSet (X : Cx) (t : TSet) : Prop :=
  ∀ (pins : List (Addr × Obj)) (s : Shared) (σ : St) (H : Hp) (o i v : V) (ov iv u : Value) (Q : Hp → Prop), Inv X pins σ H s → RelV o ov → RelV i iv → RelV v u → t o i v H Q →
    wpAny (model X.prog X.w) X.A (setItem ov iv u) (fun _ s' => ∃ H', Inv X pins σ H' s' ∧ Q H') X.xe s
/-- a op= b, by values -/
abbrev TIp := V → V → Hp → VK → Prop
def PIp (X : Cx) (op : Operator) (t : TIp) : Prop :=
  ∀ (pins : List (Addr × Obj)) (s : Shared) (σ : St) (H : Hp) (x y : V) (v u : Value) (Q : VK), Inv X pins σ H s → RelV x v → RelV y u → t x y H Q →
    wpAny (model X.prog X.w) X.A (inplaceOp op v u) (EP X pins σ Q) X.xe s
section
variable {X : Cx} {pos : Pos}
def gName (i : Nat) : TG := fun v σ H Q => Q (σ.set i (some v)) H
theorem pg_name {i : Nat} {x : Str} (hN : X.N.Nodup) (hi : X.N[i]? = some x) (hx : Loc X.env.scope x) (hf : X.fn x = true ∨ X.env.scope.names.lookup x = some .local := by first | exact .inl rfl | exact .inr rfl | assumption) : PG X (.Name x pos) (gName i) := by
  intro pins s σ H v u Q I r h
  exact wpAny_assign_Name (store_ok I hN hi hx r (fun s' I' => ⟨_, H, I', h⟩) hf)
def gNil : TGs := fun vs σ H Q => vs = [] ∧ Q σ H
def gCons (t : TG) (u : TGs) : TGs := fun vs σ H Q => ∃ v r, vs = v :: r ∧ t v σ H fun σ' H' => u r σ' H' Q
theorem pgs_nil : PGs X [] gNil := by
  intro pins s σ H vs us Q I r h
  obtain ⟨e, h⟩ := h
  subst e
  cases r
  exact assignInOrder_nil ⟨σ, H, I, h⟩
theorem pgs_cons {e : Expr} {es : List Expr} {t : TG} {u : TGs} (h1 : PG X e t) (h2 : PGs X es u)
    (hs : (assignEach (e :: es) X.env).map (·.2) = assign e X.env :: (assignEach es X.env).map (·.2) := by rfl) : PGs X (e :: es) (gCons t u) := by
  intro pins s σ H vs us Q I r h
  obtain ⟨v, vr, e1, h⟩ := h
  subst e1
  cases r with
  | cons r rr =>
    rw [hs]
    refine assignInOrder_cons (thn (h1 pins s σ H _ _ _ I r h) fun _ s1 ⟨σ1, H1, I1, q1⟩ => ?_)
    exact h2 pins s1 σ1 H1 _ _ Q I1 rr q1
/-- (a, b, ..) = a tuple of that length -/
def gTup (K : PySem.W.Frag) (n : Nat) (t : TGs) : TG := fun v σ H Q => ∃ a xs, v = .ref a ∧ SqT K H a xs ∧ xs.length = n ∧ t xs σ H Q
theorem pg_tup {es : List Expr} {k : Nat} {t : TGs} {n : Nat} (hc : X.calm = true) (h : PGs X es t)
    (hn : (assignEach es X.env).length = n := by rfl) (hst : (assignEach es X.env).findIdx? (·.1) = none := by rfl) : PG X (.Tuple es k pos) (gTup X.K n t) := by
  intro pins s σ H v u Q I r hw
  obtain ⟨a, xs, e1, hq, hl, hw⟩ := hw
  subst e1
  cases r
  obtain ⟨its, rv, ht, hz⟩ := I.tuple hq
  refine assign_Tuple_tuple (I.ok.hd hc) ht (by simp [hn, ← hl, rv.length]) hst fun h' hx => ?_
  have I1 : Inv X pins σ H { s with heap := h' } := I.kept (t' := s.toks) fun b o e => hx b o (Nat.ne_of_lt (Heap.lt_size e)) e
  exact h pins _ σ H xs _ Q I1 (by simpa using rv) hw
/-- o[i] = .. -/
def gSub (to ti : TE) (t : TSet) : TG := fun v σ H Q => to σ H fun o H1 => ti σ H1 fun i H2 => t o i v H2 fun H3 => Q σ H3
theorem pg_sub {o i : Expr} {to ti : TE} {t : TSet} (ho : PE X o to) (hi : PE X i ti) (hs : PSet X t)
    (ha : ∀ v, assign (.Subscript o i pos) X.env v = (do
      let ov ← holding [v] (eval o X.env)
      let iv ← holding [v, ov] (eval i X.env)
      standAt pos
      holding [v, ov, iv] (setItem ov iv v)
      release [v, ov, iv] []) := by intro _; rfl) : PG X (.Subscript o i pos) (gSub to ti t) := by
  intro pins s σ H v u Q I r h
  rw [ha]
  refine wpAny_bind (wpAny_holding (thn (ho pins s σ H _ I h) fun ov s1 ⟨x, H1, I1, r1, q1⟩ => ?_))
  refine wpAny_bind (wpAny_holding (thn (hi pins s1 σ H1 _ I1 q1) fun iv s2 ⟨y, H2, I2, r2, q2⟩ => ?_))
  refine wpAny_bind (wpAny_standAt (wpAny_bind (wpAny_holding (thn (hs pins s2 σ H2 x y v ov iv u _ I2 r1 r2 r q2) fun _ s3 ⟨H3, I3, q3⟩ => ?_))))
  exact wpAny_release ⟨σ, H3, I3, q3⟩
/-- target = value -/
def tAsg (te : TE) (g : TG) : TS := fun D σ H => te σ H fun x H1 => g x σ H1 D.nx
theorem ps_asg {tg e : Expr} {te : TE} {g : TG} (he : PE X e te) (hg : PG X tg g) (hs : swapsWithSole [tg] e pos.line X.env = pure false := by rfl) (hw : swappedStores [tg] e X.env = pure none := by rfl)
    (h1 : (assignEach [tg] X.env).map (·.2) = [assign tg X.env] := by rfl) : PS X (.Assign [tg] e pos) (tAsg te g) := by
  intro pins s σ H D I h
  refine wpAny_Assign_stores (thn (he pins s σ H _ I h) fun v s1 ⟨x, H1, I1, r1, q1⟩ => ?_) hs hw
  rw [h1]
  exact thn (hg pins s1 σ H1 x v _ I1 r1 q1) fun _ s2 q => q
/-- name = value -/
theorem ps_set {i : Nat} {x : Str} {e : Expr} {te : TE} {pos' : Pos} (hN : X.N.Nodup) (hi : X.N[i]? = some x) (hx : Loc X.env.scope x) (he : PE X e te) (hs : swapsWith e (some (.Name x pos')) pos.line X.env = pure false := by rfl) (hf : X.fn x = true ∨ X.env.scope.names.lookup x = some .local := by first | exact .inl rfl | exact .inr rfl | assumption) :
    PS X (.Assign [.Name x pos'] e pos) (tAsg te (gName i)) := by
  intro pins s σ H D I h
  refine wpAny_Assign_Name (thn (he pins s σ H _ I h) fun v s1 ⟨y, H1, I1, r1, q1⟩ => ?_) hs
  exact store_ok I1 hN hi hx r1 (fun s2 I2 => ⟨_, H1, I2, q1⟩) hf
/-- a, b = x, y with plain local names: stored from the right; the pair itself is not tracked (the opening rows as in PyProof/Rows/TupAssign.lean:23) -/
def tPar (i j : Nat) (ta : TA) : TS := fun D σ H => ta σ H fun vs H1 => ∃ v w, vs = [v, w] ∧ D.nx ((σ.set i (some v)).set j (some w)) H1
theorem ps_par {i j : Nat} {x y : Str} {a b : Expr} {ta : TA} {px py pt : Pos} {kt k2 pt2} (hc : X.calm = true) (hN : X.N.Nodup) (hi : X.N[i]? = some x) (hj : X.N[j]? = some y) (hij : i ≠ j)
    (hx : X.env.scope.names.lookup x = some .local) (hy : X.env.scope.names.lookup y = some .local) (ha : PA X [a, b] ta)
    (hw : swappedStores [.Tuple [.Name x px, .Name y py] kt pt] (.Tuple [a, b] k2 pt2) X.env = pure (some [x, y]))
    (hs : swapsWithSole [.Tuple [.Name x px, .Name y py] kt pt] (.Tuple [a, b] k2 pt2) pos.line X.env = pure false := by rfl) :
    PS X (.Assign [.Tuple [.Name x px, .Name y py] kt pt] (.Tuple [a, b] k2 pt2) pos) (tPar i j ta) := by
  intro pins s σ H D I h
  rw [exec_Assign_arm]
  refine wpAny_bind (wpAny_standAt ?_)
  rw [hs]
  refine wpAny_bind (wpAny_pure ?_)
  rw [if_neg (by decide)]
  refine wpAny_bind (Tuple_ (thn (ha _ pins s σ H _ I h) fun us s1 ⟨vs, H1, I1, r1, q1⟩ => ?_))
  obtain ⟨v, w, e1, q1⟩ := q1
  subst e1
  obtain ⟨u1, u2, rfl, rv, rw'⟩ : ∃ u1 u2, us = [u1, u2] ∧ RelV v u1 ∧ RelV w u2 := by
    cases r1 with
    | cons p q =>
      cases q with
      | cons p' q' =>
        cases q'
        exact ⟨_, _, rfl, p, p'⟩
  refine wpAny_newObj_type ?_ (by show 2 ≤ sizeLine; decide)
  have I2 : Inv X pins σ H1 { s1 with heap := s1.heap.push { cls := .type "tuple", data := .seq [u1, u2].toArray } } := I1.kept (t' := s1.toks) fun b o e => Heap.get?_push_of_some _ e
  rw [hw]
  refine wpAny_bind (wpAny_pure ?_)
  show wpAny (model X.prog X.w) X.A (do rule "assign.swapped-stores"; let items ← unpackItems (.ref s1.heap.objs.size) 2 none; assignInOrder [fun v => bindName X.env y v, fun v => bindName X.env x v] items.reverse; pure Flow.next) _ _ _
  refine wpAny_bind (wpAny_rule (wpAny_bind (unpackItems_tuple (items := #[u1, u2]) (I.ok.hd hc) (IsTup.new s1.heap _) fun h' hx' => ?_)))
  have I3 := I2.kept (h' := h') (t' := s1.toks) fun b o e => hx' b o (Nat.ne_of_lt (Heap.lt_size e)) e
  show wpAny _ _ (assignInOrder [fun v => bindName X.env y v, fun v => bindName X.env x v] [u2, u1] >>= fun _ => pure Flow.next) _ _ _
  refine wpAny_bind (assignInOrder_cons (wpAny_bindName (store_ok I3 hN hj (.inl hy) rw' (fun s2 I4 => ?_) (.inr hy))))
  refine assignInOrder_cons (wpAny_bindName (store_ok I4 hN hi (.inl hx) rv (fun s3 I5 => assignInOrder_nil (wpAny_pure ?_)) (.inr hx)))
  rw [List.set_comm _ _ (Ne.symm hij)] at I5
  exact ⟨_, H1, I5, q1⟩
/-- name op= e -/
def tAug (i : Nat) (te : TE) (ti : TIp) : TS := fun D σ H => ∃ x, σ[i]? = some (some x) ∧ te σ H fun y H1 => ti x y H1 fun z H2 => D.nx (σ.set i (some z)) H2
theorem ps_aug {i : Nat} {x : Str} {e : Expr} {te : TE} {op : Operator} {ti : TIp} {pos' : Pos} (hN : X.N.Nodup) (hi : X.N[i]? = some x) (hx : Loc X.env.scope x) (he : PE X e te) (ho : PIp X op ti) (hf : X.fn x = true ∨ X.env.scope.names.lookup x = some .local := by first | exact .inl rfl | exact .inr rfl | assumption) :
    PS X (.AugAssign (.Name x pos') op e pos) (tAug i te ti) := by
  intro pins s σ H D I h
  obtain ⟨v, e1, h⟩ := h
  obtain ⟨m, hn, hl⟩ := I.loc
  have vis : Vis X.env.scope x := by rcases hx with k | k; exact .inl k; exact .inr (.inl k)
  obtain ⟨u, r, l⟩ := hl i x v hi e1 vis
  refine wpAny_AugAssign_Name ?_
  have go : wpAny (model X.prog X.w) X.A (eval e X.env) (fun w s₂ => wpAny (model X.prog X.w) X.A (inplaceOp op u w) (fun r s₃ => wpAny (model X.prog X.w) X.A (storeName X.env x r) (fun _ => SP X pins D .next) X.xe s₃) X.xe s₂) X.xe s := by
    refine thn (he pins s σ H _ I h) fun w s1 ⟨y, H1, I1, r1, q1⟩ => ?_
    refine thn (ho pins s1 σ H1 v y u w _ I1 r r1 q1) fun z s2 ⟨zv, H2, I2, r2, q2⟩ => ?_
    exact store_ok I2 hN hi hx r2 (fun s3 I3 => ⟨_, H2, I3, q2⟩) hf
  rcases l with ⟨hk, hm⟩ | ⟨hk, c, hc, hcell⟩
  · exact wpAny_loadName_local I.ok.kind hk hn hm go
  · rcases hk with hk | hk
    · exact wpAny_loadName_cell I.ok.kind hk hc hcell go
    · rcases hx with k | k
      · have : X.env.scope.names.lookup x = some .free := hk
        rw [k] at this; cases this
      · have : X.env.scope.names.lookup x = some .free := hk
        rw [k] at this; cases this
/-- o[i] op= e -/
def tAugS (to ti te : TE) (tget : V → V → Hp → VK → Prop) (tip : TIp) (tset : TSet) : TS := fun D σ H => to σ H fun o H1 => ti σ H1 fun i H2 => tget o i H2 fun x H3 => te σ H3 fun y H4 => tip x y H4 fun z H5 => tset o i z H5 fun H6 => D.nx σ H6
/-- o[i], by values -/
def PGet (X : Cx) (t : V → V → Hp → VK → Prop) : Prop :=
  ∀ (pins : List (Addr × Obj)) (s : Shared) (σ : St) (H : Hp) (o i : V) (ov iv : Value) (Q : VK), Inv X pins σ H s → RelV o ov → RelV i iv → t o i H Q →
    wpAny (model X.prog X.w) X.A (getItem ov iv) (EP X pins σ Q) X.xe s
theorem ps_augS {o i e : Expr} {to ti te : TE} {tget : V → V → Hp → VK → Prop} {tip : TIp} {tset : TSet} {op : Operator} {tpos : Pos} (ho : PE X o to) (hi : PE X i ti) (hg : PGet X tget) (he : PE X e te) (hp : PIp X op tip) (hs : PSet X tset)
    (ha : ∀ ov iv new, augStore i ov iv new = (do holding [new, ov, iv] (setItem ov iv new); release [new, ov, iv] []; pure .next) := by intros; rfl) : PS X (.AugAssign (.Subscript o i tpos) op e pos) (tAugS to ti te tget tip tset) := by
  intro pins s σ H D I h
  refine wpAny_AugAssign_SubscriptAny (thn (ho pins s σ H _ I h) fun ov s1 ⟨x1, H1, I1, r1, q1⟩ => ?_) ha
  refine thn (hi pins s1 σ H1 _ I1 q1) fun iv s2 ⟨x2, H2, I2, r2, q2⟩ => ?_
  refine thn (hg pins s2 σ H2 x1 x2 ov iv _ I2 r1 r2 q2) fun old s3 ⟨x3, H3, I3, r3, q3⟩ => ?_
  refine thn (he pins s3 σ H3 _ I3 q3) fun v s4 ⟨x4, H4, I4, r4, q4⟩ => ?_
  refine thn (hp pins s4 σ H4 x3 x4 old v _ I4 r3 r4 q4) fun new s5 ⟨x5, H5, I5, r5, q5⟩ => ?_
  exact thn (hs pins s5 σ H5 x1 x2 x5 ov iv new _ I5 r1 r2 r5 q5) fun _ s6 ⟨H6, I6, q6⟩ => ⟨σ, H6, I6, q6⟩
/-- ints -/
def ipI (f : Int → Int → Int) : TIp := fun x y H Q => ∃ i j, x = .int i ∧ y = .int j ∧ Q (.int (f i j)) H
theorem ip_add : PIp X .Add (ipI fun i j => i + j) := by
  intro pins s σ H x y v u Q I r1 r2 h
  obtain ⟨i, j, e1, e2, q⟩ := h
  subst e1; subst e2
  obtain ⟨t, rfl⟩ := r1
  obtain ⟨t', rfl⟩ := r2
  exact iadd_int ⟨.int _, H, I.tok _, ⟨_, rfl⟩, q⟩
theorem ip_sub : PIp X .Sub (ipI fun i j => i - j) := by
  intro pins s σ H x y v u Q I r1 r2 h
  obtain ⟨i, j, e1, e2, q⟩ := h
  subst e1; subst e2
  obtain ⟨t, rfl⟩ := r1
  obtain ⟨t', rfl⟩ := r2
  exact isub_int ⟨.int _, H, I.tok _, ⟨_, rfl⟩, q⟩
end

/-! ### while -/
section
variable {X : Cx} {pos : Pos}
/-- the invariant W with its measure -/
def tWhile (c : TT) (tb : TS) : TS := fun D σ H => ∃ W : Nat → St → Hp → Prop, (∃ m, W m σ H) ∧ ∀ m σ H, W m σ H →
  c σ H fun b H1 => if b = true then ∃ N : St → Hp → Prop, (∀ σ' H', N σ' H' → ∃ m', m' < m ∧ W m' σ' H') ∧ tb { D with nx := N, ct := N, bk := D.nx } σ H1 else D.nx σ H1
theorem ps_while {c : Expr} {body : List Stmt} {tc : TT} {tb : TS} (hp : PassesOwn (model X.prog X.w) X.A X.env X.xe) (hc : PT X c tc) (hb : PSs X body tb) : PS X (.While c body [] pos) (tWhile tc tb) := by
  intro pins s σ H D I h
  obtain ⟨W, ⟨m0, w0⟩, turn⟩ := h
  refine wpAny_While (codeAny_whileLoop (fun n s' => ∃ σ' H', Inv X pins σ' H' s' ∧ W n σ' H') ?_ m0 ⟨σ, H, I, w0⟩)
  rintro n s1 ⟨σ1, H1, I1, w1⟩
  refine wpAny_passesOwn hp (thn (hc pins s1 σ1 H1 _ I1 (turn n σ1 H1 w1)) fun b s2 ⟨H2, I2, q2⟩ => ?_)
  cases b with
  | true =>
    obtain ⟨N, hN, q2⟩ := q2
    rw [if_pos rfl]
    refine wpAny_passesOwn hp (thn (hb pins s2 σ1 H2 _ I2 q2) fun f s3 q3 => ?_)
    cases f with
    | next =>
      obtain ⟨σ3, H3, I3, n3⟩ := q3
      obtain ⟨m', hm, w3⟩ := hN σ3 H3 n3
      exact ⟨m', hm, σ3, H3, I3, w3⟩
    | cont =>
      obtain ⟨σ3, H3, I3, n3⟩ := q3
      obtain ⟨m', hm, w3⟩ := hN σ3 H3 n3
      exact ⟨m', hm, σ3, H3, I3, w3⟩
    | brk => exact q3
    | ret v => exact q3
  | false =>
    rw [if_neg Bool.false_ne_true]
    exact wpAny_execs_nil ⟨σ1, H2, I2, q2⟩
end

/-! ### what a loop or a comprehension walks -/
/-- at turn i: it yields x (the heap may grow), or it stops -/
structure It where
  go : Nat → Hp → Prop
  yld : Nat → Hp → V → Hp → Prop
  stop : Nat → Hp → Prop
/-- the iterator's own objects may turn: they are not the frame's, not pinned, younger than the entry (or a comprehension's own) -/
def FpOk (X : Cx) (pins : List (Addr × Obj)) (H : Hp) (b : Addr) : Prop :=
  H b = none ∧ b ≠ X.env.locals ∧ b ∉ X.fs ∧ (b ∈ X.ex ∨ X.s₀.heap.objs.size ≤ b) ∧ (∀ x c, X.env.cells.lookup x = some c → c ≠ b) ∧ ∀ p ∈ X.pn ++ pins, p.1 ≠ b
theorem Inv.fpOk {X : Cx} {pins : List (Addr × Obj)} {σ : St} {H H' : Hp} {s : Shared} {b : Addr} (I : Inv X pins σ H s) (hb : s.heap.objs.size ≤ b) (hn : H' b = none) : FpOk X pins H' b := by
  refine ⟨hn, Nat.ne_of_gt (Nat.lt_of_lt_of_le I.lt hb), I.nofs hb, .inr (Nat.le_trans I.sz hb), fun x c e z => ?_, fun p hp z => ?_⟩
  · obtain ⟨v, q⟩ := I.cell x c e
    exact absurd (Nat.lt_of_lt_of_le q.lt (by rw [z]; exact hb)) (Nat.lt_irrefl _)
  · exact absurd (Nat.lt_of_lt_of_le (Heap.lt_size (I.pin p hp).1) (by rw [z]; exact hb)) (Nat.lt_irrefl _)
structure Turn (P : Program) (w : World) (K : PySem.W.Frag) (tg : Expr) (J : It) (fp : List Addr) (it : Addr) (tn : Nat → Heap → Prop) : Prop where
  mem : it ∈ fp
  obj : ∀ i h, tn i h → ∀ b ∈ fp, ∃ o, h.get? b = some o ∧ ∀ v, o.data ≠ .cell v
  keep : ∀ i h h', tn i h → (∀ b ∈ fp, ∀ o, h.get? b = some o → h'.get? b = some o) → tn i h'
  item : ∀ (X : Cx), X.prog = P → X.w = w → X.K = K → X.calm = true → ∀ (i : Nat) (pins : List (Addr × Obj)) (s : Shared) (σ : St) (H : Hp) (E : Value → Shared → Prop), Inv X pins σ H s → (∀ b ∈ fp, FpOk X pins H b) → tn i s.heap → J.go i H →
    wpAny (model P w) X.A (pyNext (.ref it)) (fun r s1 => ∃ u, r = some u ∧
      wpAny (model P w) X.A (letOwnedTupleGo tg (.ref it) u) (fun _ s2 => ∃ x H', Inv X pins σ H' s2 ∧ RelV x u ∧ J.yld i H x H' ∧ tn (i + 1) s2.heap ∧ ∀ b ∈ fp, H' b = none) E s1) E s
  done : ∀ (X : Cx), X.prog = P → X.w = w → X.K = K → X.calm = true → ∀ (i : Nat) (pins : List (Addr × Obj)) (s : Shared) (σ : St) (H : Hp) (E : Value → Shared → Prop), Inv X pins σ H s → (∀ b ∈ fp, FpOk X pins H b) → tn i s.heap → J.stop i H →
    wpAny (model P w) X.A (pyNext (.ref it)) (fun r s1 => r = none ∧ Inv X pins σ H s1) E s
  self : ∀ (A : Around) (i : Nat) (s : Shared) (Q : Value → Shared → Prop) (E : Value → Shared → Prop), tn i s.heap → Q (.ref it) s → wpAny (model P w) A (pyIter (.ref it)) Q E s
abbrev TI := St → Hp → (It → Hp → Prop) → Prop
/-- an iterator has come -/
def PIE (X : Cx) (pins : List (Addr × Obj)) (σ : St) (tg : Expr) (R : It → Hp → Prop) (itv : Value) (s2 : Shared) : Prop :=
  ∃ (it : Addr) (fp : List Addr) (tn : Nat → Heap → Prop) (J : It) (H' : Hp), itv = .ref it ∧ Inv X pins σ H' s2 ∧ Turn X.prog X.w X.K tg J fp it tn ∧ tn 0 s2.heap ∧ (∀ b ∈ fp, FpOk X pins H' b) ∧ R J H'
def PI (X : Cx) (tg iter : Expr) (wi : TI) : Prop :=
  ∀ (pins : List (Addr × Obj)) (s : Shared) (σ : St) (H : Hp) (R : It → Hp → Prop), Inv X pins σ H s → wi σ H R →
    wpAny (model X.prog X.w) X.A (eval iter X.env) (fun v s1 => wpAny (model X.prog X.w) X.A (pyIter v) (PIE X pins σ tg R) X.xe s1) X.xe s

/-- the step ahead of the store is nothing for an iterator that keeps no tuple -/
theorem go_of {M : Model} {A : Around} {E : Value → Shared → Prop} {s : Shared} {tg : Expr} {it : Addr} {u : Value} {o : Obj} {n : String} {vs : Array Value} {Q : Unit → Shared → Prop} (ho : s.heap.get? it = some o) (hc : o.cls = .type n) (hd : o.data = .fields vs)
    (hn : ["enumerate", "zip", "dict_itemiterator", "dict_reverseitemiterator", "odict_iterator", "itertools.zip_longest", "itertools.pairwise"].contains n = false) (hQ : Q () s) : wpAny M A (letOwnedTupleGo tg (.ref it) u) Q E s := by
  unfold letOwnedTupleGo
  cases tg <;> first
    | exact wpAny_pure hQ
    | (cases u <;> first
        | exact wpAny_pure hQ
        | (refine wpAny_bind (wpAny_load ho ?_)
           rw [hc, hd]
           show wpAny M A (if (["enumerate", "zip", "dict_itemiterator", "dict_reverseitemiterator", "odict_iterator", "itertools.zip_longest", "itertools.pairwise"].contains n && vs[0]? == some (rawInt _)) = true then _ else _) Q E s
           rw [if_neg (by intro h; rw [hn, Bool.false_and] at h; cases h)]
           exact wpAny_pure hQ))

/-- the list at a, as it stands at each turn (a loop may append to it) -/
def Itl (K : PySem.W.Frag) (a : Addr) : It :=
  ⟨fun i H => ∃ xs x, SqL K H a xs ∧ xs[i]? = some x, fun i H x H' => H' = H ∧ ∀ xs, SqL K H a xs → xs[i]? = some x, fun i H => ∃ xs, SqL K H a xs ∧ xs.length ≤ i⟩
def Itt (K : PySem.W.Frag) (a : Addr) : It :=
  ⟨fun i H => ∃ xs x, SqT K H a xs ∧ xs[i]? = some x, fun i H x H' => H' = H ∧ ∀ xs, SqT K H a xs → xs[i]? = some x, fun i H => ∃ xs, SqT K H a xs ∧ xs.length ≤ i⟩
/-- lo, lo + 1, .. (n of them) -/
def Itr (lo : Int) (n : Nat) : It := ⟨fun i _ => i < n, fun i H x H' => H' = H ∧ x = .int (lo + i), fun i _ => n ≤ i⟩
theorem turn_list {P : Program} {w : World} {K : PySem.W.Frag} {tg : Expr} (a it : Addr) : Turn P w K tg (Itl K a) [it] it (fun i h => h.IsListIter it a i) where
  mem := by simp
  obj := fun i h st b hb => by
    have e : b = it := by simpa using hb
    subst e
    obtain ⟨o, e, c, d⟩ := st
    exact ⟨o, e, fun v z => by rw [d] at z; cases z⟩
  keep := fun i h h' st k => st.at fun o e => k it (by simp) o e
  item := by
    intro X hP hw hK hc i pins s σ H E I hf st hg
    subst hP hw hK
    obtain ⟨xs, x, hq, hx⟩ := hg
    obtain ⟨its, rv, p, hz⟩ := I.list hq
    obtain ⟨u, hu, ru⟩ := rv.get hx
    obtain ⟨f0, f1, f2, f3, f4, f5⟩ := hf it (by simp)
    refine wpAny_pyNext_list_item st p.isList (x := u) (by simpa using hu) fun h' st' sb => ?_
    have I1 : Inv X pins σ H { s with heap := h' } := I.turned (t' := s.toks) (fun b o hb e => (sb.2 b hb).trans e) f0 f1 f3 f4 f5
    obtain ⟨o, e, c, d⟩ := id st'
    exact ⟨u, rfl, go_of (s := { s with heap := h' }) e c d (by decide) ⟨x, H, I1, ru, ⟨rfl, fun ys hy => by rw [I.list_inj hy hq]; exact hx⟩, st', fun b hb => (hf b hb).1⟩⟩
  done := by
    intro X hP hw hK hc i pins s σ H E I hf st hg
    subst hP hw hK
    obtain ⟨xs, hq, hx⟩ := hg
    obtain ⟨its, rv, p, hz⟩ := I.list hq
    obtain ⟨f0, f1, f2, f3, f4, f5⟩ := hf it (by simp)
    have hl := rv.length
    exact wpAny_pyNext_list_end (I.ok.hd hc) st p.isList (by simp; omega) fun h' eb => ⟨rfl, I.turned (t' := s.toks) (fun b o hb e => eb b o hb e) f0 f1 f3 f4 f5⟩
  self := fun _ _ _ _ _ st h => wpAny_pyIter_listiter st h
theorem turn_tuple {P : Program} {w : World} {K : PySem.W.Frag} {tg : Expr} (a it : Addr) : Turn P w K tg (Itt K a) [it] it (fun i h => h.IsTupleIter it a i) where
  mem := by simp
  obj := fun i h st b hb => by
    have e : b = it := by simpa using hb
    subst e
    obtain ⟨o, e, c, d⟩ := st
    exact ⟨o, e, fun v z => by rw [d] at z; cases z⟩
  keep := fun i h h' st k => st.at fun o e => k it (by simp) o e
  item := by
    intro X hP hw hK hc i pins s σ H E I hf st hg
    subst hP hw hK
    obtain ⟨xs, x, hq, hx⟩ := hg
    obtain ⟨its, rv, p, hz⟩ := I.tuple hq
    obtain ⟨u, hu, ru⟩ := rv.get hx
    obtain ⟨f0, f1, f2, f3, f4, f5⟩ := hf it (by simp)
    refine wpAny_pyNext_tuple_item st (show s.heap.IsTuple a its.toArray from p) (x := u) (by simpa using hu) fun h' st' sb => ?_
    have I1 : Inv X pins σ H { s with heap := h' } := I.turned (t' := s.toks) (fun b o hb e => (sb.2 b hb).trans e) f0 f1 f3 f4 f5
    obtain ⟨o, e, c, d⟩ := id st'
    exact ⟨u, rfl, go_of (s := { s with heap := h' }) e c d (by decide) ⟨x, H, I1, ru, ⟨rfl, fun ys hy => by rw [I.tuple_inj hy hq]; exact hx⟩, st', fun b hb => (hf b hb).1⟩⟩
  done := by
    intro X hP hw hK hc i pins s σ H E I hf st hg
    subst hP hw hK
    obtain ⟨xs, hq, hx⟩ := hg
    obtain ⟨its, rv, p, hz⟩ := I.tuple hq
    obtain ⟨f0, f1, f2, f3, f4, f5⟩ := hf it (by simp)
    have hl := rv.length
    exact wpAny_pyNext_tuple_end (I.ok.hd hc) st (show s.heap.IsTuple a its.toArray from p) (by simp; omega) fun h' eb => ⟨rfl, I.turned (t' := s.toks) (fun b o hb e => eb b o hb e) f0 f1 f3 f4 f5⟩
  self := fun _ _ _ _ _ st h => wpAny_pyIter_tupleiter st h
theorem turn_range {P : Program} {w : World} {K : PySem.W.Frag} {tg : Expr} (it : Addr) (lo : Int) (n : Nat) : Turn P w K tg (Itr lo n) [it] it (fun i h => IsRangeIter h it (lo + (i : Nat) * 1) ((n : Int) - (i : Nat)) 1) where
  mem := by simp
  obj := fun i h st b hb => by
    have e : b = it := by simpa using hb
    subst e
    exact ⟨_, st, fun v z => by
      have z' : Data.fields _ = Data.cell v := z
      cases z'⟩
  keep := fun i h h' st k => k it (by simp) _ st
  item := by
    intro X hP hw hK hc i pins s σ H E I hf st hg
    subst hP hw hK
    obtain ⟨f0, f1, f2, f3, f4, f5⟩ := hf it (by simp)
    have W := Walks.range (prog := X.prog) (w := X.w) (I.ok.hd hc) it lo 1 n
    refine W.item i s _ _ hg st fun v h' tk hv st' kk => ?_
    obtain ⟨t, rfl⟩ := hv
    have I1 : Inv X pins σ H { s with heap := h', toks := tk } := I.turned (fun b o hb e => kk b o (by simpa using hb) e) f0 f1 f3 f4 f5
    refine ⟨_, rfl, go_of (s := { s with heap := h', toks := tk }) (n := "range_iterator") st' rfl rfl (by decide) ⟨.int (lo + i), H, I1, ⟨t, ?_⟩, ⟨rfl, rfl⟩, st', fun b hb => (hf b hb).1⟩⟩
    rw [Int.mul_one]
  done := by
    intro X hP hw hK hc i pins s σ H E I hf st hg
    subst hP hw hK
    obtain ⟨f0, f1, f2, f3, f4, f5⟩ := hf it (by simp)
    exact wpAny_pyNext_range_end (I.ok.hd hc) st (by have : n ≤ i := hg; omega) fun h' eb => ⟨rfl, I.turned (t' := s.toks) (fun b o hb e => eb b o hb e) f0 f1 f3 f4 f5⟩
  self := fun _ _ _ _ _ st h => wpAny_pyIter_rangeiter st h
end L2

namespace L2
open PySem PySem.Spec PyProof.Rows
section
variable {X : Cx} {tg : Expr}
def iList (K : PySem.W.Frag) (tl : TE) : TI := fun σ H R => tl σ H fun x H1 => ∃ a, x = .ref a ∧ (∃ xs, SqL K H1 a xs) ∧ R (Itl K a) H1
def iTup (K : PySem.W.Frag) (tl : TE) : TI := fun σ H R => tl σ H fun x H1 => ∃ a, x = .ref a ∧ (∃ xs, SqT K H1 a xs) ∧ R (Itt K a) H1
theorem pi_list {l : Expr} {tl : TE} (hl : PE X l tl) : PI X tg l (iList X.K tl) := by
  intro pins s σ H R I h
  refine thn (hl pins s σ H _ I h) fun v s1 ⟨x, H1, I1, r1, q1⟩ => ?_
  obtain ⟨a, e, ⟨xs, hq⟩, q⟩ := q1
  subst e
  cases r1
  obtain ⟨its, rv, p, hz⟩ := I1.list hq
  refine wpAny_pyIter_list p.isList ?_
  refine ⟨s1.heap.objs.size, [s1.heap.objs.size], _, _, H1, rfl, I1.kept (t' := s1.toks) fun b o e => Heap.get?_push_of_some _ e, turn_list a _, ⟨_, Heap.get?_push_size _ rfl, rfl, rfl⟩, fun b hb => ?_, q⟩
  have e : b = s1.heap.objs.size := by simpa using hb
  subst e
  exact I1.fpOk (Nat.le_refl _) (I1.hok.fresh (Nat.le_refl _))
theorem pi_tup {l : Expr} {tl : TE} (hl : PE X l tl) : PI X tg l (iTup X.K tl) := by
  intro pins s σ H R I h
  refine thn (hl pins s σ H _ I h) fun v s1 ⟨x, H1, I1, r1, q1⟩ => ?_
  obtain ⟨a, e, ⟨xs, hq⟩, q⟩ := q1
  subst e
  cases r1
  obtain ⟨its, rv, p, hz⟩ := I1.tuple hq
  refine wpAny_pyIter_tuple (show s1.heap.IsTuple a its.toArray from p) ?_
  refine ⟨s1.heap.objs.size, [s1.heap.objs.size], _, _, H1, rfl, I1.kept (t' := s1.toks) fun b o e => Heap.get?_push_of_some _ e, turn_tuple a _, ⟨_, Heap.get?_push_size _ rfl, rfl, rfl⟩, fun b hb => ?_, q⟩
  have e : b = s1.heap.objs.size := by simpa using hb
  subst e
  exact I1.fpOk (Nat.le_refl _) (I1.hok.fresh (Nat.le_refl _))
/-- a range object just made, walked -/
theorem range_it {pins : List (Addr × Obj)} {σ : St} {H : Hp} {s : Shared} {R : It → Hp → Prop} {E : Value → Shared → Prop} {lo hi : Int} {t u v : Tok} {tk : Nat} (I : Inv X pins σ H s) (h1 : -(2 ^ 62) ≤ lo) (h2 : lo < 2 ^ 62) (h3 : -(2 ^ 62) ≤ hi) (h4 : hi < 2 ^ 62)
    (q : R (Itr lo (hi - lo).toNat) H) : wpAny (model X.prog X.w) X.A (pyIter (.ref s.heap.objs.size)) (PIE X pins σ tg R) E { s with heap := s.heap.push { cls := .type "range", data := .fields #[.int lo t, .int hi u, .int 1 v] }, toks := tk } := by
  refine wpAny_pyIter_range (IsRange.new ..) (small_one h1 h2 h3 h4) ?_
  have I1 : Inv X pins σ H { s with heap := s.heap.push { cls := .type "range", data := .fields #[.int lo t, .int hi u, .int 1 v] }, toks := tk } := I.kept fun b o e => Heap.get?_push_of_some _ e
  refine ⟨(s.heap.push { cls := .type "range", data := .fields #[.int lo t, .int hi u, .int 1 v] }).objs.size, [(s.heap.push { cls := .type "range", data := .fields #[.int lo t, .int hi u, .int 1 v] }).objs.size], _, _, H, rfl,
    I1.kept (t' := tk) fun b o e => Heap.get?_push_of_some _ e, turn_range _ lo (hi - lo).toNat, ?_, fun b hb => ?_, q⟩
  · have e1 : lo + ((0 : Nat) : Int) * 1 = lo := by simp
    have e2 : (((hi - lo).toNat : Nat) : Int) - ((0 : Nat) : Int) = Builtin.Range.rangeSize lo hi 1 := by rw [rangeSize_one]; split <;> omega
    show IsRangeIter _ _ (lo + ((0 : Nat) : Int) * 1) ((((hi - lo).toNat : Nat) : Int) - ((0 : Nat) : Int)) 1
    rw [e1, e2]
    exact Heap.get?_push_size _ rfl
  · have e : b = (s.heap.push { cls := .type "range", data := .fields #[.int lo t, .int hi u, .int 1 v] }).objs.size := by simpa using hb
    subst e
    exact I1.fpOk (Nat.le_refl _) (I1.hok.fresh (Nat.le_refl _))
def iRng1 (ta : TA) : TI := fun σ H R => ta σ H fun vs H1 => ∃ j : Int, vs = [.int j] ∧ -(2 ^ 62) ≤ j ∧ j < 2 ^ 62 ∧ R (Itr 0 j.toNat) H1
def iRng2 (ta : TA) : TI := fun σ H R => ta σ H fun vs H1 => ∃ i j : Int, vs = [.int i, .int j] ∧ (-(2 ^ 62) ≤ i ∧ i < 2 ^ 62 ∧ -(2 ^ 62) ≤ j ∧ j < 2 ^ 62) ∧ R (Itr i (j - i).toNat) H1
theorem pi_range1 {a : Expr} {ta : TA} {p pos : Pos} (hg : Gl X "range") (hm : X.mg "range" = none) (ha : PA X [a] ta) (hs : starEach [a] X.env = [(false, eval a X.env)] := by rfl) : PI X tg (.Call (.Name "range" p) [a] [] pos) (iRng1 ta) := by
  intro pins s σ H R I h
  refine Call_ (ld_blt I hg hm boot_range (PyProof.Rows.callWith_type1 (thn (ha pos pins s σ H _ I h) fun us s1 ⟨vs, H1, I1, r1, q1⟩ => ?_) hs rfl))
  obtain ⟨j, e, q1, q2, q⟩ := q1
  subst e
  cases r1 with
  | cons r rr =>
    cases rr
    obtain ⟨t, rfl⟩ := r
    exact call_range_1 (range_it I1 (by omega) (by omega) q1 q2 (by simpa using q))
theorem pi_range2 {a b : Expr} {ta : TA} {p pos : Pos} (hg : Gl X "range") (hm : X.mg "range" = none) (ha : PA X [a, b] ta) (hs : starEach [a, b] X.env = [(false, eval a X.env), (false, eval b X.env)] := by rfl) (hs2 : starEach [b] X.env = [(false, eval b X.env)] := by rfl) :
    PI X tg (.Call (.Name "range" p) [a, b] [] pos) (iRng2 ta) := by
  intro pins s σ H R I h
  refine Call_ (ld_blt I hg hm boot_range (PyProof.Rows.callWith_type1 (thn (ha pos pins s σ H _ I h) fun us s1 ⟨vs, H1, I1, r1, q1⟩ => ?_) (by rw [hs, hs2]) (by rw [hs2]; rfl)))
  obtain ⟨i, j, e, ⟨q1, q2, q3, q4⟩, q⟩ := q1
  subst e
  cases r1 with
  | cons r rr =>
    cases rr with
    | cons r' rr =>
      cases rr
      obtain ⟨t, rfl⟩ := r
      obtain ⟨t', rfl⟩ := r'
      exact call_range_2 (range_it I1 q1 q2 q3 q4 q)

/-! ### for -/
/-- W: the invariant by the turn and a measure; N: what the body is to reach -/
def tFor (wi : TI) (g : TG) (tb : TS) : TS := fun D σ H => wi σ H fun J H1 => ∃ W : Nat → Nat → St → Hp → Prop, (∃ m, W 0 m σ H1) ∧ ∀ i m σ H, W i m σ H →
  (J.stop i H ∧ D.nx σ H) ∨ (J.go i H ∧ ∃ N : St → Hp → Prop, (∀ σ' H', N σ' H' → ∃ m', m' < m ∧ W (i + 1) m' σ' H') ∧ ∀ x H', J.yld i H x H' → g x σ H' fun σ2 H2 => tb { D with nx := N, ct := N, bk := D.nx } σ2 H2)
/-- the records at fp as they stand -/
def pinsAt (fp : List Addr) (h : Heap) : List (Addr × Obj) := fp.filterMap fun b => (h.get? b).map fun o => (b, o)
theorem mem_pinsAt {fp : List Addr} {h : Heap} {b : Addr} {o : Obj} (hb : b ∈ fp) (e : h.get? b = some o) : (b, o) ∈ pinsAt fp h := List.mem_filterMap.mpr ⟨b, hb, by rw [e]; rfl⟩
theorem of_pinsAt {fp : List Addr} {h : Heap} {p : Addr × Obj} (hp : p ∈ pinsAt fp h) : p.1 ∈ fp ∧ h.get? p.1 = some p.2 := by
  obtain ⟨b, hb, e⟩ := List.mem_filterMap.mp hp
  cases q : h.get? b with
  | none => rw [q] at e; cases e
  | some o =>
    rw [q] at e
    have e' : (b, o) = p := Option.some.inj e
    subst e'
    exact ⟨hb, q⟩
theorem Inv.pinned {pins : List (Addr × Obj)} {σ : St} {H : Hp} {s : Shared} {fp : List Addr} (I : Inv X pins σ H s) (hf : ∀ b ∈ fp, FpOk X pins H b) (ho : ∀ b ∈ fp, ∃ o, s.heap.get? b = some o ∧ ∀ v, o.data ≠ .cell v) : Inv X (pins ++ pinsAt fp s.heap) σ H s :=
  I.pins_of fun p hp => (List.mem_append.mp hp).elim (fun z => I.pin p (List.mem_append_right _ z)) fun z => by
    obtain ⟨hb, e⟩ := of_pinsAt z
    obtain ⟨f0, f1, f2, _⟩ := hf p.1 hb
    obtain ⟨o, e', d⟩ := ho p.1 hb
    rw [e] at e'; cases e'
    exact ⟨e, f0, f1, f2, d⟩
theorem Inv.unpinned {pins pl : List (Addr × Obj)} {σ : St} {H : Hp} {s : Shared} (I : Inv X (pins ++ pl) σ H s) : Inv X pins σ H s := I.pins_of fun p hp => I.pin p (List.mem_append_right _ (List.mem_append_left _ hp))
theorem ps_for {iter : Expr} {body : List Stmt} {wi : TI} {g : TG} {tb : TS} {pos : Pos} (hp : PassesOwn (model X.prog X.w) X.A X.env X.xe) (hc : X.calm = true) (hi : PI X tg iter wi) (hg : PG X tg g) (hb : PSs X body tb)
    (hs : ∀ x, foldedSetIterable iter X.env x = pure x := by intro _; rfl) : PS X (.For tg iter body [] pos) (tFor wi g tb) := by
  intro pins s σ H D I h
  refine wpAny_For (thn (hi pins s σ H _ I h) fun v s1 h1 => thn h1 fun itv s2 h2 => ?_) hs
  obtain ⟨it, fp, tn, J, H2, e, I2, T, st2, f2, W, ⟨m0, w0⟩, turn⟩ := h2
  subst e
  -- what stays true of the iterator's objects through the loop
  have stat : ∀ {H' : Hp}, (∀ b ∈ fp, H' b = none) → ∀ b ∈ fp, FpOk X pins H' b := fun hn b hb => ⟨hn b hb, (f2 b hb).2⟩
  refine codeAny_forLoop_any (fun n s' => ∃ i σ' H', Inv X pins σ' H' s' ∧ tn i s'.heap ∧ (∀ b ∈ fp, H' b = none) ∧ W i n σ' H') ?_ m0 ⟨0, σ, H2, I2, st2, fun b hb => (f2 b hb).1, w0⟩
  rintro n s3 ⟨i, σ3, H3, I3, st3, fr3, w3⟩
  rcases turn i n σ3 H3 w3 with ⟨stop, qn⟩ | ⟨go, N, hN, step⟩
  · refine wpAny_passesOwn hp (thn (T.done X rfl rfl rfl hc i pins s3 σ3 H3 X.xe I3 (stat fr3) st3 stop) fun r s4 ⟨hr, I4⟩ => ?_)
    subst hr
    exact wpAny_execs_nil ⟨σ3, H3, I4, qn⟩
  · refine wpAny_passesOwn hp (thn (T.item X rfl rfl rfl hc i pins s3 σ3 H3 X.xe I3 (stat fr3) st3 go) fun r s4 ⟨u, hr, h4⟩ => ?_)
    subst hr
    refine wpAny_passesOwn hp (thn h4 fun _ s5 ⟨x, H5, I5, r5, y5, st5, fr5⟩ => ?_)
    have I5' := I5.pinned (stat fr5) (T.obj _ _ st5)
    refine wpAny_passesOwn hp (thn (hg _ s5 σ3 H5 x u _ I5' r5 (step x H5 y5)) fun _ s6 ⟨σ6, H6, I6, q6⟩ => ?_)
    refine wpAny_passesOwn hp (thn (hb _ s6 σ6 H6 _ I6 q6) fun f s7 q7 => ?_)
    have again : ∀ {σ7 : St} {H7 : Hp}, Inv X (pins ++ pinsAt fp s5.heap) σ7 H7 s7 → N σ7 H7 → ∃ m, m < n ∧ ∃ i σ' H', Inv X pins σ' H' s7 ∧ tn i s7.heap ∧ (∀ b ∈ fp, H' b = none) ∧ W i m σ' H' := fun {σ7 H7} I7 n7 => by
      obtain ⟨m', hm, w7⟩ := hN σ7 H7 n7
      refine ⟨m', hm, i + 1, σ7, H7, I7.unpinned, T.keep _ _ _ st5 fun b hb o e => (I7.pin (b, o) (List.mem_append_right _ (List.mem_append_right _ (mem_pinsAt hb e)))).1, fun b hb => ?_, w7⟩
      obtain ⟨o, e, d⟩ := T.obj _ _ st5 b hb
      exact (I7.pin (b, o) (List.mem_append_right _ (List.mem_append_right _ (mem_pinsAt hb e)))).2.1
    cases f with
    | next => obtain ⟨σ7, H7, I7, n7⟩ := q7; exact again I7 n7
    | cont => obtain ⟨σ7, H7, I7, n7⟩ := q7; exact again I7 n7
    | brk => obtain ⟨σ7, H7, I7, q7⟩ := q7; exact ⟨σ7, H7, I7.unpinned, q7⟩
    | ret v => obtain ⟨x7, σ7, H7, I7, r7, q7⟩ := q7; exact ⟨x7, σ7, H7, I7.unpinned, r7, q7⟩
end

/-! ### the forms one uses -/
/-- over a list that the body leaves as it is -/
theorem for_list {K : PySem.W.Frag} {a : Addr} {xs : List V} {g : TG} {tb : TS} {D : Ends} {σ : St} {H : Hp} (Pv : Nat → St → Hp → Prop) (h0 : Pv 0 σ H) (hl : ∀ i σ H, i ≤ xs.length → Pv i σ H → SqL K H a xs)
    (hs : ∀ i x σ H, xs[i]? = some x → Pv i σ H → g x σ H fun σ2 H2 => tb { D with nx := Pv (i + 1), ct := Pv (i + 1), bk := D.nx } σ2 H2) (hd : ∀ σ H, Pv xs.length σ H → D.nx σ H) :
    ∃ W : Nat → Nat → St → Hp → Prop, (∃ m, W 0 m σ H) ∧ ∀ i m σ H, W i m σ H →
      ((Itl K a).stop i H ∧ D.nx σ H) ∨ ((Itl K a).go i H ∧ ∃ N : St → Hp → Prop, (∀ σ' H', N σ' H' → ∃ m', m' < m ∧ W (i + 1) m' σ' H') ∧ ∀ x H', (Itl K a).yld i H x H' → g x σ H' fun σ2 H2 => tb { D with nx := N, ct := N, bk := D.nx } σ2 H2) := by
  refine ⟨fun i m σ H => m = xs.length - i ∧ i ≤ xs.length ∧ Pv i σ H, ⟨xs.length, by simp, Nat.zero_le _, h0⟩, ?_⟩
  rintro i m σ H ⟨rfl, hi, p⟩
  have q := hl i σ H hi p
  by_cases hlt : i < xs.length
  · refine .inr ⟨⟨xs, xs[i], q, by simp [hlt]⟩, Pv (i + 1), fun σ' H' p' => ⟨xs.length - (i + 1), by omega, rfl, hlt, p'⟩, fun x H' y => ?_⟩
    obtain ⟨e, y⟩ := y
    subst e
    exact hs i x σ _ (y xs q) p
  · have e : i = xs.length := by omega
    subst e
    exact .inl ⟨⟨xs, q, Nat.le_refl _⟩, hd σ H p⟩
theorem for_tup {K : PySem.W.Frag} {a : Addr} {xs : List V} {g : TG} {tb : TS} {D : Ends} {σ : St} {H : Hp} (Pv : Nat → St → Hp → Prop) (h0 : Pv 0 σ H) (hl : ∀ i σ H, i ≤ xs.length → Pv i σ H → SqT K H a xs)
    (hs : ∀ i x σ H, xs[i]? = some x → Pv i σ H → g x σ H fun σ2 H2 => tb { D with nx := Pv (i + 1), ct := Pv (i + 1), bk := D.nx } σ2 H2) (hd : ∀ σ H, Pv xs.length σ H → D.nx σ H) :
    ∃ W : Nat → Nat → St → Hp → Prop, (∃ m, W 0 m σ H) ∧ ∀ i m σ H, W i m σ H →
      ((Itt K a).stop i H ∧ D.nx σ H) ∨ ((Itt K a).go i H ∧ ∃ N : St → Hp → Prop, (∀ σ' H', N σ' H' → ∃ m', m' < m ∧ W (i + 1) m' σ' H') ∧ ∀ x H', (Itt K a).yld i H x H' → g x σ H' fun σ2 H2 => tb { D with nx := N, ct := N, bk := D.nx } σ2 H2) := by
  refine ⟨fun i m σ H => m = xs.length - i ∧ i ≤ xs.length ∧ Pv i σ H, ⟨xs.length, by simp, Nat.zero_le _, h0⟩, ?_⟩
  rintro i m σ H ⟨rfl, hi, p⟩
  have q := hl i σ H hi p
  by_cases hlt : i < xs.length
  · refine .inr ⟨⟨xs, xs[i], q, by simp [hlt]⟩, Pv (i + 1), fun σ' H' p' => ⟨xs.length - (i + 1), by omega, rfl, hlt, p'⟩, fun x H' y => ?_⟩
    obtain ⟨e, y⟩ := y
    subst e
    exact hs i x σ _ (y xs q) p
  · have e : i = xs.length := by omega
    subst e
    exact .inl ⟨⟨xs, q, Nat.le_refl _⟩, hd σ H p⟩
theorem for_range {lo : Int} {n : Nat} {g : TG} {tb : TS} {D : Ends} {σ : St} {H : Hp} (Pv : Nat → St → Hp → Prop) (h0 : Pv 0 σ H)
    (hs : ∀ i σ H, i < n → Pv i σ H → g (.int (lo + i)) σ H fun σ2 H2 => tb { D with nx := Pv (i + 1), ct := Pv (i + 1), bk := D.nx } σ2 H2) (hd : ∀ σ H, Pv n σ H → D.nx σ H) :
    ∃ W : Nat → Nat → St → Hp → Prop, (∃ m, W 0 m σ H) ∧ ∀ i m σ H, W i m σ H →
      ((Itr lo n).stop i H ∧ D.nx σ H) ∨ ((Itr lo n).go i H ∧ ∃ N : St → Hp → Prop, (∀ σ' H', N σ' H' → ∃ m', m' < m ∧ W (i + 1) m' σ' H') ∧ ∀ x H', (Itr lo n).yld i H x H' → g x σ H' fun σ2 H2 => tb { D with nx := N, ct := N, bk := D.nx } σ2 H2) := by
  refine ⟨fun i m σ H => m = n - i ∧ i ≤ n ∧ Pv i σ H, ⟨n, by simp, Nat.zero_le _, h0⟩, ?_⟩
  rintro i m σ H ⟨rfl, hi, p⟩
  by_cases hlt : i < n
  · refine .inr ⟨hlt, Pv (i + 1), fun σ' H' p' => ⟨n - (i + 1), by omega, rfl, hlt, p'⟩, fun x H' y => ?_⟩
    obtain ⟨e, y⟩ := y
    subst e y
    exact hs i σ _ hlt p
  · have e : i = n := by omega
    subst e
    exact .inl ⟨Nat.le_refl _, hd σ H p⟩
/-- while, by a word and a measure of the state -/
theorem while_by {c : TT} {tb : TS} {D : Ends} {σ : St} {H : Hp} (Pv : St → Hp → Prop) (μ : St → Hp → Nat) (h0 : Pv σ H)
    (hs : ∀ σ H, Pv σ H → c σ H fun b H1 => if b = true then tb { D with nx := fun σ' H' => Pv σ' H' ∧ μ σ' H' < μ σ H, ct := fun σ' H' => Pv σ' H' ∧ μ σ' H' < μ σ H, bk := D.nx } σ H1 else D.nx σ H1)
    (mono : ∀ σ H Q Q', (∀ b H1, Q b H1 → Q' b H1) → c σ H Q → c σ H Q') : tWhile c tb D σ H := by
  refine ⟨fun m σ H => m = μ σ H ∧ Pv σ H, ⟨_, rfl, h0⟩, ?_⟩
  rintro m σ H ⟨rfl, p⟩
  refine mono σ H _ _ (fun b H1 q => ?_) (hs σ H p)
  cases b with
  | true => exact ⟨_, fun σ' H' ⟨p', l⟩ => ⟨_, l, rfl, p'⟩, q⟩
  | false => exact q
end L2

namespace L2
open PySem PySem.Spec PyProof.Rows

abbrev R2 := V → V → Hp → VK → Prop
/-- a two-place operation on values: f is binaryOp op, inplaceOp op or compareOp op -/
def OpR (X : Cx) (f : Value → Value → Sem Value) (r : R2) : Prop :=
  ∀ (pins : List (Addr × Obj)) (s : Shared) (σ : St) (H : Hp) (x y : V) (v u : Value) (Q : VK), Inv X pins σ H s → RelV x v → RelV y u → r x y H Q →
    wpAny (model X.prog X.w) X.A (f v u) (EP X pins σ Q) X.xe s
/-- a one-place operation -/
def UnR (X : Cx) (f : Value → Sem Value) (r : V → Hp → VK → Prop) : Prop :=
  ∀ (pins : List (Addr × Obj)) (s : Shared) (σ : St) (H : Hp) (x : V) (v : Value) (Q : VK), Inv X pins σ H s → RelV x v → r x H Q →
    wpAny (model X.prog X.w) X.A (f v) (EP X pins σ Q) X.xe s
/-- a call of a value that is known (a builtin, a type) with values -/
def CallR (X : Cx) (f : Value) (r : List V → Hp → VK → Prop) : Prop :=
  ∀ (pins : List (Addr × Obj)) (s : Shared) (σ : St) (H : Hp) (xs : List V) (us : List Value) (Q : VK), Inv X pins σ H s → Vals xs us → r xs H Q →
    wpAny (model X.prog X.w) X.A (call f us) (EP X pins σ Q) X.xe s
/-- a value's truth -/
def TruR (X : Cx) (r : V → Hp → (Bool → Hp → Prop) → Prop) : Prop :=
  ∀ (pins : List (Addr × Obj)) (s : Shared) (σ : St) (H : Hp) (x : V) (v : Value) (Q : Bool → Hp → Prop), Inv X pins σ H s → RelV x v → r x H Q →
    wpAny (model X.prog X.w) X.A (truthy v) (TP X pins σ Q) X.xe s

def tOp (r : R2) (ta tb : TE) : TE := fun σ H Q => ta σ H fun x H1 => tb σ H1 fun y H2 => r x y H2 Q
def tUn (r : V → Hp → VK → Prop) (ta : TE) : TE := fun σ H Q => ta σ H fun x H1 => r x H1 Q
/-- ints in, under C, and a value out -/
def rI (C : Int → Int → Prop) (g : Int → Int → V) : R2 := fun x y H Q => ∃ i j, x = .int i ∧ y = .int j ∧ C i j ∧ Q (g i j) H
def rI0 (g : Int → Int → V) : R2 := fun x y H Q => ∃ i j, x = .int i ∧ y = .int j ∧ Q (g i j) H
def rU (g : Int → V) : V → Hp → VK → Prop := fun x H Q => ∃ i, x = .int i ∧ Q (g i) H

section
variable {X : Cx} {a b c : Expr} {ta tb tc : TE} {pos : Pos}

theorem binT (ha : PE X a ta) (hb : PE X b tb) {pins : List (Addr × Obj)} {s : Shared} {σ : St} {H : Hp} {R : V → V → Hp → Prop} (I : Inv X pins σ H s)
    (h : ta σ H fun x H1 => tb σ H1 fun y H2 => R x y H2) {Q : Value → Shared → Prop} {f : Value → Value → Sem Value}
    (hf : ∀ v u s2 x y H2, Inv X pins σ H2 s2 → RelV x v → RelV y u → R x y H2 → wpAny (model X.prog X.w) X.A (f v u) Q X.xe s2) :
    wpAny (model X.prog X.w) X.A (eval a X.env) (fun v s₁ => wpAny (model X.prog X.w) X.A (eval b X.env) (fun u s₂ => wpAny (model X.prog X.w) X.A (f v u) Q X.xe s₂) X.xe s₁) X.xe s := by
  refine thn (ha pins s σ H _ I h) fun v s1 ⟨x, H1, I1, r1, q1⟩ => ?_
  refine thn (hb pins s1 σ H1 _ I1 q1) fun u s2 ⟨y, H2, I2, r2, q2⟩ => ?_
  exact hf v u s2 x y H2 I2 r1 r2 q2

theorem pe_op {op : Operator} {r : R2} (ho : OpR X (binaryOp op) r) (ha : PE X a ta) (hb : PE X b tb) : PE X (.BinOp a op b pos) (tOp r ta tb) := by
  intro pins s σ H Q I h
  exact wpAny_BinOp (binT ha hb I h fun v u s2 x y H2 I2 rx ry q => ho pins s2 σ H2 x y v u Q I2 rx ry q)
theorem pe_un {op : UnaryOp} {r : V → Hp → VK → Prop} (ho : UnR X (unaryOp op) r) (ha : PE X a ta) : PE X (.UnaryOp op a pos) (tUn r ta) := by
  intro pins s σ H Q I h
  exact UnaryOp_ (thn (ha pins s σ H _ I h) fun v s1 ⟨x, H1, I1, r1, q1⟩ => ho pins s1 σ H1 x v Q I1 r1 q1)
/-- a op= e at a name: the name's slot i -/
theorem augR {op : Operator} {r : R2} (ho : OpR X (inplaceOp op) r) {pins : List (Addr × Obj)} {s : Shared} {σ : St} {H : Hp} {x y : V} {v u : Value} {Q : VK} (I : Inv X pins σ H s)
    (rx : RelV x v) (ry : RelV y u) (q : r x y H Q) : wpAny (model X.prog X.w) X.A (inplaceOp op v u) (EP X pins σ Q) X.xe s := ho pins s σ H x y v u Q I rx ry q

/-! ### ints -/
theorem opI {f : Value → Value → Sem Value} {C : Int → Int → Prop} {g : Int → Int → Int}
    (rule : ∀ (i j : Int) (t u : Tok) (s : Shared) (Q : Value → Shared → Prop) (E : Value → Shared → Prop), C i j → Q (.int (g i j) s.toks) { s with toks := s.toks + 1 } → wpAny (model X.prog X.w) X.A (f (.int i t) (.int j u)) Q E s) :
    OpR X f (rI C fun i j => .int (g i j)) := by
  intro pins s σ H x y v u Q I rx ry h
  obtain ⟨i, j, rfl, rfl, hc, q⟩ := h
  obtain ⟨t, rfl⟩ := rx
  obtain ⟨t', rfl⟩ := ry
  exact rule i j t t' s _ _ hc ⟨.int (g i j), H, I.tok _, ⟨_, rfl⟩, q⟩
theorem opI0 {f : Value → Value → Sem Value} {g : Int → Int → Int}
    (rule : ∀ (i j : Int) (t u : Tok) (s : Shared) (Q : Value → Shared → Prop) (E : Value → Shared → Prop), Q (.int (g i j) s.toks) { s with toks := s.toks + 1 } → wpAny (model X.prog X.w) X.A (f (.int i t) (.int j u)) Q E s) :
    OpR X f (rI0 fun i j => .int (g i j)) := by
  intro pins s σ H x y v u Q I rx ry h
  obtain ⟨i, j, rfl, rfl, q⟩ := h
  obtain ⟨t, rfl⟩ := rx
  obtain ⟨t', rfl⟩ := ry
  exact rule i j t t' s _ _ ⟨.int (g i j), H, I.tok _, ⟨_, rfl⟩, q⟩
theorem opB0 {f : Value → Value → Sem Value} {g : Int → Int → Bool}
    (rule : ∀ (i j : Int) (t u : Tok) (s : Shared) (Q : Value → Shared → Prop) (E : Value → Shared → Prop), Q (.bool (g i j)) s → wpAny (model X.prog X.w) X.A (f (.int i t) (.int j u)) Q E s) :
    OpR X f (rI0 fun i j => .bl (g i j)) := by
  intro pins s σ H x y v u Q I rx ry h
  obtain ⟨i, j, rfl, rfl, q⟩ := h
  obtain ⟨t, rfl⟩ := rx
  obtain ⟨t', rfl⟩ := ry
  exact rule i j t t' s _ _ ⟨.bl (g i j), H, I, rfl, q⟩

def CDiv (i j : Int) : Prop := 0 < j ∧ j < 1073741824
def CDivN (i j : Int) : Prop := j ≠ 0 ∧ j.natAbs < 1073741824
def CPow (i j : Int) : Prop := 0 ≤ j ∧ j ≤ 1000000 ∧ i.natAbs < 2 ^ 64
def CMul (i j : Int) : Prop := (-(2 ^ 64) < i ∧ i < 2 ^ 64) ∨ (-(2 ^ 64) < j ∧ j < 2 ^ 64)
theorem CMul.ok {i j : Int} (h : CMul i j) : IntMulOk i j := by
  rcases h with ⟨h1, h2⟩ | ⟨h1, h2⟩
  · exact .of_left (intBits_le_64 h1 h2)
  · exact .of_right (intBits_le_64 h1 h2)
theorem two_pow_nn (k : Nat) : (0 : Int) ≤ 2 ^ k := by
  rw [two_pow_cast]
  exact Int.natCast_nonneg _

theorem op_add : OpR X (binaryOp .Add) (rI0 fun i j => .int (i + j)) := opI0 fun _ _ _ _ _ _ _ q => add_int q
theorem op_sub : OpR X (binaryOp .Sub) (rI0 fun i j => .int (i - j)) := opI0 fun _ _ _ _ _ _ _ q => sub_int q
theorem op_mul : OpR X (binaryOp .Mult) (rI CMul fun i j => .int (i * j)) := opI fun _ _ _ _ _ _ _ hc q => mul_int q hc.ok
/-- // by a positive divisor -/
theorem op_fdiv : OpR X (binaryOp .FloorDiv) (rI CDiv fun i j => .int (i / j)) := opI fun i j _ _ _ _ _ hc q => by
  have h1 : (0 : Int) < j := hc.1
  have h2 : j < 1073741824 := hc.2
  exact floordiv_int (by omega) (by rw [Int.fdiv_eq_ediv_of_nonneg i (by omega)]; exact q) (.inl (PyProof.noPylong_small (by omega)))
theorem op_fdivN : OpR X (binaryOp .FloorDiv) (rI CDivN fun i j => .int (i.fdiv j)) := opI fun _ _ _ _ _ _ _ hc q => floordiv_int hc.1 q (.inl (PyProof.noPylong_small hc.2))
/-- % by a positive divisor of any size -/
theorem op_mod : OpR X (binaryOp .Mod) (rI (fun _ j => 0 < j) fun i j => .int (i % j)) := opI fun i j _ _ _ _ _ hc q => by
  have h1 : (0 : Int) < j := hc
  exact mod_int' (by omega) (by rw [Int.fmod_eq_emod_of_nonneg i (by omega)]; exact q)
theorem op_modN : OpR X (binaryOp .Mod) (rI (fun _ j => j ≠ 0) fun i j => .int (i.fmod j)) := opI fun _ _ _ _ _ _ _ hc q => mod_int' hc q
theorem op_pow : OpR X (binaryOp .Pow) (rI CPow fun i j => .int (i ^ j.toNat)) := opI fun _ _ _ _ _ _ _ hc q => pow_int_small hc.1 hc.2.1 hc.2.2 q
theorem op_shl : OpR X (binaryOp .LShift) (rI CPow fun i j => .int (i * 2 ^ j.toNat)) := opI fun _ _ _ _ _ _ _ hc q => lshift_int_small hc.1 hc.2.1 hc.2.2 q
theorem op_shr : OpR X (binaryOp .RShift) (rI (fun _ j => 0 ≤ j) fun i j => .int (i / 2 ^ j.toNat)) := opI fun i j _ _ _ _ _ hc q =>
  rshift_int hc (by rw [Int.fdiv_eq_ediv_of_nonneg i (two_pow_nn _)]; exact q)
theorem op_and : OpR X (binaryOp .BitAnd) (rI0 fun i j => .int (Builtin.bitAnd i j)) := opI0 fun _ _ _ _ _ _ _ q => and_int q
theorem op_or : OpR X (binaryOp .BitOr) (rI0 fun i j => .int (Builtin.bitOr i j)) := opI0 fun _ _ _ _ _ _ _ q => or_int q
theorem op_xor : OpR X (binaryOp .BitXor) (rI0 fun i j => .int (Builtin.bitXor i j)) := opI0 fun _ _ _ _ _ _ _ q => xor_int q

theorem iop_add : OpR X (inplaceOp .Add) (rI0 fun i j => .int (i + j)) := opI0 fun _ _ _ _ _ _ _ q => iadd_int q
theorem iop_sub : OpR X (inplaceOp .Sub) (rI0 fun i j => .int (i - j)) := opI0 fun _ _ _ _ _ _ _ q => isub_int q
theorem iop_mul : OpR X (inplaceOp .Mult) (rI CMul fun i j => .int (i * j)) := opI fun _ _ _ _ _ _ _ hc q => imul_int q hc.ok
theorem iop_fdiv : OpR X (inplaceOp .FloorDiv) (rI CDiv fun i j => .int (i / j)) := opI fun i j _ _ _ _ _ hc q => by
  have h1 : (0 : Int) < j := hc.1
  have h2 : j < 1073741824 := hc.2
  exact ifloordiv_int (by omega) (by rw [Int.fdiv_eq_ediv_of_nonneg i (by omega)]; exact q) (.inl (PyProof.noPylong_small (by omega)))
theorem iop_mod : OpR X (inplaceOp .Mod) (rI (fun _ j => 0 < j) fun i j => .int (i % j)) := opI fun i j _ _ _ _ _ hc q => by
  have h1 : (0 : Int) < j := hc
  exact imod_int (by omega) (by rw [Int.fmod_eq_emod_of_nonneg i (by omega)]; exact q)
theorem iop_shl : OpR X (inplaceOp .LShift) (rI CPow fun i j => .int (i * 2 ^ j.toNat)) := opI fun _ _ _ _ _ _ _ hc q => ilshift_int_small hc.1 hc.2.1 hc.2.2 q
theorem iop_shr : OpR X (inplaceOp .RShift) (rI (fun _ j => 0 ≤ j) fun i j => .int (i / 2 ^ j.toNat)) := opI fun i j _ _ _ _ _ hc q =>
  irshift_int hc (by rw [Int.fdiv_eq_ediv_of_nonneg i (two_pow_nn _)]; exact q)
theorem iop_and : OpR X (inplaceOp .BitAnd) (rI0 fun i j => .int (Builtin.bitAnd i j)) := opI0 fun _ _ _ _ _ _ _ q => iand_int q
theorem iop_or : OpR X (inplaceOp .BitOr) (rI0 fun i j => .int (Builtin.bitOr i j)) := opI0 fun _ _ _ _ _ _ _ q => ior_int q
theorem iop_xor : OpR X (inplaceOp .BitXor) (rI0 fun i j => .int (Builtin.bitXor i j)) := opI0 fun _ _ _ _ _ _ _ q => ixor_int q

theorem unI {f : Value → Sem Value} {g : Int → Int}
    (rule : ∀ (i : Int) (t : Tok) (s : Shared) (Q : Value → Shared → Prop) (E : Value → Shared → Prop), Q (.int (g i) s.toks) { s with toks := s.toks + 1 } → wpAny (model X.prog X.w) X.A (f (.int i t)) Q E s) :
    UnR X f (rU fun i => .int (g i)) := by
  intro pins s σ H x v Q I rx h
  obtain ⟨i, rfl, q⟩ := h
  obtain ⟨t, rfl⟩ := rx
  exact rule i t s _ _ ⟨.int (g i), H, I.tok _, ⟨_, rfl⟩, q⟩
theorem un_neg : UnR X (unaryOp .USub) (rU fun i => .int (-i)) := unI fun _ _ _ _ _ q => neg_int q
theorem un_inv : UnR X (unaryOp .Invert) (rU fun i => .int (Builtin.bitNot i)) := unI fun _ _ _ _ _ q => invert_int q

/-! ### bools among ints: n += (a < b) -/
theorem op_add_ib : OpR X (binaryOp .Add) (fun x y H Q => ∃ i k, x = .int i ∧ y = .bl k ∧ Q (.int (i + b2i k)) H) := by
  intro pins s σ H x y v u Q I rx ry h
  obtain ⟨i, k, rfl, rfl, q⟩ := h
  obtain ⟨t, rfl⟩ := rx
  cases ry
  exact add_int_bool ⟨.int (i + b2i k), H, I.tok _, ⟨_, rfl⟩, q⟩
end

/-! ### comparisons -/
/-- the scalars that == tells apart as data does -/
def scal : V → V → Bool
  | .non, .non => true | .non, .int _ => true | .int _, .non => true | .non, .bl _ => true | .bl _, .non => true | .non, .str _ => true | .str _, .non => true
  | .int _, .int _ => true | .bl _, .bl _ => true | .str _, .str _ => true | .byt _, .byt _ => true
  | .int _, .str _ => true | .str _, .int _ => true | .bl _, .str _ => true | .str _, .bl _ => true
  | _, _ => false
def rEq : R2 := fun x y H Q => scal x y = true ∧ Q (.bl (decide (x = y))) H
def rNe : R2 := fun x y H Q => scal x y = true ∧ Q (.bl (!decide (x = y))) H

theorem dec_int {i j : Int} : decide (V.int i = V.int j) = (i == j) := by
  rw [Bool.eq_iff_iff]
  simp
theorem dec_bl {i j : Bool} : decide (V.bl i = V.bl j) = (i == j) := by
  rw [Bool.eq_iff_iff]
  simp
theorem dec_str {i j : Str} : decide (V.str i = V.str j) = (i == j) := by
  rw [Bool.eq_iff_iff]
  simp
theorem dec_byt {i j : Array UInt8} : decide (V.byt i = V.byt j) = (i.toList == j.toList) := by
  rw [Bool.eq_iff_iff]
  cases i
  cases j
  simp

section
variable {X : Cx} {a b c : Expr} {ta tb tc : TE} {pos : Pos}
theorem fin_bl {pins : List (Addr × Obj)} {σ : St} {H : Hp} {s : Shared} {Q : VK} {k k' : Bool} (I : Inv X pins σ H s) (q : Q (.bl k) H) (e : k = k') : EP X pins σ Q (.bool k') s := by
  subst e
  exact ⟨.bl k, H, I, rfl, q⟩
theorem op_eq : OpR X (compareOp .Eq) rEq := by
  intro pins s σ H x y v u Q I rx ry h
  obtain ⟨hs, q⟩ := h
  cases x with
  | non =>
    cases rx
    cases y with
    | non => cases ry; exact PySem.EqNone.eq_none_none (fin_bl I q (by simp))
    | bl j => cases ry; exact PySem.EqNone.eq_none_bool (fin_bl I q (by simp))
    | int j => obtain ⟨t', rfl⟩ := ry; exact PySem.EqNone.eq_none_int (fin_bl I q (by simp))
    | str j => obtain ⟨t', rfl⟩ := ry; exact PySem.EqNone.eq_none_str (fin_bl I q (by simp))
    | _ => exact absurd (show false = true from hs) Bool.false_ne_true
  | bl i =>
    cases rx
    cases y with
    | non => cases ry; exact PySem.EqNone.eq_bool_none (fin_bl I q (by simp))
    | bl j => cases ry; exact eq_bool (fin_bl I q dec_bl)
    | str j => obtain ⟨t', rfl⟩ := ry; exact PySem.EqMixed.eq_bool_str (fin_bl I q (by simp))
    | _ => exact absurd (show false = true from hs) Bool.false_ne_true
  | int i =>
    obtain ⟨t, rfl⟩ := rx
    cases y with
    | non => cases ry; exact PySem.EqNone.eq_int_none (fin_bl I q (by simp))
    | int j => obtain ⟨t', rfl⟩ := ry; exact eq_int (fin_bl I q dec_int)
    | str j => obtain ⟨t', rfl⟩ := ry; exact PySem.EqMixed.eq_int_str (fin_bl I q (by simp))
    | _ => exact absurd (show false = true from hs) Bool.false_ne_true
  | str i =>
    obtain ⟨t, rfl⟩ := rx
    cases y with
    | non => cases ry; exact PySem.EqNone.eq_str_none (fin_bl I q (by simp))
    | bl j => cases ry; exact PySem.EqMixed.eq_str_bool (fin_bl I q (by simp))
    | int j => obtain ⟨t', rfl⟩ := ry; exact PySem.EqMixed.eq_str_int (fin_bl I q (by simp))
    | str j => obtain ⟨t', rfl⟩ := ry; exact eq_str (fin_bl I q dec_str)
    | _ => exact absurd (show false = true from hs) Bool.false_ne_true
  | byt i =>
    obtain ⟨t, rfl⟩ := rx
    cases y with
    | byt j => obtain ⟨t', rfl⟩ := ry; exact PySem.W.eq_bytes (fin_bl I q dec_byt)
    | _ => exact absurd (show false = true from hs) Bool.false_ne_true
  | _ => cases y <;> exact absurd (show false = true from hs) Bool.false_ne_true
theorem op_ne : OpR X (compareOp .NotEq) rNe := by
  intro pins s σ H x y v u Q I rx ry h
  obtain ⟨hs, q⟩ := h
  cases x with
  | non =>
    cases rx
    cases y with
    | non => cases ry; exact PySem.EqNone.ne_none_none (fin_bl I q (by simp))
    | bl j => cases ry; exact PySem.EqNone.ne_none_bool (fin_bl I q (by simp))
    | int j => obtain ⟨t', rfl⟩ := ry; exact PySem.EqNone.ne_none_int (fin_bl I q (by simp))
    | str j => obtain ⟨t', rfl⟩ := ry; exact PySem.EqNone.ne_none_str (fin_bl I q (by simp))
    | _ => exact absurd (show false = true from hs) Bool.false_ne_true
  | bl i =>
    cases rx
    cases y with
    | non => cases ry; exact PySem.EqNone.ne_bool_none (fin_bl I q (by simp))
    | bl j => cases ry; exact ne_bool (fin_bl I q (congrArg not dec_bl))
    | str j => obtain ⟨t', rfl⟩ := ry; exact PySem.EqMixed.ne_bool_str (fin_bl I q (by simp))
    | _ => exact absurd (show false = true from hs) Bool.false_ne_true
  | int i =>
    obtain ⟨t, rfl⟩ := rx
    cases y with
    | non => cases ry; exact PySem.EqNone.ne_int_none (fin_bl I q (by simp))
    | int j => obtain ⟨t', rfl⟩ := ry; exact ne_int (fin_bl I q (congrArg not dec_int))
    | str j => obtain ⟨t', rfl⟩ := ry; exact PySem.EqMixed.ne_int_str (fin_bl I q (by simp))
    | _ => exact absurd (show false = true from hs) Bool.false_ne_true
  | str i =>
    obtain ⟨t, rfl⟩ := rx
    cases y with
    | non => cases ry; exact PySem.EqNone.ne_str_none (fin_bl I q (by simp))
    | bl j => cases ry; exact PySem.EqMixed.ne_str_bool (fin_bl I q (by simp))
    | int j => obtain ⟨t', rfl⟩ := ry; exact PySem.EqMixed.ne_str_int (fin_bl I q (by simp))
    | str j => obtain ⟨t', rfl⟩ := ry; exact ne_str (fin_bl I q (congrArg not dec_str))
    | _ => exact absurd (show false = true from hs) Bool.false_ne_true
  | byt i =>
    obtain ⟨t, rfl⟩ := rx
    cases y with
    | byt j => obtain ⟨t', rfl⟩ := ry; exact PySem.W.ne_bytes (fin_bl I q (congrArg not dec_byt))
    | _ => exact absurd (show false = true from hs) Bool.false_ne_true
  | _ => cases y <;> exact absurd (show false = true from hs) Bool.false_ne_true

theorem op_lt : OpR X (compareOp .Lt) (rI0 fun i j => .bl (decide (i < j))) := opB0 fun _ _ _ _ _ _ _ q => lt_int q
theorem op_le : OpR X (compareOp .LtE) (rI0 fun i j => .bl (decide (i ≤ j))) := opB0 fun _ _ _ _ _ _ _ q => le_int q
theorem op_gt : OpR X (compareOp .Gt) (rI0 fun i j => .bl (decide (j < i))) := opB0 fun _ _ _ _ _ _ _ q => gt_int q
theorem op_ge : OpR X (compareOp .GtE) (rI0 fun i j => .bl (decide (j ≤ i))) := opB0 fun _ _ _ _ _ _ _ q => ge_int q
theorem op_lt_str : OpR X (compareOp .Lt) (fun x y H Q => ∃ i j, x = .str i ∧ y = .str j ∧ Q (.bl (decide (i.cps.toList < j.cps.toList))) H) := by
  intro pins s σ H x y v u Q I rx ry h
  obtain ⟨i, j, rfl, rfl, q⟩ := h
  obtain ⟨t, rfl⟩ := rx
  obtain ⟨t', rfl⟩ := ry
  exact lt_str (fin_bl I q rfl)
/-- the one string within the other -/
theorem op_in_str : OpR X (compareOp .In) (fun x y H Q => ∃ i j, x = .str i ∧ y = .str j ∧ Q (.bl (!(Builtin.Str.occurrences j i 0 j.length 1).isEmpty)) H) := by
  intro pins s σ H x y v u Q I rx ry h
  obtain ⟨i, j, rfl, rfl, q⟩ := h
  obtain ⟨t, rfl⟩ := rx
  obtain ⟨t', rfl⟩ := ry
  exact in_str (fin_bl I q rfl)

/-- is None, is not None: the right side a value none -/
theorem op_isN : OpR X (compareOp .Is) (fun x y H Q => y = .non ∧ Q (.bl (decide (x = .non))) H) := by
  intro pins s σ H x y v u Q I rx ry h
  obtain ⟨rfl, q⟩ := h
  cases ry
  refine is_none_gen (fin_bl I q ?_)
  cases x <;> first
    | (cases rx; rfl)
    | (obtain ⟨t, rfl⟩ := rx; rfl)
theorem op_notN : OpR X (compareOp .IsNot) (fun x y H Q => y = .non ∧ Q (.bl (!decide (x = .non))) H) := by
  intro pins s σ H x y v u Q I rx ry h
  obtain ⟨rfl, q⟩ := h
  cases ry
  refine isnot_none_gen (fin_bl I q ?_)
  cases x <;> first
    | (cases rx; rfl)
    | (obtain ⟨t, rfl⟩ := rx; rfl)

theorem op_notin_str : OpR X (compareOp .NotIn) (fun x y H Q => ∃ i j, x = .str i ∧ y = .str j ∧ Q (.bl (!(!(Builtin.Str.occurrences j i 0 j.length 1).isEmpty))) H) := by
  intro pins s σ H x y v u Q I rx ry h
  obtain ⟨i, j, rfl, rfl, q⟩ := h
  obtain ⟨t, rfl⟩ := rx
  obtain ⟨t', rfl⟩ := ry
  exact notIn_str (fin_bl I q rfl)
/-- is, is not of two objects that are tracked lists or instances -/
def isObj : HO → Bool
  | .lst _ => true
  | .ins _ _ _ => true
  | _ => false
theorem obj_there {pins : List (Addr × Obj)} {s : Shared} {σ : St} {H : Hp} {a : Addr} {o : HO} (I : Inv X pins σ H s) (h : H a = some o) (p : isObj o = true) : ∃ ob, s.heap.get? a = some ob ∧ ob.cls ≠ .type "tuple" := by
  cases o with
  | lst xs =>
    obtain ⟨_, its, n, _, e⟩ : xs.length ≤ sizeLine ∧ ∃ (its : List Value) (n : Nat), Vals xs its ∧ s.heap.get? a = some { cls := .type "list", data := .seq its.toArray n } := I.hok a _ h
    exact ⟨_, e, (by show Value.type "list" ≠ .type "tuple"; decide +kernel)⟩
  | ins C dx fs =>
    have x := I.hok a _ h
    obtain ⟨_, _, _, e, _⟩ := x
    exact ⟨_, e, (by show Value.ref C ≠ .type "tuple"; exact fun z => by cases z)⟩
  | _ => exact absurd (show false = true from p) Bool.false_ne_true
theorem op_is_ref : OpR X (compareOp .Is) (fun x y H Q => ∃ a b oa ob, x = .ref a ∧ y = .ref b ∧ H a = some oa ∧ isObj oa = true ∧ H b = some ob ∧ isObj ob = true ∧ Q (.bl (decide (a = b))) H) := by
  intro pins s σ H x y v u Q I rx ry h
  obtain ⟨a, b, oa, ob, rfl, rfl, ha, pa, hb, pb, q⟩ := h
  cases rx
  cases ry
  obtain ⟨o1, e1, n1⟩ := obj_there I ha pa
  obtain ⟨o2, e2, _⟩ := obj_there I hb pb
  by_cases z : a = b
  · subst z
    exact wpAny_is_ref_self (fin_bl I q (by simp))
  · exact wpAny_is_ref_other z e1 e2 n1 (fin_bl I q (by simp [z]))
theorem op_isnot_ref : OpR X (compareOp .IsNot) (fun x y H Q => ∃ a b oa ob, x = .ref a ∧ y = .ref b ∧ H a = some oa ∧ isObj oa = true ∧ H b = some ob ∧ isObj ob = true ∧ Q (.bl (!decide (a = b))) H) := by
  intro pins s σ H x y v u Q I rx ry h
  obtain ⟨a, b, oa, ob, rfl, rfl, ha, pa, hb, pb, q⟩ := h
  cases rx
  cases ry
  obtain ⟨o1, e1, n1⟩ := obj_there I ha pa
  obtain ⟨o2, e2, _⟩ := obj_there I hb pb
  by_cases z : a = b
  · subst z
    exact wpAny_isNot_ref_self (fin_bl I q (by simp))
  · exact wpAny_isNot_ref_other z e1 e2 n1 (fin_bl I q (by simp [z]))

/-- two rules for one operation: by cases -/
theorem OpR.or {f : Value → Value → Sem Value} {r r' : R2} (h : OpR X f r) (h' : OpR X f r') : OpR X f (fun x y H Q => r x y H Q ∨ r' x y H Q) := by
  intro pins s σ H x y v u Q I rx ry q
  rcases q with q | q
  · exact h pins s σ H x y v u Q I rx ry q
  · exact h' pins s σ H x y v u Q I rx ry q

theorem nomark (b : Expr) {op : CmpOp} (h : op ≠ .In := by decide) (h2 : op ≠ .NotIn := by decide) : behindInMarks op b = false := by
  have e1 : (op == CmpOp.In) = false := by cases op <;> first | rfl | exact absurd rfl h
  have e2 : (op == CmpOp.NotIn) = false := by cases op <;> first | rfl | exact absurd rfl h2
  cases b <;> simp [behindInMarks, e1, e2]
/-- a comparison as a value; hm: nomark b, or (for in, not in) by with_unfolding_all rfl -/
theorem pe_cmpR {op : CmpOp} {r : R2} (ho : OpR X (compareOp op) r) (ha : PE X a ta) (hb : PE X b tb) (hm : behindInMarks op b = false) : PE X (.Compare a [op] [b] pos) (tOp r ta tb) := by
  intro pins s σ H Q I h
  exact wpAny_Compare1 (binT ha hb I h fun v u s2 x y H2 I2 rx ry q => ho pins s2 σ H2 x y v u Q I2 rx ry q) hm
/-- a reading of a value as a test -/
def tTest (t : TE) : TT := fun σ H Q => t σ H fun x H' => ∃ k, x = .bl k ∧ Q k H'
theorem pt_cmpR {op : CmpOp} {r : R2} (ho : OpR X (compareOp op) r) (ha : PE X a ta) (hb : PE X b tb) (hm : behindInMarks op b = false) : PT X (.Compare a [op] [b] pos) (tTest (tOp r ta tb)) := by
  intro pins s σ H Q I h
  refine wpAny_isTrue_Compare1 (thn (ha pins s σ H _ I h) fun v s1 ⟨x, H1, I1, r1, q1⟩ => thn (hb pins s1 σ H1 _ I1 q1) fun u s2 ⟨y, H2, I2, r2, q2⟩ =>
    thn (ho pins s2 σ H2 x y v u _ I2 r1 r2 q2) fun c s3 ⟨z, H3, I3, r3, k, e, q3⟩ => ?_) hm
  subst e
  cases r3
  exact wpAny_truthy_bool ⟨H3, I3, q3⟩
/-- a op1 b op2 c -/
def tChain (r r' : R2) (ta tb tc : TE) : TE := fun σ H Q => ta σ H fun x H1 => tb σ H1 fun y H2 => r x y H2 fun z H3 => ∃ k, z = .bl k ∧
  (if k = true then tc σ H3 fun w' H4 => r' y w' H4 Q else Q (.bl false) H3)
theorem pe_chain {op op' : CmpOp} {r r' : R2} (ho : OpR X (compareOp op) r) (ho' : OpR X (compareOp op') r') (ha : PE X a ta) (hb : PE X b tb) (hc : PE X c tc)
    (hm : lastMarks [op, op'] [b, c] = false := by with_unfolding_all rfl) : PE X (.Compare a [op, op'] [b, c] pos) (tChain r r' ta tb tc) := by
  intro pins s σ H Q I h
  refine Compare_chain (thn (ha pins s σ H _ I h) fun v s1 ⟨x, H1, I1, r1, q1⟩ => chain_link (thn (hb pins s1 σ H1 _ I1 q1) fun u s2 ⟨y, H2, I2, r2, q2⟩ =>
    thn (ho pins s2 σ H2 x y v u _ I2 r1 r2 q2) fun d s3 ⟨z, H3, I3, r3, k, e, q3⟩ => ?_)) hm
  subst e
  cases r3
  refine wpAny_truthy_bool ?_
  cases k with
  | false => exact ite_ff ⟨.bl false, H3, I3, rfl, q3⟩
  | true => exact ite_tt (chain_last (thn (hc pins s3 σ H3 _ I3 q3) fun w' s4 ⟨z', H4, I4, r4, q4⟩ => ho' pins s4 σ H4 y z' u w' Q I4 r2 r4 q4))
theorem pt_chain {op op' : CmpOp} {r r' : R2} (ho : OpR X (compareOp op) r) (ho' : OpR X (compareOp op') r') (ha : PE X a ta) (hb : PE X b tb) (hc : PE X c tc)
    (hm : lastMarks [op, op'] [b, c] = false := by with_unfolding_all rfl) : PT X (.Compare a [op, op'] [b, c] pos) (tTest (tChain r r' ta tb tc)) := by
  intro pins s σ H Q I h
  refine isTrue_chain (thn (ha pins s σ H _ I h) fun v s1 ⟨x, H1, I1, r1, q1⟩ => test_link (thn (hb pins s1 σ H1 _ I1 q1) fun u s2 ⟨y, H2, I2, r2, q2⟩ =>
    thn (ho pins s2 σ H2 x y v u _ I2 r1 r2 q2) fun d s3 ⟨z, H3, I3, r3, k, e, q3⟩ => ?_)) hm
  subst e
  cases r3
  refine wpAny_truthy_bool ?_
  cases k with
  | false =>
    obtain ⟨k', e', q'⟩ := q3
    cases e'
    exact ite_ff ⟨H3, I3, q'⟩
  | true =>
    refine ite_tt (test_last (thn (hc pins s3 σ H3 _ I3 q3) fun w' s4 ⟨z', H4, I4, r4, q4⟩ => thn (ho' pins s4 σ H4 y z' u w' _ I4 r2 r4 q4) fun d' s5 ⟨z2, H5, I5, r5, k2, e2, q5⟩ => ?_))
    subst e2
    cases r5
    exact wpAny_truthy_bool ⟨H5, I5, q5⟩

/-! ### truth -/
/-- a value's truth by the abstract heap -/
def TruV (K : PySem.W.Frag) (x : V) (H : Hp) (k : Bool) : Prop :=
  match x with
  | .non => k = false
  | .bl b => k = b
  | .int i => k = (i != 0)
  | .str y => y.length ≤ sizeLine ∧ k = ((y.length : Int) != 0)
  | .byt y => y.size ≤ sizeLine ∧ k = ((y.size : Int) != 0)
  | .ref p => (∃ xs, SqL K H p xs ∧ k = !xs.isEmpty) ∨ (∃ xs, SqT K H p xs ∧ k = !xs.isEmpty) ∨ ∃ kvs, H p = some (.dK kvs) ∧ k = !kvs.isEmpty
  | _ => False
theorem isEmpty_kv {κ : Type} {kvs : List (κ × V)} {vs : List (κ × Value)} (r : KV kvs vs) : (!vs.isEmpty) = !kvs.isEmpty := by
  cases r <;> rfl
theorem isEmpty_of {xs : List V} {its : List Value} (r : Vals xs its) : (!its.toArray.isEmpty) = !xs.isEmpty := by
  cases r <;> simp
theorem line63 : (sizeLine : Nat) < 2 ^ 63 := by rw [sizeLine_eq]; decide
theorem tru_ok : TruR X (fun x H Q => ∃ k, TruV X.K x H k ∧ Q k H) := by
  intro pins s σ H x v Q I rx h
  obtain ⟨k, e, q⟩ := h
  have hl := line63
  have hs : sizeLine = 16777216 := sizeLine_eq
  cases x with
  | non =>
    cases rx
    have e' : k = false := e
    subst e'
    exact truthy_none ⟨H, I, q⟩
  | bl b =>
    cases rx
    have e' : k = b := e
    subst e'
    exact wpAny_truthy_bool ⟨H, I, q⟩
  | int i =>
    obtain ⟨t, rfl⟩ := rx
    have e' : k = (i != 0) := e
    subst e'
    exact PySem.P.truthy_int ⟨H, I, q⟩
  | str y =>
    obtain ⟨t, rfl⟩ := rx
    obtain ⟨hy, e'⟩ : y.length ≤ sizeLine ∧ k = ((y.length : Int) != 0) := e
    subst e'
    exact PySem.P.truthy_str (by omega) ⟨H, I.tok _, q⟩
  | byt y =>
    obtain ⟨t, rfl⟩ := rx
    obtain ⟨hy, e'⟩ : y.size ≤ sizeLine ∧ k = ((y.size : Int) != 0) := e
    subst e'
    exact PySem.W.truthy_bytes (by omega) ⟨H, I.tok _, q⟩
  | ref p =>
    cases rx
    have e' : (∃ xs, SqL X.K H p xs ∧ k = !xs.isEmpty) ∨ (∃ xs, SqT X.K H p xs ∧ k = !xs.isEmpty) ∨ ∃ kvs, H p = some (.dK kvs) ∧ k = !kvs.isEmpty := e
    rcases e' with ⟨xs, hx, e'⟩ | ⟨xs, hx, e'⟩ | ⟨kvs, hx, e'⟩
    · subst e'
      obtain ⟨its, r, pl, hz⟩ := I.list hx
      have hlen := r.length
      exact wpAny_truthy_list pl.isList (by simp only [List.size_toArray]; omega) ⟨H, I.tok _, by rw [isEmpty_of r]; exact q⟩
    · subst e'
      obtain ⟨its, r, pl, hz⟩ := I.tuple hx
      have hlen := r.length
      exact truthy_tuple pl (by simp only [List.size_toArray]; omega) ⟨H, I.tok _, by rw [isEmpty_of r]; exact q⟩
    · subst e'
      obtain ⟨hz, hS, vs, r, m⟩ : kvs.length ≤ sizeLine ∧ (p == sysModules) = false ∧ ∃ vs, KV kvs vs ∧ s.heap.DictOf (mixKind X.prog X.w) p vs := I.hok p _ hx
      have hlen : kvs.length = vs.length := Paired.length r
      exact wpAny_truthy_dict hS m (by omega) ⟨H, I.tok _, by rw [isEmpty_kv r]; exact q⟩
  | _ => exact (show False from e).elim
/-- any expression whose test is its value's truth (a name, a call, a subscript, a field ..: he by fun _ => rfl) -/
theorem pt_truth (ha : PE X a ta) (he : ∀ whole, isTrue a X.env whole = (do let v ← whole; standAt a.pos; holding [v] (truthy v))) :
    PT X a (fun σ H Q => ta σ H fun x H' => ∃ k, TruV X.K x H' k ∧ Q k H') := by
  intro pins s σ H Q I h
  exact isTrue_plain (thn (ha pins s σ H _ I h) fun v s1 ⟨x, H1, I1, r1, q1⟩ => tru_ok pins s1 σ H1 x v Q I1 r1 q1) (he _)

/-! ### strs and bytes -/
theorem pe_byt {x : List UInt8} {k : Nat} : PE X (.Constant (.bytes x) k pos) (fun _ H Q => Q (.byt x.toArray) H) := fun _ _ _ H _ I h => PySem.W.Constant_bytes ⟨.byt x.toArray, H, I.tok _, ⟨_, rfl⟩, h⟩
theorem op_add_str : OpR X (binaryOp .Add) (fun x y H Q => ∃ i j, x = .str i ∧ y = .str j ∧ i.length + j.length ≤ sizeLine ∧ Q (.str (i ++ j)) H) := by
  intro pins s σ H x y v u Q I rx ry h
  obtain ⟨i, j, rfl, rfl, hz, q⟩ := h
  obtain ⟨t, rfl⟩ := rx
  obtain ⟨t', rfl⟩ := ry
  exact add_str (fun t' tk => ⟨.str (i ++ j), H, I.tok _, ⟨_, rfl⟩, q⟩) hz
theorem iop_add_str : OpR X (inplaceOp .Add) (fun x y H Q => ∃ i j, x = .str i ∧ y = .str j ∧ i.length + j.length ≤ sizeLine ∧ Q (.str (i ++ j)) H) := by
  intro pins s σ H x y v u Q I rx ry h
  obtain ⟨i, j, rfl, rfl, hz, q⟩ := h
  obtain ⟨t, rfl⟩ := rx
  obtain ⟨t', rfl⟩ := ry
  exact iadd_str (fun t' tk => ⟨.str (i ++ j), H, I.tok _, ⟨_, rfl⟩, q⟩) hz
theorem op_add_byt : OpR X (binaryOp .Add) (fun x y H Q => ∃ i j, x = .byt i ∧ y = .byt j ∧ i.size + j.size ≤ 16777216 ∧ Q (.byt (i ++ j)) H) := by
  intro pins s σ H x y v u Q I rx ry h
  obtain ⟨i, j, rfl, rfl, hz, q⟩ := h
  obtain ⟨t, rfl⟩ := rx
  obtain ⟨t', rfl⟩ := ry
  exact PySem.W.KBy.add_bytes hz (fun t' tk => ⟨.byt (i ++ j), H, I.tok _, ⟨_, rfl⟩, q⟩)

def PlainIxT (b : Expr) : Prop := ∀ o i, subscripted b false o i = operate [o, i] (getItem o i)
/-- s[i], 0 ≤ i < len -/
theorem pe_item_str (ha : PE X a ta) (hb : PE X b tb) (hs : PlainIxT b) :
    PE X (.Subscript a b pos) (tOp (fun x y H Q => ∃ z i c, x = .str z ∧ y = .int i ∧ 0 ≤ i ∧ i < 2 ^ 63 ∧ i < z.length ∧ z.cps[i.toNat]? = some c ∧ Q (.str ⟨#[c]⟩) H) ta tb) := by
  intro pins s σ H Q I h
  refine Subscript_ (binT ha hb I h fun v u s2 x y H2 I2 rx ry q => ?_)
  obtain ⟨z, i, c, rfl, rfl, h0, h63, h1, hc, q⟩ := q
  obtain ⟨t, rfl⟩ := rx
  obtain ⟨t', rfl⟩ := ry
  have e : seqIndex? i z.length = some i.toNat := PySem.StrLaws.seqIndex_nonneg h0 h1
  exact tail_any (typeIs_str s2 z t) slot_str_getitem.lookup (getItem_str (c := c) (by
    have e1 : decide (i < -(2 ^ 63 : Int)) = false := decide_eq_false (by omega)
    have e2 : decide (i ≥ 2 ^ 63) = false := decide_eq_false (by omega)
    rw [e1, e2] <;> rfl) (by rw [e]; exact hc) ⟨.str ⟨#[c]⟩, H2, I2.tok _, ⟨_, rfl⟩, q⟩) (hs _ _)
/-- b[i], 0 ≤ i < len -/
theorem pe_item_byt (ha : PE X a ta) (hb : PE X b tb) (hs : PlainIxT b) :
    PE X (.Subscript a b pos) (tOp (fun x y H Q => ∃ (z : List UInt8) (i : Int), x = .byt z.toArray ∧ y = .int i ∧ z.length ≤ sizeLine ∧ 0 ≤ i ∧ i < z.length ∧ Q (.int ((z.getD i.toNat 0).toNat : Nat)) H) ta tb) := by
  intro pins s σ H Q I h
  refine Subscript_ (binT ha hb I h fun v u s2 x y H2 I2 rx ry q => ?_)
  obtain ⟨z, i, rfl, rfl, hz, h0, h1, q⟩ := q
  obtain ⟨t, rfl⟩ := rx
  obtain ⟨t', rfl⟩ := ry
  have hl : sizeLine = 16777216 := sizeLine_eq
  exact tail_any (PySem.W.typeIs_bytes s2 z.toArray t) PySem.W.FB.slot_bytes_getitem.lookup (PySem.W.getItem_bytes (by omega) h0 h1 ⟨.int ((z.getD i.toNat 0).toNat : Nat), H2, I2.tok _, ⟨_, rfl⟩, q⟩) (hs _ _)

/-! ### scalar builtins, by CallR -/
theorem vals1 {x : V} {us : List Value} (r : Vals [x] us) : ∃ u, us = [u] ∧ RelV x u := by
  cases r with
  | cons r1 r2 => cases r2; exact ⟨_, rfl, r1⟩
theorem vals2 {x y : V} {us : List Value} (r : Vals [x, y] us) : ∃ u w', us = [u, w'] ∧ RelV x u ∧ RelV y w' := by
  cases r with
  | cons r1 r2 =>
    cases r2 with
    | cons r3 r4 => cases r4; exact ⟨_, _, rfl, r1, r3⟩
theorem call_abs : CallR X (.builtin "abs") (fun xs H Q => ∃ i, xs = [.int i] ∧ Q (.int (if i < 0 then -i else i)) H) := by
  intro pins s σ H xs us Q I r h
  obtain ⟨i, rfl, q⟩ := h
  obtain ⟨u, rfl, t, rfl⟩ := vals1 r
  exact call_abs_int fun u tk => ⟨.int (if i < 0 then -i else i), H, I.tok _, ⟨_, rfl⟩, q⟩
theorem call_max2 (hc : X.calm = true) : CallR X (.builtin "max") (fun xs H Q => ∃ i j, xs = [.int i, .int j] ∧ Q (.int (if j > i then j else i)) H) := by
  intro pins s σ H xs us Q I r h
  obtain ⟨i, j, rfl, q⟩ := h
  obtain ⟨u, w', rfl, ⟨t, rfl⟩, ⟨t', rfl⟩⟩ := vals2 r
  refine max_two_ints (I.ok.hd hc) fun h' tk k => ⟨_, H, I.kept k, ?_, q⟩
  by_cases hj : j > i
  · rw [if_pos hj, if_pos hj]; exact ⟨_, rfl⟩
  · rw [if_neg hj, if_neg hj]; exact ⟨_, rfl⟩
theorem call_min2 (hc : X.calm = true) : CallR X (.builtin "min") (fun xs H Q => ∃ i j, xs = [.int i, .int j] ∧ Q (.int (if j < i then j else i)) H) := by
  intro pins s σ H xs us Q I r h
  obtain ⟨i, j, rfl, q⟩ := h
  obtain ⟨u, w', rfl, ⟨t, rfl⟩, ⟨t', rfl⟩⟩ := vals2 r
  refine min_two_ints (I.ok.hd hc) fun h' tk k => ⟨_, H, I.kept k, ?_, q⟩
  by_cases hj : j < i
  · rw [if_pos hj, if_pos hj]; exact ⟨_, rfl⟩
  · rw [if_neg hj, if_neg hj]; exact ⟨_, rfl⟩
theorem call_int1 : CallR X (.type "int") (fun xs H Q => (∃ i, xs = [.int i] ∧ Q (.int i) H) ∨ ∃ k, xs = [.bl k] ∧ Q (.int (if k then 1 else 0)) H) := by
  intro pins s σ H xs us Q I r h
  rcases h with ⟨i, rfl, q⟩ | ⟨k, rfl, q⟩
  · obtain ⟨u, rfl, t, rfl⟩ := vals1 r
    exact call_int_int ⟨.int i, H, I, ⟨_, rfl⟩, q⟩
  · obtain ⟨u, rfl, r1⟩ := vals1 r
    cases r1
    exact call_int_bool ⟨.int (if k then 1 else 0), H, I.tok _, ⟨_, rfl⟩, q⟩
theorem call_bool1 : CallR X (.type "bool") (fun xs H Q => (∃ i, xs = [.int i] ∧ Q (.bl (i != 0)) H) ∨ ∃ k, xs = [.bl k] ∧ Q (.bl k) H) := by
  intro pins s σ H xs us Q I r h
  rcases h with ⟨i, rfl, q⟩ | ⟨k, rfl, q⟩
  · obtain ⟨u, rfl, t, rfl⟩ := vals1 r
    exact call_bool_int ⟨.bl (i != 0), H, I, rfl, q⟩
  · obtain ⟨u, rfl, r1⟩ := vals1 r
    cases r1
    exact call_bool_bool ⟨.bl k, H, I, rfl, q⟩
theorem call_str_int : CallR X (.type "str") (fun xs H Q => ∃ i, xs = [.int i] ∧ i.natAbs.log2 < 1920 ∧ Q (.str (toString i)) H) := by
  intro pins s σ H xs us Q I r h
  obtain ⟨i, rfl, hz, q⟩ := h
  obtain ⟨u, rfl, t, rfl⟩ := vals1 r
  exact PySem.P.str_of_int hz ⟨.str _, H, I.tok _, ⟨_, rfl⟩, q⟩
theorem call_ord : CallR X (.builtin "ord") (fun xs H Q => ∃ x, xs = [.str x] ∧ x.length = 1 ∧ Q (.int (x.cps.getD 0 0 : Nat)) H) := by
  intro pins s σ H xs us Q I r h
  obtain ⟨x, rfl, hz, q⟩ := h
  obtain ⟨u, rfl, t, rfl⟩ := vals1 r
  exact ord_of_one hz ⟨.int _, H, I.tok _, ⟨_, rfl⟩, q⟩
theorem call_chr : CallR X (.builtin "chr") (fun xs H Q => ∃ i, xs = [.int i] ∧ 0 ≤ i ∧ i ≤ 1114111 ∧ Q (.str ⟨#[i.toNat]⟩) H) := by
  intro pins s σ H xs us Q I r h
  obtain ⟨i, rfl, h0, h1, q⟩ := h
  obtain ⟨u, rfl, t, rfl⟩ := vals1 r
  exact chr_of_range h0 h1 ⟨.str _, H, I.tok _, ⟨_, rfl⟩, q⟩
/-- len of a str, a bytes, a list, a tuple -/
def LenV (K : PySem.W.Frag) (x : V) (H : Hp) (n : Nat) : Prop :=
  match x with
  | .str y => y.length ≤ sizeLine ∧ n = y.length
  | .byt y => y.size ≤ sizeLine ∧ n = y.size
  | .ref p => (∃ xs, SqL K H p xs ∧ n = xs.length) ∨ ∃ xs, SqT K H p xs ∧ n = xs.length
  | _ => False
theorem call_len : CallR X (.builtin "len") (fun xs H Q => ∃ x n, xs = [x] ∧ LenV X.K x H n ∧ Q (.int n) H) := by
  intro pins s σ H xs us Q I r h
  obtain ⟨x, n, rfl, e, q⟩ := h
  obtain ⟨u, rfl, rx⟩ := vals1 r
  have hl := line63
  have hs : sizeLine = 16777216 := sizeLine_eq
  cases x with
  | str y =>
    obtain ⟨t, rfl⟩ := rx
    obtain ⟨hy, e'⟩ : y.length ≤ sizeLine ∧ n = y.length := e
    subst e'
    exact len_str (by omega) ⟨.int _, H, I.tok _, ⟨_, rfl⟩, q⟩
  | byt y =>
    obtain ⟨t, rfl⟩ := rx
    obtain ⟨hy, e'⟩ : y.size ≤ sizeLine ∧ n = y.size := e
    subst e'
    exact PySem.W.len_bytes (by omega) ⟨.int _, H, I.tok _, ⟨_, rfl⟩, q⟩
  | ref p =>
    cases rx
    have e' : (∃ xs, SqL X.K H p xs ∧ n = xs.length) ∨ ∃ xs, SqT X.K H p xs ∧ n = xs.length := e
    rcases e' with ⟨xs, hx, e'⟩ | ⟨xs, hx, e'⟩
    · subst e'
      obtain ⟨its, r', pl, hz⟩ := I.list hx
      have hlen := r'.length
      exact Calls.call_len_list pl.isList (by simp only [List.size_toArray]; omega) ⟨.int xs.length, H, I.tok _, ⟨_, by simp only [List.size_toArray]; rw [hlen]⟩, q⟩
    · subst e'
      obtain ⟨its, r', pl, hz⟩ := I.tuple hx
      have hlen := r'.length
      exact len_tuple pl (by simp only [List.size_toArray]; omega) ⟨.int xs.length, H, I.tok _, ⟨_, by simp only [List.size_toArray]; rw [hlen]⟩, q⟩
  | _ => exact (show False from e).elim
/-- divmod: a new tuple -/
theorem call_divmod : CallR X (.builtin "divmod") (fun xs H Q => ∃ i j, xs = [.int i, .int j] ∧ CDiv i j ∧ ∀ p, H p = none → Q (.ref p) (upd H p (.tup [.int (i / j), .int (i % j)]))) := by
  intro pins s σ H xs us Q I r h
  obtain ⟨i, j, rfl, ⟨h1, h2⟩, q⟩ := h
  obtain ⟨u, w', rfl, ⟨t, rfl⟩, ⟨t', rfl⟩⟩ := vals2 r
  refine divmod_int (by omega) ?_ (.inl (PyProof.noPylong_small (by omega)))
  rw [Int.fdiv_eq_ediv_of_nonneg i (by omega), Int.fmod_eq_emod_of_nonneg i (by omega)]
  have hn : H s.heap.objs.size = none := I.hok.fresh (Nat.le_refl _)
  refine ⟨.ref s.heap.objs.size, _, ?_, rfl, q _ hn⟩
  refine I.laid (fun b o e => Heap.get?_push_of_some _ e) (Nat.le_refl _) ⟨by simp only [List.length_cons, List.length_nil]; rw [sizeLine_eq]; decide, [.int (i / j) s.toks, .int (i % j) (s.toks + 1)], .cons ⟨_, rfl⟩ (.cons ⟨_, rfl⟩ .nil), ?_⟩
  exact ⟨_, Heap.get?_push_size s.heap rfl, rfl, 0, rfl⟩
end
end L2

namespace L2
open PySem PySem.Spec PyProof.Rows

/-! ### an instance, its attributes a map -/
structure ObjM (h : Heap) (x dx C : Addr) (mA : Str → Option Value) : Prop where
  obj : h.get? x = some (PySem.W.instObj C dx)
  ns : h.Ns1 dx mA
  ne : dx ≠ x

theorem lookIn_ns {h : Heap} {dx : Addr} {mA : Str → Option Value} (n : h.Ns1 dx mA) : ∃ od, h.get? dx = some od ∧ ∀ name, PySem.W.lookIn name od = some (mA name) := by
  obtain ⟨o, es, ep, ho, hd, hk, _, hm⟩ := n
  refine ⟨o, ho, fun name => ?_⟩
  have e := hm name
  unfold nsFind findBy at e
  rw [← Array.find?_toList] at e
  unfold PySem.W.lookIn
  rw [hd]
  dsimp only
  split
  · rename_i y q
    rw [q] at e
    exact congrArg some e
  · rename_i q
    rw [q] at e
    have a : es.toList.any (·.refKey) = false := by
      rw [List.any_eq_false]
      intro y hy
      obtain ⟨z, t, hkey⟩ := hk y (Array.mem_toList_iff.mp hy)
      simp [DictEntry.refKey, hkey]
    have a' : ¬ es.toList.any (·.refKey) = true := by rw [a]; exact Bool.false_ne_true
    rw [if_neg a']
    exact congrArg some e

theorem ObjM.look {h : Heap} {x dx C : Addr} {mA : Str → Option Value} (I : ObjM h x dx C mA) : ∃ od, PySem.W.InstAt h x (PySem.W.instObj C dx) C (some od) ∧ ∀ name, PySem.W.lookIn name od = some (mA name) :=
  let ⟨od, ho, hl⟩ := lookIn_ns I.ns
  ⟨od, ⟨I.obj, rfl, rfl, ho⟩, hl⟩

section
variable {prog : Program} {w : World} {A : Around} {E : Value → Shared → Prop} {s : Shared} {K : PySem.W.Frag} {x dx C f : Addr} {mA : Str → Option Value} {name : Str} {v : Value}

theorem get_map {expr : Bool} {Q : Value → Shared → Prop} (X : K.In s.heap) (I : ObjM s.heap x dx C mA) (hg : PySem.W.plainGet K C name = true) (hh : PySem.W.hasDictIn K C = true)
    (ha : PySem.W.findIn K (.ref C) name = some none) (hv : mA name = some v) (hv' : PySem.W.handedIn v = true) (h : Q v { s with toks := s.toks + 1 }) :
    wpAny (model prog w) A (getAttr (.ref x) name expr) Q E s := by
  obtain ⟨od, J, hl⟩ := I.look
  exact PySem.W.get_value X J (PySem.W.plainGet_of hg).1 (PySem.W.findObj_own hh ha rfl (by rw [hl, hv])) hv' h

theorem get_const {expr : Bool} {a : Value} {Q : Value → Shared → Prop} (X : K.In s.heap) (I : ObjM s.heap x dx C mA) (hg : PySem.W.plainGet K C name = true) (hh : PySem.W.hasDictIn K C = true)
    (ha : PySem.W.findIn K (.ref C) name = some (some a)) (hn : PySem.W.specialIn K a "__get__" = some none) (hc : PySem.W.copiedNames.contains name = false) (hv : mA name = none) (hv' : PySem.W.handedIn a = true)
    (h : Q a { s with toks := s.toks + 1 }) : wpAny (model prog w) A (getAttr (.ref x) name expr) Q E s := by
  obtain ⟨od, J, hl⟩ := I.look
  exact PySem.W.get_value X J (PySem.W.plainGet_of hg).1 (PySem.W.findObj_cls hh ha hn hv' hc (by rw [hl, hv])) hv' h

theorem get_meth {pl : Sem Bool} {Q : Value × List Value → Shared → Prop} (X : K.In s.heap) (I : ObjM s.heap x dx C mA) (hg : PySem.W.plainGet K C name = true)
    (hf : PySem.W.findIn K (.ref C) name = some (some (.ref f))) (ht : PySem.W.isFn K (.ref f) = true) (hv : mA name = none) (h : Q (.ref f, [.ref x]) s) :
    wpAny (model prog w) A (getMethod (.ref x) name pl) Q E s := by
  obtain ⟨od, J, hl⟩ := I.look
  exact PySem.W.method_fn X J (PySem.W.plainGet_of hg).1 (PySem.W.plainGet_of hg).2 hf (beq_iff_eq.mp ht) (by show (PySem.W.lookIn name od).map (·.isSome) = some false; rw [hl, hv]; rfl) h

theorem set_map {ns : List Str} {Q : Unit → Shared → Prop} (X : K.In s.heap) (I : ObjM s.heap x dx C mA)
    (hs : PySem.W.findIn K (.ref C) "__setattr__" = some (some (.builtin "object.__setattr__"))) (hp : PySem.W.plainOver K C = true) (ht : PySem.W.takerIn K C name = some none) (hh : PySem.W.hasDictIn K C = true)
    (hw : PySem.Within mA ns) (hsz : ns.length ≤ sizeLine)
    (h : ∀ h', ObjM h' x dx C (fun y => if y = name then some v else mA y) → Heap.SameBut dx s.heap h' → Q () { s with heap := h', toks := s.toks + 2 }) :
    wpAny (model prog w) A (setAttr (.ref x) name v) Q E s := by
  obtain ⟨od, J, hl⟩ := I.look
  refine PySem.W.set_plain X J hs (PySem.W.osa_open (s := { s with toks := s.toks + 1 }) (r := none) X J hp ht fun b => ?_)
  obtain ⟨cd, hc, hd'⟩ := PySem.W.any_some hh
  have hx : s.heap.get? x = some ⟨.ref C, some dx, .plain, #[]⟩ := I.obj
  refine wpAny_bind (wpAny_pure (wpAny_bind (wpAny_bind (wpAny_loadPart hx (wpAny_bind (PySem.W.Looks.here (s := { s with toks := s.toks + 1 }) (PySem.W.looks_clsIn X hc) ?_))))))
  rw [hd']
  refine wpAny_pure (a := some dx) (wpAny_bind (wpAny_pure (wpAny_bind ?_)))
  refine wpAny_nsSet1 (s := { s with toks := s.toks + 1 }) I.ns fun h' hn2 hs2 => ?_
  obtain ⟨oD, esD, epD, hoD, hdD, hcD⟩ := hn2.count (PySem.Within.cons name v hw)
  refine wpAny_bind (wpAny_lookBehind hoD (by rw [hdD]; exact pastItsLine_dict (Nat.le_trans hcD (by rw [List.length_cons]; omega))) ?_)
  exact wpAny_pure (h _ ⟨(hs2.2 _ (Ne.symm I.ne)).trans I.obj, hn2, I.ne⟩ hs2)

/-- C(..): the dict at the heap's end, the instance behind it; then its __init__ -/
theorem make_map {R : Result → Shared → Prop} {vs : List Value} {kw : List (Str × Value)} (X : K.In s.heap) (hm : PySem.W.makesIn K C = true)
    (hi : PySem.W.findIn K (.ref C) "__init__" = some (some (.ref f))) (hf : PySem.W.typeIn K (.ref f) = some (.type "function"))
    (h : codeAny (model prog w) (A.under (.builtin "type.__call__" ⟨.ref C :: vs, kw⟩)) (.call (.ref f) ⟨.ref (s.heap.objs.size + 1) :: vs, kw⟩) (PySem.W.InitBack (s.heap.objs.size + 1) R)
      { s with heap := (s.heap.push PySem.W.emptyDict).push (PySem.W.instObj C s.heap.objs.size) }) :
    codeAny (model prog w) A (.call (.ref C) ⟨vs, kw⟩) R s := by
  obtain ⟨hh, g, d, t, os⟩ := s
  exact PySem.W.make_core (PySem.W.makes_of X hm) (PySem.W.looks_findIn X hi) (fun self => PySem.W.bind_fn X self hf) (.inl rfl) h
/-- C() where there is no __init__ but object's -/
theorem make_map0 {R : Result → Shared → Prop} (X : K.In s.heap) (hm : PySem.W.makesIn K C = true)
    (hi : PySem.W.findIn K (.ref C) "__init__" = some (some (.builtin "object.__init__")))
    (hb : ∀ self, PySem.W.Looks (model prog w) s.heap (bindSpecial (.builtin "object.__init__") self) (.builtin "object.__init__", [self]))
    (h : codeAny (model prog w) (A.under (.builtin "type.__call__" ⟨[.ref C], []⟩)) (.call (.builtin "object.__init__") ⟨[.ref (s.heap.objs.size + 1)], []⟩) (PySem.W.InitBack (s.heap.objs.size + 1) R)
      { s with heap := (s.heap.push PySem.W.emptyDict).push (PySem.W.instObj C s.heap.objs.size) }) :
    codeAny (model prog w) A (.call (.ref C) ⟨[], []⟩) R s := by
  obtain ⟨hh, g, d, t, os⟩ := s
  exact PySem.W.make_core (PySem.W.makes_of X hm) (PySem.W.looks_findIn X hi) hb (.inr ⟨rfl, rfl⟩) h
end

/-! ### the attributes as a list of pairs -/
def putF (f : Str) (v : V) : List (Str × V) → List (Str × V)
  | [] => [(f, v)]
  | (g, x) :: r => if g = f then (g, v) :: r else (g, x) :: putF f v r
theorem lookup_putF (f g : Str) (v : V) : ∀ fs : List (Str × V), (putF f v fs).lookup g = if g = f then some v else fs.lookup g
  | [] => by
    show List.lookup g [(f, v)] = _
    by_cases h : g = f
    · have hb : (g == f) = true := beq_iff_eq.mpr h
      simp only [List.lookup, hb, if_pos h]
    · have hb : (g == f) = false := beq_eq_false_iff_ne.mpr h
      simp only [List.lookup, hb, if_neg h]
  | (k, x) :: r => by
    have ih := lookup_putF f g v r
    rw [show putF f v ((k, x) :: r) = (if k = f then (k, v) :: r else (k, x) :: putF f v r) from rfl]
    by_cases hk : k = f
    · rw [if_pos hk]
      by_cases h : g = k
      · have hb : (g == k) = true := beq_iff_eq.mpr h
        simp only [List.lookup, hb, if_pos (h.trans hk)]
      · have hb : (g == k) = false := beq_eq_false_iff_ne.mpr h
        simp only [List.lookup, hb, if_neg (fun e : g = f => h (e.trans hk.symm))]
    · rw [if_neg hk]
      by_cases h : g = k
      · have hb : (g == k) = true := beq_iff_eq.mpr h
        simp only [List.lookup, hb, if_neg (fun e : g = f => hk (h.symm.trans e))]
      · have hb : (g == k) = false := beq_eq_false_iff_ne.mpr h
        simp only [List.lookup, hb]
        exact ih
theorem keys_putF (f : Str) (v : V) : ∀ fs : List (Str × V), f ∈ (putF f v fs).map (·.1) ∧ ∀ g, g ∈ fs.map (·.1) → g ∈ (putF f v fs).map (·.1)
  | [] => ⟨by simp [putF], fun g h => by simp at h⟩
  | (k, x) :: r => by
    obtain ⟨i1, i2⟩ := keys_putF f v r
    rw [show putF f v ((k, x) :: r) = (if k = f then (k, v) :: r else (k, x) :: putF f v r) from rfl]
    by_cases hk : k = f
    · rw [if_pos hk]
      subst hk
      exact ⟨by simp, fun g h => by simpa using h⟩
    · rw [if_neg hk]
      refine ⟨?_, fun g h => ?_⟩
      · rw [List.map_cons]
        exact List.mem_cons_of_mem _ i1
      · rw [List.map_cons] at h ⊢
        rcases List.mem_cons.mp h with e | e
        · exact List.mem_cons.mpr (.inl e)
        · exact List.mem_cons_of_mem _ (i2 g e)
theorem length_putF (f : Str) (v : V) : ∀ fs : List (Str × V), (putF f v fs).length ≤ fs.length + 1
  | [] => by simp [putF]
  | (k, x) :: r => by
    have ih := length_putF f v r
    rw [show putF f v ((k, x) :: r) = (if k = f then (k, v) :: r else (k, x) :: putF f v r) from rfl]
    by_cases hk : k = f
    · rw [if_pos hk, List.length_cons, List.length_cons]; omega
    · rw [if_neg hk, List.length_cons, List.length_cons]; omega

theorem RelO.some_of {v : V} {o : Option Value} (r : RelO (some v) o) : ∃ u, o = some u ∧ RelV v u := by
  cases o with
  | none => exact (show False from r).elim
  | some u => exact ⟨u, rfl, r⟩
theorem RelO.none_of {o : Option Value} (r : RelO none o) : o = none := by
  cases o with
  | none => rfl
  | some u => exact (show False from r).elim
theorem handed_of {v : V} {u : Value} (r : RelV v u) : PySem.W.handedIn u = true := by
  cases v with
  | non => cases (show u = Value.none from r); rfl
  | bl b => cases (show u = Value.bool b from r); rfl
  | int i => obtain ⟨t, e⟩ := (show ∃ t, u = Value.int i t from r); cases e; rfl
  | str x => obtain ⟨t, e⟩ := (show ∃ t, u = Value.str x t from r); cases e; rfl
  | byt b => obtain ⟨t, e⟩ := (show ∃ t, u = Value.bytes b t from r); cases e; rfl
  | flt b => obtain ⟨t, e⟩ := (show ∃ t, u = Value.float b t from r); cases e; rfl
  | ref a => cases (show u = Value.ref a from r); rfl
  | ty n => cases (show u = Value.type n from r); rfl

section
variable {P : Program} {w : World} {H H' : Hp} {h h' : Heap} {a C dx : Addr} {fs fs' : List (Str × V)}
theorem ins_get (hok : HOk P w H h) (e : H a = some (.ins C dx fs)) : ∃ mA, ObjM h a dx C mA ∧ (∀ f, RelO (fs.lookup f) (mA f)) ∧ PySem.Within mA (fs.map (·.1)) ∧ fs.length ≤ 1000 ∧ H dx = some (.own a) := by
  obtain ⟨d, z, ne, ob, mA, n, r, q⟩ := (show ObjOk P w H h a (.ins C dx fs) from hok a _ e)
  exact ⟨mA, ⟨ob, n, ne⟩, r, q, z, d⟩
end

/-! ### what of the text a class must have -/
structure Cls (K : PySem.W.Frag) (C : Addr) : Prop where
  pg : PySem.W.plainGet K C Str.empty = true
  hd : PySem.W.hasDictIn K C = true
  po : PySem.W.plainOver K C = true
  sa : PySem.W.findIn K (.ref C) "__setattr__" = some (some (.builtin "object.__setattr__"))
theorem Cls.get {K : PySem.W.Frag} {C : Addr} (c : Cls K C) (f : Str) : PySem.W.plainGet K C f = true := c.pg
/-- no class of it has the name -/
def NoAttr (K : PySem.W.Frag) (C : Addr) (f : Str) : Prop := PySem.W.findIn K (.ref C) f = some none
theorem NoAttr.taker {K : PySem.W.Frag} {C : Addr} {f : Str} (n : NoAttr K C f) : PySem.W.takerIn K C f = some none := by
  unfold PySem.W.takerIn
  rw [show PySem.W.findIn K (.ref C) f = some none from n]
  rfl
/-- a constant of the class -/
structure Con (K : PySem.W.Frag) (C : Addr) (f : Str) (v : V) (u : Value) : Prop where
  at_ : PySem.W.findIn K (.ref C) f = some (some u)
  rel : RelV v u
  get : PySem.W.specialIn K u "__get__" = some none
  cp : PySem.W.copiedNames.contains f = false
/-- a method: a plain def of the class or of one above it -/
structure Meth (K : PySem.W.Frag) (C : Addr) (m : Str) (f : Addr) : Prop where
  at_ : PySem.W.findIn K (.ref C) m = some (some (.ref f))
  fn : PySem.W.isFn K (.ref f) = true
  kp : PySem.W.keepIn K (.ref f) = true

section
variable {X : Cx} {pins : List (Addr × Obj)} {σ : St} {H : Hp} {s : Shared} {a C dx : Addr} {fs : List (Str × V)} {f : Str} {v : V} {A : Around} {E : Value → Shared → Prop}

theorem getattr_ok {b : Bool} {Q : Value → Shared → Prop} (I : Inv X pins σ H s) (e : H a = some (.ins C dx fs)) (c : Cls X.K C) (n : NoAttr X.K C f) (l : fs.lookup f = some v)
    (h : ∀ u s', Inv X pins σ H s' → RelV v u → Q u s') : wpAny (model X.prog X.w) A (getAttr (.ref a) f b) Q E s := by
  obtain ⟨mA, O, r, _, _, _⟩ := ins_get I.hok e
  obtain ⟨u, hu, ru⟩ := RelO.some_of (v := v) (o := mA f) (by rw [← l]; exact r f)
  exact get_map I.kIn O (c.get f) c.hd n hu (handed_of ru) (h u _ (I.tok _) ru)

theorem getcon_ok {b : Bool} {u : Value} {Q : Value → Shared → Prop} (I : Inv X pins σ H s) (e : H a = some (.ins C dx fs)) (c : Cls X.K C) (k : Con X.K C f v u) (l : fs.lookup f = none)
    (h : ∀ s', Inv X pins σ H s' → Q u s') : wpAny (model X.prog X.w) A (getAttr (.ref a) f b) Q E s := by
  obtain ⟨mA, O, r, _, _, _⟩ := ins_get I.hok e
  have hn : mA f = none := RelO.none_of (by rw [← l]; exact r f)
  exact get_const I.kIn O (c.get f) c.hd k.at_ k.get k.cp hn (handed_of k.rel) (h _ (I.tok _))

theorem getmeth_ok {m : Str} {g : Addr} {pl : Sem Bool} {Q : Value × List Value → Shared → Prop} (I : Inv X pins σ H s) (e : H a = some (.ins C dx fs)) (c : Cls X.K C) (k : Meth X.K C m g) (l : fs.lookup m = none)
    (h : Q (.ref g, [.ref a]) s) : wpAny (model X.prog X.w) A (getMethod (.ref a) m pl) Q E s := by
  obtain ⟨mA, O, r, _, _, _⟩ := ins_get I.hok e
  have hn : mA m = none := RelO.none_of (by rw [← l]; exact r m)
  exact get_meth I.kIn O (c.get m) k.at_ k.fn hn h

theorem setattr_ok {y : V} {u : Value} {Q : Unit → Shared → Prop} (I : Inv X pins σ H s) (e : H a = some (.ins C dx fs)) (c : Cls X.K C) (n : NoAttr X.K C f) (hl : fs.length < 1000) (ry : RelV y u)
    (h : ∀ s', Inv X pins σ (upd H a (.ins C dx (putF f y fs))) s' → Q () s') : wpAny (model X.prog X.w) A (setAttr (.ref a) f u) Q E s := by
  obtain ⟨mA, O, r, wi, _, ho⟩ := ins_get I.hok e
  have hz : (fs.map (·.1)).length ≤ sizeLine := by rw [List.length_map, sizeLine_eq]; omega
  refine set_map I.kIn O c.sa c.po n.taker c.hd wi hz fun h' O' sb => h _ ?_
  have hd : ∃ o, h'.get? dx = some o := let ⟨o, _, _, e', _⟩ := O'.ns; ⟨o, e'⟩
  refine I.write (x := a) (e := dx) (by rw [e]; exact True.intro) (.inr ho) (fun b q hb z => (sb.2 b hb).trans z) hd ?_
  refine ⟨by rw [upd_ne O.ne]; exact ho, ?_, O.ne, O'.obj, _, O'.ns, fun g => ?_, fun g hg => ?_⟩
  · have := length_putF f y fs; omega
  · show RelO ((putF f y fs).lookup g) (if g = f then some u else mA g)
    rw [lookup_putF]
    by_cases q : g = f
    · rw [if_pos q, if_pos q]; exact ry
    · rw [if_neg q, if_neg q]; exact r g
  · by_cases q : g = f
    · rw [q]; exact (keys_putF f y fs).1
    · refine (keys_putF f y fs).2 g (wi g fun z => hg ?_)
      show (if g = f then some u else mA g) = none
      rw [if_neg q]; exact z

/-- a new instance, tracked, without attributes -/
theorem Inv.made (I : Inv X pins σ H s) : Inv X pins σ (upd (upd H s.heap.objs.size (.own (s.heap.objs.size + 1))) (s.heap.objs.size + 1) (.ins C s.heap.objs.size []))
    { s with heap := (s.heap.push PySem.W.emptyDict).push (PySem.W.instObj C s.heap.objs.size) } := by
  have e1 : (s.heap.push PySem.W.emptyDict).get? s.heap.objs.size = some PySem.W.emptyDict := Heap.get?_push_size s.heap rfl
  have e2 : ((s.heap.push PySem.W.emptyDict).push (PySem.W.instObj C s.heap.objs.size)).get? (s.heap.objs.size + 1) = some (PySem.W.instObj C s.heap.objs.size) := by
    have := Heap.get?_push_size (s.heap.push PySem.W.emptyDict) (o := PySem.W.instObj C s.heap.objs.size) rfl
    rwa [Heap.size_push] at this
  have e3 : (s.heap.push PySem.W.emptyDict).Ns s.heap.objs.size (fun _ => none) := ⟨PySem.W.emptyDict, #[], _, e1, rfl, (fun e he => absurd he (by simp)), fun _ => rfl⟩
  have I1 := I.laid (a := s.heap.objs.size) (o := .own (s.heap.objs.size + 1)) (h' := s.heap.push PySem.W.emptyDict) (t' := s.toks) (fun b u q => Heap.get?_push_of_some _ q) (Nat.le_refl _) ⟨_, e1⟩
  refine I1.laid (a := s.heap.objs.size + 1) (o := .ins C s.heap.objs.size []) (t' := s.toks) (fun b u q => Heap.get?_push_of_some _ q) (Nat.le_of_eq (Heap.size_push _ _)) ?_
  have ne : s.heap.objs.size ≠ s.heap.objs.size + 1 := Nat.ne_of_lt (Nat.lt_succ_self _)
  refine ⟨by rw [upd_ne ne, upd_same], Nat.zero_le _, ne, e2, fun _ => none, (Heap.Ns1.of_empty e3).at fun o q => Heap.get?_push_of_some _ q, fun _ => True.intro, fun y hy => absurd rfl hy⟩

/-- e.f where nothing but the object is asked: through attributeBase (super) and the last hold -/
theorem attr_of {prog : Program} {w : World} {env : Env} {e : Expr} {f : Str} {pos : Pos} {s : Shared} {Q : Value → Shared → Prop} (hb : attributeBase e f env (eval e env) = eval e env)
    (h : wpAny (model prog w) A (eval e env) (fun o s₁ => wpAny (model prog w) A (getAttr o f true) Q E s₁) E s) : wpAny (model prog w) A (eval (.Attribute e f pos) env) Q E s :=
  Attribute_any_ h (by rw [arm_eval_Attribute, hb])
end

/-! ### readings and rules -/
/-- e.f, an attribute of the instance -/
def tFld (K : PySem.W.Frag) (ta : TE) (f : Str) : TE := fun σ H Q => ta σ H fun x H1 => ∃ a C dx fs v, x = .ref a ∧ H1 a = some (.ins C dx fs) ∧ Cls K C ∧ NoAttr K C f ∧ fs.lookup f = some v ∧ Q v H1
/-- e.f, a constant of the class -/
def tCon (K : PySem.W.Frag) (ta : TE) (f : Str) : TE := fun σ H Q => ta σ H fun x H1 => ∃ a C dx fs v u, x = .ref a ∧ H1 a = some (.ins C dx fs) ∧ Cls K C ∧ Con K C f v u ∧ fs.lookup f = none ∧ Q v H1
/-- e.f = value -/
def sFld (K : PySem.W.Frag) (ta tv : TE) (f : Str) : TS := fun D σ H => tv σ H fun y H1 => ta σ H1 fun x H2 => ∃ a C dx fs, x = .ref a ∧ H2 a = some (.ins C dx fs) ∧ Cls K C ∧ NoAttr K C f ∧ fs.length < 1000 ∧
  D.nx σ (upd H2 a (.ins C dx (putF f y fs)))
/-- an augmented operator on two values -/
def InOp (X : Cx) (op : Operator) (rd : V → V → Hp → VK → Prop) : Prop :=
  ∀ (pins : List (Addr × Obj)) (s : Shared) (σ : St) (H : Hp) (x y : V) (u v : Value) (Q : VK), Inv X pins σ H s → RelV x u → RelV y v → rd x y H Q → wpAny (model X.prog X.w) X.A (inplaceOp op u v) (EP X pins σ Q) X.xe s
/-- e.f op= value -/
def sFldAug (K : PySem.W.Frag) (ta tv : TE) (rd : V → V → Hp → VK → Prop) (f : Str) : TS := fun D σ H => ta σ H fun x H1 => ∃ a C dx fs v, x = .ref a ∧ H1 a = some (.ins C dx fs) ∧ Cls K C ∧ NoAttr K C f ∧ fs.lookup f = some v ∧
  tv σ H1 fun y H2 => rd v y H2 fun z H3 => ∃ dx' fs', H3 a = some (.ins C dx' fs') ∧ fs'.length < 1000 ∧ D.nx σ (upd H3 a (.ins C dx' (putF f z fs')))

section
variable {X : Cx} {o e value : Expr} {f : Str} {pos pos' tpos : Pos} {ta tv : TE}
theorem pe_fld (he : PE X e ta) (hb : attributeBase e f X.env (eval e X.env) = eval e X.env) : PE X (.Attribute e f pos) (tFld X.K ta f) := by
  intro pins s σ H Q I h
  refine attr_of hb (thn (he pins s σ H _ I h) fun u s1 ⟨x, H1, I1, rx, a, C, dx, fs, v, ex, ea, c, n, l, q⟩ => ?_)
  subst ex
  obtain rfl : u = Value.ref a := rx
  exact getattr_ok I1 ea c n l fun u' s2 I2 ru => ⟨v, H1, I2, ru, q⟩
theorem pe_con (he : PE X e ta) (hb : attributeBase e f X.env (eval e X.env) = eval e X.env) : PE X (.Attribute e f pos) (tCon X.K ta f) := by
  intro pins s σ H Q I h
  refine attr_of hb (thn (he pins s σ H _ I h) fun u s1 ⟨x, H1, I1, rx, a, C, dx, fs, v, u0, ex, ea, c, k, l, q⟩ => ?_)
  subst ex
  obtain rfl : u = Value.ref a := rx
  exact getcon_ok I1 ea c k l fun s2 I2 => ⟨v, H1, I2, k.rel, q⟩
theorem ps_fld (ha : PE X o ta) (hv : PE X value tv) (hs : swapsWith value (some (.Attribute o f pos')) pos.line X.env = pure false) : PS X (.Assign [.Attribute o f pos'] value pos) (sFld X.K ta tv f) := by
  intro pins s σ H D I h
  refine plainObj_wpAny_Assign_Attribute (thn (hv pins s σ H _ I h) fun u s1 ⟨y, H1, I1, ry, q⟩ => thn (ha pins s1 σ H1 _ I1 q) fun ov s2 ⟨x, H2, I2, rx, a, C, dx, fs, ex, ea, c, n, l, q2⟩ => ?_) hs
  subst ex
  obtain rfl : ov = Value.ref a := rx
  exact setattr_ok I2 ea c n l ry fun s3 I3 => ⟨σ, _, I3, q2⟩
theorem ps_fldaug {op : Operator} {rd : V → V → Hp → VK → Prop} (ha : PE X o ta) (hv : PE X value tv) (hop : InOp X op rd) : PS X (.AugAssign (.Attribute o f tpos) op value pos) (sFldAug X.K ta tv rd f) := by
  intro pins s σ H D I h
  refine wpAny_AugAssign_AttributeAny (thn (ha pins s σ H _ I h) fun ov s1 ⟨x, H1, I1, rx, a, C, dx, fs, v, ex, ea, c, n, l, q⟩ => ?_)
  subst ex
  obtain rfl : ov = Value.ref a := rx
  refine getattr_ok I1 ea c n l fun u s2 I2 ru => thn (hv pins s2 σ H1 _ I2 q) fun w3 s3 ⟨y, H2, I3, ry, q3⟩ => thn (hop pins s3 σ H2 v y u w3 _ I3 ru ry q3) fun w4 s4 ⟨z, H3, I4, rz, dx', fs', ea', l', q4⟩ => ?_
  exact setattr_ok I4 ea' c n l' rz fun s5 I5 => ⟨σ, _, I5, q4⟩
def rAdd : V → V → Hp → VK → Prop := fun x y H Q => ∃ i j, x = .int i ∧ y = .int j ∧ Q (.int (i + j)) H
def rSub : V → V → Hp → VK → Prop := fun x y H Q => ∃ i j, x = .int i ∧ y = .int j ∧ Q (.int (i - j)) H
theorem in_add : InOp X .Add rAdd := by
  rintro pins s σ H x y u v Q I rx ry ⟨i, j, rfl, rfl, q⟩
  obtain ⟨t, rfl⟩ := (show ∃ t, u = Value.int i t from rx)
  obtain ⟨t', rfl⟩ := (show ∃ t', v = Value.int j t' from ry)
  exact PyProof.Rows.iadd_int ⟨.int (i + j), H, I.tok _, ⟨_, rfl⟩, q⟩
theorem in_sub : InOp X .Sub rSub := by
  rintro pins s σ H x y u v Q I rx ry ⟨i, j, rfl, rfl, q⟩
  obtain ⟨t, rfl⟩ := (show ∃ t, u = Value.int i t from rx)
  obtain ⟨t', rfl⟩ := (show ∃ t', v = Value.int j t' from ry)
  exact PyProof.Rows.isub_int ⟨.int (i - j), H, I.tok _, ⟨_, rfl⟩, q⟩

/-- what is between an instance and its method: the tree of a method call -/
theorem methcall_of {pl : Sem Bool} {m : Str} {apos : Pos} {args : List Expr} {pins : List (Addr × Obj)} {s : Shared} {σ : St} {H : Hp} {Q : Value → Shared → Prop} {te : TE} (he : PE X e te) (I : Inv X pins σ H s)
    (h : te σ H fun x H1 => ∃ a C dx fs g, x = .ref a ∧ H1 a = some (.ins C dx fs) ∧ Cls X.K C ∧ Meth X.K C m g ∧ fs.lookup m = none ∧
      ∀ s1, Inv X pins σ H1 s1 → wpAny (model X.prog X.w) X.A (callWith pos (.ref g) [.ref a] (backTo pos (starEach args X.env)) (backToKw pos (keywordEach [] X.env))) Q X.xe s1)
    (ht : eval (.Call (.Attribute e m apos) args [] pos) X.env = (do
      let ov ← eval e X.env
      standAt apos.atName
      let (f, first) ← holding [ov] (getMethod ov m pl)
      callWith pos f first (backTo pos (starEach args X.env)) (backToKw pos (keywordEach [] X.env)))) :
    wpAny (model X.prog X.w) X.A (eval (.Call (.Attribute e m apos) args [] pos) X.env) Q X.xe s := by
  refine PySem.W.methodCall_KW (pl := pl) (thn (he pins s σ H _ I h) fun u s1 ⟨x, H1, I1, rx, a, C, dx, fs, g, ex, ea, c, k, l, q⟩ => ?_) ht
  subst ex
  obtain rfl : u = Value.ref a := rx
  exact getmeth_ok I1 ea c k l (q s1 I1)
end

/-! ### isinstance -/
section
variable {X : Cx} {pins : List (Addr × Obj)} {σ : St} {H : Hp} {s : Shared} {A : Around} {E : Value → Shared → Prop} {Q : Value → Shared → Prop} {c : Value} {b : Bool}
/-- the type of a value, as the fragment's deciders take it; for an instance its class -/
inductive TyOf (K : PySem.W.Frag) (H : Hp) : V → Value → Prop where
  | non : TyOf K H .non (.type "NoneType")
  | bl (x : Bool) : TyOf K H (.bl x) (.type "bool")
  | int (i : Int) : TyOf K H (.int i) (.type "int")
  | str (x : Str) : TyOf K H (.str x) (.type "str")
  | flt (x : UInt64) : TyOf K H (.flt x) (.type "float")
  | lst {a : Addr} {xs : List V} (e : H a = some (.lst xs)) : TyOf K H (.ref a) (.type "list")
  | frz {a : Addr} {o : Obj} {xs : List V} (e : H a = some (.frz o (.lst xs))) : TyOf K H (.ref a) (.type "list")
  | tup {a : Addr} {xs : List V} (e : H a = some (.tup xs)) : TyOf K H (.ref a) (.type "tuple")
  | dK {a : Addr} {kvs : List (Key × V)} (e : H a = some (.dK kvs)) : TyOf K H (.ref a) (.type "dict")
  | dT {a : Addr} {kvs : List (List Key × V)} (e : H a = some (.dT kvs)) : TyOf K H (.ref a) (.type "dict")
  | ins {a C dx : Addr} {fs : List (Str × V)} (e : H a = some (.ins C dx fs)) (cl : Cls K C) (ha : PySem.W.findIn K (.ref C) "__class__" = some (some (.builtin "object.__class__")))
      (hn : PySem.W.specialIn K (.builtin "object.__class__") "__get__" = some (some (.builtin "getset_descriptor.__get__"))) (htk : PySem.W.takesIn K (.builtin "object.__class__") = some true)
      (hm : PySem.W.mroIn K C (.type "object") = some true) : TyOf K H (.ref a) (.ref C)
/-- isinstance(x, c) for one class c, a built-in or an own one: kitOne's answer -/
theorem isinst_ok {x : V} {u t : Value} (I : Inv X pins σ H s) (rx : RelV x u) (ty : TyOf X.K H x t) (e : PySem.W.kitOne X.K t c = some b) (h : ∀ tk, Q (.bool b) { s with toks := tk }) :
    wpAny (model X.prog X.w) A (call (.builtin "isinstance") [u, c]) Q E s := by
  cases ty with
  | non => cases (show u = Value.none from rx); exact PySem.W.kia_one PySem.W.kitx_none I.kIn True.intro e (fun z => nomatch z) h
  | bl y => cases (show u = Value.bool y from rx); exact PySem.W.kia_one PySem.W.kitx_bool I.kIn True.intro e (fun z => nomatch z) h
  | int i => obtain ⟨t, q⟩ := (show ∃ t, u = Value.int i t from rx); cases q; exact PySem.W.kia_one PySem.W.kitx_int I.kIn True.intro e (fun z => nomatch z) h
  | str y => obtain ⟨t, q⟩ := (show ∃ t, u = Value.str y t from rx); cases q; exact PySem.W.kia_one PySem.W.kitx_str I.kIn True.intro e (fun z => nomatch z) h
  | flt y => obtain ⟨t, q⟩ := (show ∃ t, u = Value.float y t from rx); cases q; exact PySem.W.kia_one PySem.W.kitx_float I.kIn True.intro e (fun z => nomatch z) h
  | @lst a xs ea =>
    cases (show u = Value.ref a from rx)
    obtain ⟨_, _, n, _, h1⟩ := (show ObjOk X.prog X.w H s.heap a (.lst xs) from I.hok a _ ea)
    exact PySem.W.kia_one PySem.W.kitx_list I.kIn ⟨_, h1, rfl⟩ e (fun z => nomatch z) h
  | @frz a ob xs ea =>
    cases (show u = Value.ref a from rx)
    obtain ⟨_, _, _, n, _, h1⟩ := (show ObjOk X.prog X.w H s.heap a (.frz ob (.lst xs)) from I.hok a _ ea)
    exact PySem.W.kia_one PySem.W.kitx_list I.kIn ⟨_, h1, rfl⟩ e (fun z => nomatch z) h
  | @tup a xs ea =>
    cases (show u = Value.ref a from rx)
    obtain ⟨_, _, _, p⟩ := (show ObjOk X.prog X.w H s.heap a (.tup xs) from I.hok a _ ea)
    obtain ⟨o, h1, h2, _⟩ := p
    exact PySem.W.kia_one PySem.W.kitx_tuple I.kIn ⟨o, h1, h2⟩ e (fun z => nomatch z) h
  | @dK a kvs ea =>
    cases (show u = Value.ref a from rx)
    obtain ⟨_, _, vs, _, p⟩ := (show ObjOk X.prog X.w H s.heap a (.dK kvs) from I.hok a _ ea)
    obtain ⟨o, es, ep, h1, h2, _⟩ := p
    exact PySem.W.kia_one PySem.W.kitx_dict I.kIn ⟨o, h1, h2.1⟩ e (fun z => nomatch z) h
  | @dT a kvs ea =>
    cases (show u = Value.ref a from rx)
    obtain ⟨_, _, xs, _, o, es, ep, h1, h2, _⟩ := (show ObjOk X.prog X.w H s.heap a (.dT kvs) from I.hok a _ ea)
    exact PySem.W.kia_one PySem.W.kitx_dict I.kIn ⟨o, h1, h2.1⟩ e (fun z => nomatch z) h
  | @ins a C dx fs ea cl ha hn htk hm =>
    cases (show u = Value.ref a from rx)
    obtain ⟨mA, O, _⟩ := ins_get I.hok ea
    obtain ⟨od, J, _⟩ := O.look
    exact PySem.W.kia_one (PySem.W.kitx_own (cl.get _) cl.hd ha hn htk hm) I.kIn J e (fun z => nomatch z) h
end
end L2

namespace L2
open PySem PySem.Spec PyProof.Rows

/-! ### room -/
structure Room (k : Nat) (A : Around) : Prop where
  hd : A.handled = none
  dp : A.depth + 3 * k + 5 < recursionLimit
  un : A.units + 16 * k + 200 < cLine
theorem Room.mono {j k : Nat} {A : Around} (r : Room k A) (h : j ≤ k) : Room j A := ⟨r.hd, by have := r.dp; omega, by have := r.un; omega⟩
theorem Room.deeper {k : Nat} {A : Around} (r : Room (k + 1) A) (env : Env) : Room k (A.deeper env) :=
  ⟨r.hd, by have := r.dp; show A.depth + 1 + 3 * k + 5 < _; omega, by have := r.un; show A.units + 3 + 16 * k + 200 < _; omega⟩
theorem Room.in1 {k : Nat} {A : Around} (r : Room (k + 1) A) : Room k A.in1 :=
  ⟨r.hd, by have := r.dp; show A.depth + 3 * k + 5 < _; omega, by have := r.un; show A.units + 1 + 16 * k + 200 < _; omega⟩
theorem make_depth {A : Around} {C : Addr} {us : List Value} {kw : List (Str × Value)} : (A.under (.builtin "type.__call__" ⟨.ref C :: us, kw⟩)).depth = A.depth + 1 := by
  first | rfl | simp [Around.under, Code.weight, Code.isCreation, Code.isGuard, Code.isCaller, Code.frames, Code.isFrame, guardIds]
theorem make_units {A : Around} {C : Addr} {us : List Value} {kw : List (Str × Value)} : (A.under (.builtin "type.__call__" ⟨.ref C :: us, kw⟩)).units = A.units + 1 := by
  first | rfl | simp [Around.under, Code.cUnits, Code.frames, Code.isFrame]
theorem Room.make {k : Nat} {A : Around} (r : Room (k + 1) A) (C : Addr) (us : List Value) (kw : List (Str × Value)) : Room k (A.under (.builtin "type.__call__" ⟨.ref C :: us, kw⟩)) :=
  ⟨r.hd, by have := r.dp; rw [make_depth]; omega, by have := r.un; rw [make_units]; omega⟩
theorem Room.depth {k : Nat} {A : Around} (r : Room k A) : A.depth < recursionLimit := by have := r.dp; omega
theorem Room.units {k : Nat} {A : Around} (r : Room k A) : A.units + 64 < cLine := by have := r.un; omega
theorem Room.units0 {k : Nat} {A : Around} (r : Room k A) : A.units < cLine := by have := r.un; omega

/-! ### argument lists and displays -/
def tNil : TA := fun _ H Q => Q [] H
def tCons (ta : TE) (tr : TA) : TA := fun σ H Q => ta σ H fun x H1 => tr σ H1 fun xs H2 => Q (x :: xs) H2
section
variable {X : Cx} {e : Expr} {es : List Expr} {te : TE} {t : TA} {pos : Pos}
theorem pa_nil : PA X [] tNil := fun _ _ _ _ H Q I h => Calls.spliced_nil ⟨[], H, I, .nil, h⟩
theorem pa_cons (ha : PE X e te) (hr : PA X es t) (hs : starEach (e :: es) X.env = (false, eval e X.env) :: starEach es X.env := by rfl) : PA X (e :: es) (tCons te t) := by
  intro pos pins s σ H Q I h
  rw [hs]
  show wpAny _ _ (spliced ((false, eval e X.env) :: backTo pos (starEach es X.env))) _ _ s
  refine Calls.spliced_cons (thn (ha pins s σ H _ I h) fun u s1 ⟨x, H1, I1, r1, q1⟩ => ?_)
  exact thn (hr pos pins s1 σ H1 _ I1 q1) fun us s2 ⟨xs, H2, I2, r2, q2⟩ => ⟨x :: xs, H2, I2, .cons r1 r2, q2⟩

/-- a tuple, a list of written items -/
def tTup (t : TA) : TE := fun σ H Q => t σ H fun xs H1 => xs.length ≤ sizeLine ∧ ∀ p, H1 p = none → Q (.ref p) (upd H1 p (.tup xs))
def tLst (t : TA) : TE := fun σ H Q => t σ H fun xs H1 => xs.length ≤ sizeLine ∧ ∀ p, H1 p = none → Q (.ref p) (upd H1 p (.lst xs))
theorem pe_tup {x1} (h : PA X es t) : PE X (.Tuple es x1 pos) (tTup t) := by
  intro pins s σ H Q I hq
  refine wpAny_Tuple_spliced (thn (h pos pins s σ H _ I hq) fun us s1 ⟨xs, H1, I1, r, z, q⟩ => ⟨by rw [← r.length]; exact z, ?_⟩)
  have hf : H1 s1.heap.objs.size = none := I1.hok.fresh (Nat.le_refl _)
  refine ⟨.ref s1.heap.objs.size, upd H1 s1.heap.objs.size (.tup xs), I1.laid (t' := s1.toks) (fun b u e => Heap.get?_push_of_some _ e) (Nat.le_refl _) ?_, rfl, q _ hf⟩
  exact ⟨z, us, r, ⟨_, Heap.get?_push_size _ rfl, rfl, _, rfl⟩⟩
theorem pe_lst (h : PA X es t) : PE X (.List es pos) (tLst t) := by
  intro pins s σ H Q I hq
  refine wpAny_List_spliced (thn (h pos pins s σ H _ I hq) fun us s1 ⟨xs, H1, I1, r, z, q⟩ => ⟨by rw [← r.length]; exact z, ?_⟩)
  have hf : H1 s1.heap.objs.size = none := I1.hok.fresh (Nat.le_refl _)
  refine ⟨.ref s1.heap.objs.size, upd H1 s1.heap.objs.size (.lst xs), I1.laid (t' := s1.toks) (fun b u e => Heap.get?_push_of_some _ e) (Nat.le_refl _) ?_, rfl, q _ hf⟩
  exact ⟨z, us, 0, r, Heap.get?_push_size _ rfl⟩
end

/-! ### what a def promises -/
/-- a def's promise: the bound arguments in the parameters' order, the heap, the wanted end, the wanted exception -/
abbrev Sp := List V → Hp → VK → XK → Prop
/-- how an exception lies behind a call (file 08 gives it): the callers' frames, abstract heap and state ahead of the call, the wish, the exception, the state -/
abbrev CXT := List Env → Hp → Shared → XK → Value → Shared → Prop

/-- the state at a call -/
structure Env0 (P : Program) (w : World) (K : PySem.W.Frag) (mg : Str → Option Value) (base : Heap) (A : Around) (outer : List Env) (s : Shared) (H : Hp) : Prop where
  frames : A.frames = some outer
  mod : Mod K mg base
  bs : ∀ b o, base.get? b = some o → s.heap.get? b = some o ∧ H b = none
  bsz : base.objs.size ≤ s.heap.objs.size
  funs : s.heap.FunFrames base outer
  frf : ∀ b ∈ frs outer, H b = none
  hok : HOk P w H s.heap
  bare : AllBare s.gens
/-- a call's end -/
def CE (outer : List Env) (P : Program) (w : World) (H : Hp) (s : Shared) (Q : VK) (u : Value) (s' : Shared) : Prop :=
  ∃ v H', s'.os = s.os ∧ AllBare s'.gens ∧ Un (frs outer) [] H H' s.heap s'.heap ∧ HOk P w H' s'.heap ∧ RelV v u ∧ Q v H'
def CR (CX : CXT) (outer : List Env) (P : Program) (w : World) (H : Hp) (s : Shared) (Q : VK) (E : XK) (r : Result) (s' : Shared) : Prop :=
  match r with
  | .ok (.ret u) => CE outer P w H s Q u s'
  | .ok _ => False
  | .error e => CX outer H s E e s'
structure FnOk (P : Program) (w : World) (K : PySem.W.Frag) (mg : Str → Option Value) (base : Heap) (CX : CXT) (k : Nat) (f : Addr) (fd : FuncData) (ps : List Str) (sp : Sp) : Prop where
  len : ∀ vs H Q E, sp vs H Q E → vs.length = ps.length
  run : ∀ (A : Around) (outer : List Env) (s : Shared) (H : Hp) (args : Args) (us : List Value) (vs : List V) (Q : VK) (E : XK), Room k A → Env0 P w K mg base A outer s H → BindsTo s fd args (ps.zip us) → Vals vs us → sp vs H Q E →
    codeAny (model P w) A (.call (.ref f) args) (CR CX outer P w H s Q E) s
theorem FnOk.mono {P : Program} {w : World} {K : PySem.W.Frag} {mg : Str → Option Value} {base : Heap} {CX : CXT} {j k : Nat} {f : Addr} {fd : FuncData} {ps : List Str} {sp : Sp} (F : FnOk P w K mg base CX j f fd ps sp) (h : j ≤ k) :
    FnOk P w K mg base CX k f fd ps sp := ⟨F.len, fun A outer s H args us vs Q E hr => F.run A outer s H args us vs Q E (hr.mono h)⟩
/-- a weaker promise -/
theorem FnOk.imp {P : Program} {w : World} {K : PySem.W.Frag} {mg : Str → Option Value} {base : Heap} {CX : CXT} {k : Nat} {f : Addr} {fd : FuncData} {ps : List Str} {sp sp' : Sp} (F : FnOk P w K mg base CX k f fd ps sp)
    (h : ∀ vs H Q E, sp' vs H Q E → sp vs H Q E) : FnOk P w K mg base CX k f fd ps sp' :=
  ⟨fun vs H Q E q => F.len vs H Q E (h _ _ _ _ q), fun A outer s H args us vs Q E hr he hb hv hs => F.run A outer s H args us vs Q E hr he hb hv (h _ _ _ _ hs)⟩

theorem Env0.make {P : Program} {w : World} {K : PySem.W.Frag} {mg : Str → Option Value} {base : Heap} {A : Around} {outer : List Env} {s : Shared} {H : Hp} (e : Env0 P w K mg base A outer s H) (C : Addr) (us : List Value) (kw : List (Str × Value)) :
    Env0 P w K mg base (A.under (.builtin "type.__call__" ⟨.ref C :: us, kw⟩)) outer s H := ⟨by first | exact e.frames | (simpa [Around.under, Code.envs, Code.isFrame, pushEnvs] using e.frames), e.mod, e.bs, e.bsz, e.funs, e.frf, e.hok, e.bare⟩
theorem Env0.in1 {P : Program} {w : World} {K : PySem.W.Frag} {mg : Str → Option Value} {base : Heap} {A : Around} {outer : List Env} {s : Shared} {H : Hp} (e : Env0 P w K mg base A outer s H) :
    Env0 P w K mg base A.in1 outer s H := ⟨e.frames, e.mod, e.bs, e.bsz, e.funs, e.frf, e.hok, e.bare⟩

section
variable {X : Cx} {pins : List (Addr × Obj)} {σ : St} {H : Hp} {s s' : Shared}
/-- from a body: what a callee wants -/
theorem Inv.env0 (I : Inv X pins σ H s) : Env0 X.prog X.w X.K X.mg X.base X.A X.stack s H :=
  ⟨I.ok.frames, I.ok.mod, I.bs, Nat.le_trans I.ok.bsz I.sz, I.stack, I.stkFree, I.hok, I.bare⟩
/-- behind a call -/
theorem Inv.after {Q : VK} {u : Value} (I : Inv X pins σ H s) (h : CE X.stack X.prog X.w H s Q u s') : EP X pins σ Q u s' := by
  obtain ⟨v, H', os, bare, un, hok, r, q⟩ := h
  obtain ⟨hh, g, d, t, os'⟩ := s'
  obtain rfl : os' = s.os := os
  exact ⟨v, H', I.call (h' := hh) (g' := g) (d' := d) (t' := t) (ch := []) un hok bare (fun b z => absurd z (by simp)), r, q⟩
end

/-! ### calls -/
/-- f(..): the written arguments, then the defaults dvs; E: what is wanted of an exception -/
def tCall (sp : Sp) (dvs : List V) (E : XK) (t : TA) : TE := fun σ H Q => t σ H fun vs H1 => sp (vs ++ dvs) H1 Q E
/-- o.m(..) of an instance of the class at C -/
def tMeth (C : Addr) (m : Str) (sp : Sp) (dvs : List V) (E : XK) (ta : TE) (t : TA) : TE := fun σ H Q => ta σ H fun x H1 => ∃ a dx fs, x = .ref a ∧ H1 a = some (.ins C dx fs) ∧ fs.lookup m = none ∧
  t σ H1 fun vs H2 => sp (x :: (vs ++ dvs)) H2 Q E
/-- C(..): a new instance and its dict, then __init__ -/
def tMake (C : Addr) (sp : Sp) (dvs : List V) (E : XK) (t : TA) : TE := fun σ H Q => t σ H fun vs H1 => ∀ x dx, H1 x = none → H1 dx = none → dx ≠ x →
  sp (.ref x :: (vs ++ dvs)) (upd (upd H1 dx (.own x)) x (.ins C dx [])) (fun v H2 => v = .non ∧ Q (.ref x) H2) E

/-- how the parameters are bound: us the positional arguments, kw the keywords' values by name, ds the defaults that fill up -/
def Binds (K : PySem.W.Frag) (fd : FuncData) (ps : List Str) (ds : List Value) : Prop :=
  ∀ (s : Shared) (us : List Value), K.In s.heap → (us ++ ds).length = ps.length → BindsTo s fd ⟨us, []⟩ (ps.zip (us ++ ds))
/-- every parameter is given -/
theorem Binds.all {K : PySem.W.Frag} {fd : FuncData} {ps : List Str} (h : ∀ us : List Value, us.length = ps.length → bindArgs fd ⟨us, []⟩ = pure (ps.zip us)) : Binds K fd ps [] := fun s us _ hl => by
  rw [List.append_nil] at hl ⊢
  exact .of_eq (h us hl)

/-- an exception of a callee reaches what this body wants of exceptions -/
def Passes (CX : CXT) (X : Cx) (E : XK) : Prop := ∀ (pins : List (Addr × Obj)) (σ : St) (H : Hp) (s : Shared) (e : Value) (s' : Shared), Inv X pins σ H s → CX X.stack H s E e s' → X.xe e s'

section
variable {X : Cx} {CX : CXT} {k : Nat} {f C : Addr} {fd : FuncData} {ps : List Str} {sp : Sp} {dvs : List V} {ds : List Value} {E : XK} {x m : Str} {p pos apos : Pos} {e o : Expr} {es : List Expr} {ta : TE} {t : TA}

/-- the callee runs -/
theorem run_fn {pins : List (Addr × Obj)} {σ : St} {H : Hp} {s : Shared} {Q : VK} {us : List Value} {vs : List V} (F : FnOk X.prog X.w X.K X.mg X.base CX k f fd ps sp) (hr : Room k X.A) (hb : Binds X.K fd ps ds) (hd : Vals dvs ds) (hx : Passes CX X E)
    (I : Inv X pins σ H s) (r : Vals vs us) (h : sp (vs ++ dvs) H Q E) : wpAny (model X.prog X.w) X.A (call (.ref f) us) (EP X pins σ Q) X.xe s := by
  have r2 : Vals (vs ++ dvs) (us ++ ds) := r.append hd
  have hl : (us ++ ds).length = ps.length := by rw [← r2.length]; exact F.len _ _ _ _ h
  refine wpAny_call (codeAny_mono (F.run X.A X.stack s H ⟨us, []⟩ (us ++ ds) (vs ++ dvs) Q E hr I.env0 (hb s us I.kIn hl) r2 h) fun r s' hq => ?_)
  cases r with
  | error e => exact hx pins σ H s e s' I hq
  | ok fl =>
    cases fl with
    | ret u => exact I.after hq
    | next => exact False.elim hq
    | brk => exact False.elim hq
    | cont => exact False.elim hq

theorem pe_call (F : FnOk X.prog X.w X.K X.mg X.base CX k f fd ps sp) (hr : Room k X.A) (hg : Gl X x) (hm : X.mg x = some (.ref f)) (hk : PySem.W.keepIn X.K (.ref f) = true) (hb : Binds X.K fd ps ds) (hd : Vals dvs ds) (hx : Passes CX X E)
    (ha : PA X (e :: es) t) (hdb : (x == ("__debug__" : Str)) = false := by decide) (he : starEach (e :: es) X.env = (false, eval e X.env) :: starEach es X.env := by rfl) (hpl : (backTo pos (starEach es X.env)).any (·.1) = false := by rfl) :
    PE X (.Call (.Name x p) (e :: es) [] pos) (tCall sp dvs E t) := by
  intro pins s σ H Q I h
  refine wpAny_Call_Name_kw (ld_glob I hg hm ?_ hdb)
  refine PySem.W.callWith_K (h₀ := X.base) I.ok.mod.kin hk (thn (ha pos pins s σ H _ I h) fun us s1 ⟨vs, H1, I1, r, q⟩ => ⟨I1.kIn, ?_⟩) he hpl
  exact run_fn F hr hb hd hx I1 r q
theorem pe_call0 (F : FnOk X.prog X.w X.K X.mg X.base CX k f fd ps sp) (hr : Room k X.A) (hg : Gl X x) (hm : X.mg x = some (.ref f)) (hk : PySem.W.keepIn X.K (.ref f) = true) (hb : Binds X.K fd ps ds) (hd : Vals dvs ds) (hx : Passes CX X E)
    (hdb : (x == ("__debug__" : Str)) = false := by decide) : PE X (.Call (.Name x p) [] [] pos) (tCall sp dvs E tNil) := by
  intro pins s σ H Q I h
  refine wpAny_Call_Name_kw (ld_glob I hg hm ?_ hdb)
  exact PySem.W.callWith_K0 I.kIn hk (run_fn (us := []) F hr hb hd hx I .nil h)

/-- o.m(e, ..) -/
theorem pe_meth {pl : Sem Bool} (he : PE X o ta) (c : Cls X.K C) (hm : Meth X.K C m f) (F : FnOk X.prog X.w X.K X.mg X.base CX k f fd ps sp) (hr : Room k X.A) (hb : Binds X.K fd ps ds) (hd : Vals dvs ds) (hx : Passes CX X E) (ha : PA X (e :: es) t)
    (hst : starEach (e :: es) X.env = (false, eval e X.env) :: starEach es X.env := by rfl) (hpl : (backTo pos (starEach es X.env)).any (·.1) = false := by rfl)
    (ht : eval (.Call (.Attribute o m apos) (e :: es) [] pos) X.env = (do
      let ov ← eval o X.env
      standAt apos.atName
      let (f, first) ← holding [ov] (getMethod ov m pl)
      callWith pos f first (backTo pos (starEach (e :: es) X.env)) (backToKw pos (keywordEach [] X.env))) := by rfl) :
    PE X (.Call (.Attribute o m apos) (e :: es) [] pos) (tMeth C m sp dvs E ta t) := by
  intro pins s σ H Q I h
  refine PySem.W.methodCall_KW (pl := pl) (thn (he pins s σ H _ I h) fun u s1 ⟨x, H1, I1, rx, a, dx, fs, ex, ea, l, q⟩ => ?_) ht
  subst ex
  obtain rfl : u = Value.ref a := rx
  refine getmeth_ok I1 ea c hm l ?_
  refine PySem.W.callWith_K (first := [.ref a]) (h₀ := X.base) I.ok.mod.kin hm.kp (thn (ha pos pins s1 σ H1 _ I1 q) fun us s2 ⟨vs, H2, I2, r, q2⟩ => ⟨I2.kIn, ?_⟩) hst hpl
  exact run_fn (us := .ref a :: us) (vs := .ref a :: vs) F hr hb hd hx I2 (.cons rfl r) q2
/-- o.m() -/
theorem pe_meth0 {pl : Sem Bool} (he : PE X o ta) (c : Cls X.K C) (hm : Meth X.K C m f) (F : FnOk X.prog X.w X.K X.mg X.base CX k f fd ps sp) (hr : Room k X.A) (hb : Binds X.K fd ps ds) (hd : Vals dvs ds) (hx : Passes CX X E)
    (ht : eval (.Call (.Attribute o m apos) [] [] pos) X.env = (do
      let ov ← eval o X.env
      standAt apos.atName
      let (f, first) ← holding [ov] (getMethod ov m pl)
      callWith pos f first (backTo pos (starEach [] X.env)) (backToKw pos (keywordEach [] X.env))) := by rfl) :
    PE X (.Call (.Attribute o m apos) [] [] pos) (tMeth C m sp dvs E ta tNil) := by
  intro pins s σ H Q I h
  refine PySem.W.methodCall_KW (pl := pl) (thn (he pins s σ H _ I h) fun u s1 ⟨x, H1, I1, rx, a, dx, fs, ex, ea, l, q⟩ => ?_) ht
  subst ex
  obtain rfl : u = Value.ref a := rx
  refine getmeth_ok I1 ea c hm l ?_
  exact PySem.W.callWith_K0 (first := [.ref a]) I1.kIn hm.kp (run_fn (us := [.ref a]) (vs := [.ref a]) F hr hb hd hx I1 (.cons rfl .nil) q)

/-- what a class must have to be made -/
structure Mk (K : PySem.W.Frag) (C f : Addr) : Prop where
  makes : PySem.W.makesIn K C = true
  init : PySem.W.findIn K (.ref C) "__init__" = some (some (.ref f))
  fn : PySem.W.isFn K (.ref f) = true
  kp : PySem.W.keepIn K (.ref C) = true

theorem run_make {pins : List (Addr × Obj)} {σ : St} {H : Hp} {s : Shared} {Q : VK} {us : List Value} {vs : List V} (M : Mk X.K C f) (F : FnOk X.prog X.w X.K X.mg X.base CX k f fd ps sp) (hr : Room (k + 1) X.A) (hb : Binds X.K fd ps ds) (hd : Vals dvs ds)
    (hx : Passes CX X E) (I : Inv X pins σ H s) (r : Vals vs us)
    (h : ∀ x dx, H x = none → H dx = none → dx ≠ x → sp (.ref x :: (vs ++ dvs)) (upd (upd H dx (.own x)) x (.ins C dx [])) (fun v H2 => v = .non ∧ Q (.ref x) H2) E) :
    wpAny (model X.prog X.w) X.A (call (.ref C) us) (EP X pins σ Q) X.xe s := by
  have hq := h (s.heap.objs.size + 1) s.heap.objs.size (I.hok.fresh (Nat.le_succ _)) (I.hok.fresh (Nat.le_refl _)) (Nat.ne_of_lt (Nat.lt_succ_self _))
  have I2 := Inv.made (C := C) I
  have r2 : Vals (V.ref (s.heap.objs.size + 1) :: (vs ++ dvs)) (Value.ref (s.heap.objs.size + 1) :: (us ++ ds)) := .cons rfl (r.append hd)
  have hl : (Value.ref (s.heap.objs.size + 1) :: us ++ ds).length = ps.length := by
    have e := r2.length
    rw [F.len _ _ _ _ hq] at e
    exact e.symm
  refine wpAny_call (make_map (f := f) I.kIn M.makes M.init (beq_iff_eq.mp M.fn) (codeAny_mono (F.run _ X.stack _ _ ⟨Value.ref (s.heap.objs.size + 1) :: us, []⟩ (Value.ref (s.heap.objs.size + 1) :: (us ++ ds)) _ _ E (hr.make C us [])
    (I2.env0.make C us []) (hb _ (Value.ref (s.heap.objs.size + 1) :: us) I2.kIn hl) r2 hq) fun r s' hq' => ?_))
  cases r with
  | error e => exact hx pins σ _ _ e s' I2 hq'
  | ok fl =>
    cases fl with
    | ret u =>
      obtain ⟨v, H', I3, rv, ev, q3⟩ := I2.after hq'
      subst ev
      exact ⟨rv, ⟨V.ref (s.heap.objs.size + 1), H', I3, rfl, q3⟩⟩
    | next => exact False.elim hq'
    | brk => exact False.elim hq'
    | cont => exact False.elim hq'
theorem pe_make (M : Mk X.K C f) (F : FnOk X.prog X.w X.K X.mg X.base CX k f fd ps sp) (hr : Room (k + 1) X.A) (hg : Gl X x) (hm : X.mg x = some (.ref C)) (hb : Binds X.K fd ps ds) (hd : Vals dvs ds) (hx : Passes CX X E)
    (ha : PA X (e :: es) t) (hdb : (x == ("__debug__" : Str)) = false := by decide) (he : starEach (e :: es) X.env = (false, eval e X.env) :: starEach es X.env := by rfl) (hpl : (backTo pos (starEach es X.env)).any (·.1) = false := by rfl) :
    PE X (.Call (.Name x p) (e :: es) [] pos) (tMake C sp dvs E t) := by
  intro pins s σ H Q I h
  refine wpAny_Call_Name_kw (ld_glob I hg hm ?_ hdb)
  refine PySem.W.callWith_K (h₀ := X.base) I.ok.mod.kin M.kp (thn (ha pos pins s σ H _ I h) fun us s1 ⟨vs, H1, I1, r, q⟩ => ⟨I1.kIn, ?_⟩) he hpl
  exact run_make M F hr hb hd hx I1 r q
theorem pe_make0 (M : Mk X.K C f) (F : FnOk X.prog X.w X.K X.mg X.base CX k f fd ps sp) (hr : Room (k + 1) X.A) (hg : Gl X x) (hm : X.mg x = some (.ref C)) (hb : Binds X.K fd ps ds) (hd : Vals dvs ds) (hx : Passes CX X E)
    (hdb : (x == ("__debug__" : Str)) = false := by decide) : PE X (.Call (.Name x p) [] [] pos) (tMake C sp dvs E tNil) := by
  intro pins s σ H Q I h
  refine wpAny_Call_Name_kw (ld_glob I hg hm ?_ hdb)
  exact PySem.W.callWith_K0 I.kIn M.kp (run_make (us := []) M F hr hb hd hx I .nil h)
end

/-! ### keywords -/
/-- the values of the keywords, from the left -/
def PK (X : Cx) (kws : List Keyword) (t : TA) : Prop :=
  ∀ (pos : Pos) (pins : List (Addr × Obj)) (s : Shared) (σ : St) (H : Hp) (Q : List V → Hp → Prop), Inv X pins σ H s → t σ H Q → wpAny (model X.prog X.w) X.A (evalAll ((backToKw pos (keywordEach kws X.env)).map (·.2))) (AP X pins σ Q) X.xe s
section
variable {X : Cx} {CX : CXT} {k : Nat} {f C : Addr} {fd : FuncData} {ps ks : List Str} {sp : Sp} {E : XK} {x m : Str} {p pos apos kpos : Pos} {e o : Expr} {es : List Expr} {kws : List Keyword} {te ta : TE} {t tk : TA} {nm : Option Str}
theorem pk_nil : PK X [] tNil := fun _ _ _ _ H Q I h => wpAny_evalAll_nil ⟨[], H, I, .nil, h⟩
theorem pk_cons (ha : PE X e te) (hr : PK X kws t) : PK X (⟨nm, e, kpos⟩ :: kws) (tCons te t) := by
  intro pos pins s σ H Q I h
  show wpAny _ _ (evalAll ((do let v ← eval e X.env; standAt pos; pure v) :: (backToKw pos (keywordEach kws X.env)).map (·.2))) _ _ s
  refine wpAny_evalAll_cons (wpAny_bind (thn (ha pins s σ H _ I h) fun u s1 ⟨x, H1, I1, r1, q1⟩ => wpAny_bind (wpAny_standAt (wpAny_pure ?_))))
  exact thn (hr pos pins s1 σ H1 _ I1 q1) fun us s2 ⟨xs, H2, I2, r2, q2⟩ => ⟨x :: xs, H2, I2, .cons r1 r2, q2⟩

/-- how a call with keywords binds: g puts the positional values us and the keywords' values ws (names ks) in the parameters' order, defaults among them -/
structure KBinds (K : PySem.W.Frag) (fd : FuncData) (ps ks : List Str) (g : List Value → List Value → List Value) (gV : List V → List V → List V) : Prop where
  to : ∀ (s : Shared) (us ws : List Value), K.In s.heap → (g us ws).length = ps.length → BindsTo s fd ⟨us, ks.zip ws⟩ (ps.zip (g us ws))
  rel : ∀ {vs : List V} {us : List Value} {zs : List V} {ws : List Value}, Vals vs us → Vals zs ws → Vals (gV vs zs) (g us ws)
def tCallK (sp : Sp) (gV : List V → List V → List V) (E : XK) (t tk : TA) : TE := fun σ H Q => t σ H fun vs H1 => tk σ H1 fun zs H2 => sp (gV vs zs) H2 Q E
variable {g : List Value → List Value → List Value} {gV : List V → List V → List V}
theorem run_fnk {pins : List (Addr × Obj)} {σ : St} {H : Hp} {s : Shared} {Q : VK} {us ws : List Value} {vs zs : List V} (F : FnOk X.prog X.w X.K X.mg X.base CX k f fd ps sp) (hr : Room k X.A) (hb : KBinds X.K fd ps ks g gV) (hx : Passes CX X E)
    (I : Inv X pins σ H s) (r : Vals vs us) (rz : Vals zs ws) (h : sp (gV vs zs) H Q E) : wpAny (model X.prog X.w) X.A (call (.ref f) us (ks.zip ws)) (EP X pins σ Q) X.xe s := by
  have r2 := hb.rel r rz
  have hl : (g us ws).length = ps.length := by rw [← r2.length]; exact F.len _ _ _ _ h
  refine wpAny_call (codeAny_mono (F.run X.A X.stack s H ⟨us, ks.zip ws⟩ (g us ws) (gV vs zs) Q E hr I.env0 (hb.to s us ws I.kIn hl) r2 h) fun r s' hq => ?_)
  cases r with
  | error e => exact hx pins σ H s e s' I hq
  | ok fl =>
    cases fl with
    | ret u => exact I.after hq
    | next => exact False.elim hq
    | brk => exact False.elim hq
    | cont => exact False.elim hq
/-- f(e, .., k = v, ..) -/
theorem pe_callK (F : FnOk X.prog X.w X.K X.mg X.base CX k f fd ps sp) (hr : Room k X.A) (hg : Gl X x) (hm : X.mg x = some (.ref f)) (hk : PySem.W.keepIn X.K (.ref f) = true) (hb : KBinds X.K fd ps ks g gV) (hx : Passes CX X E)
    (ha : PA X (e :: es) t) (hkw : PK X kws tk) (hall : (backToKw pos (keywordEach kws X.env)).all (·.1.isSome) = true := by rfl) (hks : (backToKw pos (keywordEach kws X.env)).filterMap (·.1) = ks := by rfl)
    (hdb : (x == ("__debug__" : Str)) = false := by decide) (he : starEach (e :: es) X.env = (false, eval e X.env) :: starEach es X.env := by rfl)
    (hpl : ((backTo pos (starEach (e :: es) X.env)).any (·.1) || (backToKw pos (keywordEach kws X.env)).any (·.1.isNone)) = false := by rfl) :
    PE X (.Call (.Name x p) (e :: es) kws pos) (tCallK sp gV E t tk) := by
  intro pins s σ H Q I h
  refine wpAny_Call_Name_kw (ld_glob I hg hm ?_ hdb)
  refine PySem.W.callWith_KW (h₀ := X.base) I.ok.mod.kin hk hall (thn (ha pos pins s σ H _ I h) fun us s1 ⟨vs, H1, I1, r, q⟩ => ?_) hpl he
  refine thn (hkw pos pins s1 σ H1 _ I1 q) fun ws s2 ⟨zs, H2, I2, rz, q2⟩ => ⟨I2.kIn, ?_⟩
  rw [hks]
  exact run_fnk F hr hb hx I2 r rz q2
end

/-! ### a def's body keeps its promise -/
/-- names: the parameters first -/
structure FnScope (N P : List Str) (sc : Scope) : Prop where
  kind : sc.kind = .function
  co : sc.isCoroutine = false
  gen : sc.isGenerator = false
  nd : N.Nodup
  pre : N.take P.length = P
  par : ∀ x ∈ P, sc.names.lookup x = some .local ∨ sc.names.lookup x = some .cell
  nofree : ∀ y ∈ sc.names, y.2 ≠ .free

theorem bindL_out {kindOf : Str → Option NameKind} {x : Str} : ∀ {binds : List (Str × Value)} {m : Str → Option Value}, (∀ v, (x, v) ∉ binds) → bindL kindOf binds m x = m x
  | [], _, _ => rfl
  | (n, v) :: r, m, h => by
    unfold bindL
    rw [bindL_out fun w hw => h w (List.mem_cons_of_mem _ hw)]
    split
    · have : x ≠ n := by rintro rfl; exact h v List.mem_cons_self
      simp [this]
    · rfl
theorem bindC_out {kindOf : Str → Option NameKind} {x : Str} : ∀ {binds : List (Str × Value)} {m : Str → Option Value}, (∀ v, (x, v) ∉ binds) → bindC kindOf binds m x = m x
  | [], _, _ => rfl
  | (n, v) :: r, m, h => by
    unfold bindC
    rw [bindC_out fun w hw => h w (List.mem_cons_of_mem _ hw)]
    split
    · rfl
    · have : x ≠ n := by rintro rfl; exact h v List.mem_cons_self
      simp [this]
theorem bindL_get {kindOf : Str → Option NameKind} {x : Str} {v : Value} : ∀ {P : List Str} {vs : List Value} {i : Nat} {m : Str → Option Value}, P.Nodup → P[i]? = some x → vs[i]? = some v → kindOf x = some .local →
    bindL kindOf (P.zip vs) m x = some v
  | [], _, _, _, _, h, _, _ => by simp at h
  | _ :: _, [], _, _, _, _, h, _ => by simp at h
  | p :: P, w :: vs, 0, m, nd, h1, h2, hk => by
    simp at h1 h2; subst h1; subst h2
    show bindL kindOf ((p, w) :: P.zip vs) m p = _
    unfold bindL
    rw [bindL_out fun v hv => (List.nodup_cons.mp nd).1 (List.of_mem_zip hv).1, if_pos hk]
    simp
  | p :: P, w :: vs, i + 1, m, nd, h1, h2, hk => by
    show bindL kindOf ((p, w) :: P.zip vs) m x = _
    unfold bindL
    exact bindL_get (i := i) (List.nodup_cons.mp nd).2 (by simpa using h1) (by simpa using h2) hk
theorem bindC_get {kindOf : Str → Option NameKind} {x : Str} {v : Value} : ∀ {P : List Str} {vs : List Value} {i : Nat} {m : Str → Option Value}, P.Nodup → P[i]? = some x → vs[i]? = some v → kindOf x ≠ some .local →
    bindC kindOf (P.zip vs) m x = some v
  | [], _, _, _, _, h, _, _ => by simp at h
  | _ :: _, [], _, _, _, _, h, _ => by simp at h
  | p :: P, w :: vs, 0, m, nd, h1, h2, hk => by
    simp at h1 h2; subst h1; subst h2
    show bindC kindOf ((p, w) :: P.zip vs) m p = _
    unfold bindC
    rw [bindC_out fun v hv => (List.nodup_cons.mp nd).1 (List.of_mem_zip hv).1, if_neg hk]
    simp
  | p :: P, w :: vs, i + 1, m, nd, h1, h2, hk => by
    show bindC kindOf ((p, w) :: P.zip vs) m x = _
    unfold bindC
    exact bindC_get (i := i) (List.nodup_cons.mp nd).2 (by simpa using h1) (by simpa using h2) hk

/-- the names' values at the entry -/
def start (N : List Str) (vs : List V) : St := vs.map some ++ List.replicate (N.length - vs.length) none

/-- the context of a def's body, at its entry; an exception leaves the frame, then lies as CX says -/
def cxOf (CX : CXT) (P : Program) (w : World) (K : PySem.W.Frag) (mg : Str → Option Value) (base : Heap) (N : List Str) (qual : Str) (scope : Scope) (f : Addr) (cd : Value) (A : Around) (outer : List Env) (s : Shared) (H : Hp) (E : XK) : Cx where
  prog := P
  w := w
  K := K
  mg := mg
  base := base
  A := A.deeper (envOfC qual scope s.heap.objs.size f cd)
  N := N
  s₀ := s
  H₀ := H
  env := envOfC qual scope s.heap.objs.size f cd
  outer := outer
  stack := envOfC qual scope s.heap.objs.size f cd :: outer
  ex := []
  calm := true
  fn := fun _ => true
  pn := []
  xe := fun e s' => wpAny (model P w) (A.deeper (envOfC qual scope s.heap.objs.size f cd)) (leaving (envOfC qual scope s.heap.objs.size f cd) e) (fun _ s'' => CX outer H s E e s'') (fun e' s'' => CX outer H s E e' s'') s'

theorem cell_has {sc : Scope} {n : Nat} {x : Str} (h : sc.names.lookup x = some .cell) : ∃ c, (cellsFrom n sc.names []).lookup x = some c := by
  have q := PySem.W.cellsFrom_some sc.names n [] (.inl h)
  exact Option.isSome_iff_exists.mp q

theorem inv_start {CX : CXT} {P : Program} {w : World} {K : PySem.W.Frag} {mg : Str → Option Value} {base : Heap} {N ps : List Str} {qual : Str} {scope : Scope} {f : Addr} {cd : Value} {A : Around} {outer : List Env} {s s1 : Shared} {H : Hp} {E : XK} {us : List Value} {vs : List V}
    (S : FnScope N ps scope) (hd : A.handled = none) (e0 : Env0 P w K mg base A outer s H) (hl : vs.length = ps.length) (r : Vals vs us)
    (x : InCallC s s.heap.objs.size (bindL (envOfC qual scope s.heap.objs.size f cd).kindOf (ps.zip us) fun _ => none) (cellsFrom (s.heap.objs.size + 1) scope.names []) (bindC (envOfC qual scope s.heap.objs.size f cd).kindOf (ps.zip us) fun _ => none) s1) :
    Inv (cxOf CX P w K mg base N qual scope f cd A outer s H E) [] (start N vs) H s1 := by
  have hpl : ps.length ≤ N.length := by have := congrArg List.length S.pre; rw [List.length_take] at this; omega
  obtain ⟨h1, tk, rfl, hk⟩ := x.done
  have noA : ∀ b : Addr, b ∉ (cxOf CX P w K mg base N qual scope f cd A outer s H E).ex := fun b z => absurd (show b ∈ ([] : List Addr) from z) (by simp)
  refine ⟨⟨e0.mod, S.kind, rfl, rfl, Nat.le_refl _, fun y z c h1 h2 => ?_, fun y hy => ?_, fun y c _ h => ?_, fun _ => hd, Around.frames_deeper e0.frames, .inr ⟨rfl, rfl⟩, fun b z => absurd z (noA b), e0.bs, e0.bsz, fun b _ _ => noA b, fun b z => absurd z (noA b), e0.funs, e0.frf⟩,
    rfl, e0.bare, Un.kept hk, ⟨_, x.toInCall.ns, fun i y v h1 h2 h3 => ?_⟩, fun y c h => ⟨_, x.cell y c h⟩, e0.hok.fresh (Nat.le_refl _), fun y c h => ?_, fun p hp => absurd (show p ∈ ([] : List (Addr × Obj)) from hp) (by simp), e0.hok.kept hk, ?_⟩
  · exact name_of_addr x.apart (PySem.mem_of_lookup h1) (PySem.mem_of_lookup h2)
  · have hy : scope.names.lookup y = some .cell ∨ scope.names.lookup y = some .free := hy
    rcases hy with hy | hy
    · exact cell_has hy
    · exact absurd rfl (S.nofree _ (PySem.mem_of_lookup hy))
  · exact Nat.le_of_lt (x.above y c (PySem.mem_of_lookup h))
  · have hi : i < vs.length := by
      unfold start at h2
      by_cases hi : i < vs.length
      · exact hi
      · rw [List.getElem?_append_right (by simpa using hi)] at h2
        rw [List.getElem?_replicate] at h2
        split at h2 <;> cases h2
    have ha : vs[i]? = some v := by
      unfold start at h2
      rw [List.getElem?_append_left (by simpa using hi), List.getElem?_map] at h2
      cases e : vs[i]? with
      | none => rw [e] at h2; cases h2
      | some a => rw [e] at h2; cases h2; rfl
    obtain ⟨u, hu, rv⟩ := r.get ha
    have hp : ps[i]? = some y := by
      rw [← S.pre, List.getElem?_take_of_lt (by omega)]; exact h1
    have ndP : ps.Nodup := by rw [← S.pre]; exact S.nd.sublist (List.take_sublist _ _)
    refine ⟨u, rv, ?_⟩
    rcases S.par y (List.mem_of_getElem? hp) with k | k
    · exact .inl ⟨k, bindL_get ndP hp hu k⟩
    · obtain ⟨c, e⟩ := cell_has (n := s.heap.objs.size + 1) k
      refine .inr ⟨.inl k, c, e, ?_⟩
      have q := x.cell y c e
      rw [bindC_get ndP hp hu (by show scope.names.lookup y ≠ _; rw [k]; decide)] at q
      exact q
  · exact e0.hok.fresh (Nat.le_of_lt (x.above y c (PySem.mem_of_lookup h)))
  · unfold start
    show _ = N.length
    rw [List.length_append, List.length_map, List.length_replicate]
    omega

/-- THE RULE: a def (or a method) of the text, by its body. The body's reading t is chosen for each entry; it is run at the parameters' values -/
theorem fn_of {CX : CXT} {P : Program} {w : World} {K : PySem.W.Frag} {mg : Str → Option Value} {base : Heap} {k : Nat} {f : Addr} {name qual : Str} {params : Arguments} {body : List Stmt} {scope : Scope} {dV kV doc pm cdv ct oc : Value} {an od : Option Addr}
    {osl : Array (Option Value)} {N ps : List Str} {sp : Sp} (lk : K.lookup f = some ⟨oc, od, .func (PySem.W.fnOf name qual params body scope dV kV doc pm an cdv ct), osl⟩) (hcd : PySem.W.codeIn K cdv qual = true) (S : FnScope N ps scope)
    (len : ∀ vs H Q E, sp vs H Q E → vs.length = ps.length)
    (hbody : ∀ (A : Around) (outer : List Env) (s : Shared) (H : Hp) (vs : List V) (Q : VK) (E : XK), Room k (A.deeper (envOfC qual scope s.heap.objs.size f cdv)) → sp vs H Q E →
      ∃ t, PSs (cxOf CX P w K mg base N qual scope f cdv A outer s H E) body t ∧ t { nx := fun _ H' => Q .non H', rt := Q } (start N vs) H) :
    FnOk P w K mg base CX (k + 1) f (PySem.W.fnOf name qual params body scope dV kV doc pm an cdv ct) ps sp := by
  refine ⟨len, fun A outer s H args us vs Q E hr e0 hb r hsp => ?_⟩
  have hl := len _ _ _ _ hsp
  have KX : K.In s.heap := e0.mod.kin.keeps fun b o e => (e0.bs b o e).1
  have lim : s.heap.NoLimit := e0.mod.nolimit.keeps fun b o e => (e0.bs b o e).1
  have hkind : ∀ y ∈ ps.zip us, scope.names.lookup y.1 = some .local ∨ (scope.names.lookup y.1 = some .cell ∧ ((cellsFrom (s.heap.objs.size + 1) scope.names []).lookup y.1).isSome = true) := fun ⟨n, v⟩ hy => by
    rcases S.par n (List.of_mem_zip hy).1 with q | q
    · exact .inl q
    · exact .inr ⟨q, PySem.W.cellsFrom_some _ _ _ (.inl q)⟩
  refine codeAny_call_function hr.depth (KX _ _ lk) rfl S.co S.gen rfl (PySem.W.codeRec_of KX hcd) (hb _ _ _ _ ?_)
  refine wpAny_newFunctionEnv_cells S.kind hkind fun env he s1 x => ?_
  subst he
  refine ⟨lim.keeps x.toInCall.keep, codeAny_func ?_⟩
  obtain ⟨t, ht, hq⟩ := hbody A outer s H vs Q E (hr.deeper _) hsp
  have I : Inv (cxOf CX P w K mg base N qual scope f cdv A outer s H E) [] (start N vs) H s1 := inv_start S hr.hd e0 hl r x
  refine wpAny_mono (ht [] s1 (start N vs) H _ I hq) (fun fl s' hs => ?_) fun e s' hs => hs
  have fin : ∀ {σ' : St} {H' : Hp} {v : V} {u : Value}, Inv (cxOf CX P w K mg base N qual scope f cdv A outer s H E) [] σ' H' s' → RelV v u → Q v H' → CE outer P w H s Q u s' :=
    fun {σ' H' v u} J rv q => ⟨v, H', J.os, J.bare, J.base, J.hok, rv, q⟩
  cases fl with
  | ret u =>
    obtain ⟨v, σ', H', J, rv, q⟩ := hs
    exact fin J rv q
  | next =>
    obtain ⟨σ', H', J, q⟩ := hs
    exact fin (v := V.non) (u := Value.none) J rfl q
  | brk =>
    obtain ⟨_, _, _, q⟩ := hs
    exact False.elim q
  | cont =>
    obtain ⟨_, _, _, q⟩ := hs
    exact False.elim q
end L2

namespace L2
open PySem PySem.Spec PyProof.Rows
section
variable {X : Cx} {x : Str} {p pos : Pos} {e : Expr} {es : List Expr} {t : TA} {id T : String} {r : List V → Hp → VK → Prop}

def tCB (r : List V → Hp → VK → Prop) (t : TA) : TE := fun σ H Q => t σ H fun vs H1 => r vs H1 Q
/-- f(e, ..), f a built-in function -/
theorem pe_callB (hc : CallR X (.builtin id) r) (hg : Gl X x) (hm : X.mg x = none) (hv : bootBuiltins x = some (.builtin id)) (ha : PA X (e :: es) t) (hn : x ≠ "__name__" := by decide) (hdb : (x == ("__debug__" : Str)) = false := by decide)
    (he : starEach (e :: es) X.env = (false, eval e X.env) :: starEach es X.env := by rfl) (hpl : (backTo pos (starEach es X.env)).any (·.1) = false := by rfl) : PE X (.Call (.Name x p) (e :: es) [] pos) (tCB r t) := by
  intro pins s σ H Q I h
  refine wpAny_Call_Name_kw (ld_blt I hg hm hv ?_ hn hdb)
  exact PyProof.Rows.callWith_builtin1 (thn (ha pos pins s σ H _ I h) fun us s1 ⟨vs, H1, I1, r1, q1⟩ => hc pins s1 σ H1 vs us Q I1 r1 q1) he hpl
/-- T(e, ..), T a built-in type -/
theorem pe_callTy (hc : CallR X (.type T) r) (hg : Gl X x) (hm : X.mg x = none) (hv : bootBuiltins x = some (.type T)) (ha : PA X (e :: es) t) (hn : x ≠ "__name__" := by decide) (hdb : (x == ("__debug__" : Str)) = false := by decide)
    (he : starEach (e :: es) X.env = (false, eval e X.env) :: starEach es X.env := by rfl) (hpl : (backTo pos (starEach es X.env)).any (·.1) = false := by rfl) : PE X (.Call (.Name x p) (e :: es) [] pos) (tCB r t) := by
  intro pins s σ H Q I h
  refine wpAny_Call_Name_kw (ld_blt I hg hm hv ?_ hn hdb)
  exact PyProof.Rows.callWith_type1 (thn (ha pos pins s σ H _ I h) fun us s1 ⟨vs, H1, I1, r1, q1⟩ => hc pins s1 σ H1 vs us Q I1 r1 q1) he hpl
/-- T() -/
theorem pe_callTy0 (hc : CallR X (.type T) r) (hg : Gl X x) (hm : X.mg x = none) (hv : bootBuiltins x = some (.type T)) (hn : x ≠ "__name__" := by decide) (hdb : (x == ("__debug__" : Str)) = false := by decide) :
    PE X (.Call (.Name x p) [] [] pos) (tCB r tNil) := by
  intro pins s σ H Q I h
  refine wpAny_Call_Name_kw (ld_blt I hg hm hv ?_ hn hdb)
  exact PyProof.Rows.callWith_type0 (hc pins s σ H [] [] Q I .nil h)
end
end L2

namespace HT
open PySem PyProof.Rows

/-- t < u of tuples of ints -/
def lexLt : List Int → List Int → Bool
  | [], [] => false
  | [], _ :: _ => true
  | _ :: _, [] => false
  | x :: xs, y :: ys => if x = y then lexLt xs ys else decide (x < y)
theorem lexLt_cons (x y : Int) (xs ys : List Int) : lexLt (x :: xs) (y :: ys) = if x = y then lexLt xs ys else decide (x < y) := rfl
theorem lexLt_nil_nil : lexLt [] [] = false := rfl
theorem lexLt_nil_cons (y : Int) (ys : List Int) : lexLt [] (y :: ys) = true := rfl
theorem lexLt_cons_nil (x : Int) (xs : List Int) : lexLt (x :: xs) [] = false := rfl

theorem eqAt_int (A : Around) (s : Shared) (a : Int) (t : Tok) (c : Int) (u : Tok) : ∃ e, SeqAt.EqAt A s (.int a t) (.int c u) e ∧ (e = true ↔ a = c) :=
  ⟨(a == c), SeqAt.EqAt.int_int a t c u, by simp⟩
theorem rcLt_int (A : Around) (s : Shared) (a : Int) (t : Tok) (c : Int) (u : Tok) (prog : Program) (w : World) (E : Value → Shared → Prop) (Q : Value → Shared → Prop) (h : Q (.bool (decide (a < c))) s) :
    wpAny (model prog w) A (richCompare .Lt (.int a t) (.int c u)) Q E s :=
  (PyProof.Rows.lt_int h : wpAny (model prog w) A (compareOp .Lt (.int a t) (.int c u)) Q E s)

section
open PySem.SeqAt
open PySem.AutoSeq1 (wpAny_loadPart')
open PySem.MeetsSeq PySem.MeetsSeq2 PySem.MeetsSeq3

theorem tuple_lt_ints (l b : Addr) (items items2 : Array Value) (n n2 : Nat) (dd dd2 : Option Addr) (sl sl2 : Array (Option Value)) (ns ms : List Int) (hi : IntsAre items.toList ns) (hj : IntsAre items2.toList ms) :
    Meets (Builtin.«tuple.__lt__» ⟨[.ref l, .ref b], []⟩)
      (fun _ R s => s.heap.get? l = some { cls := .type "tuple", dict := dd, data := .seq items n, slots := sl } ∧ s.heap.get? b = some { cls := .type "tuple", dict := dd2, data := .seq items2 n2, slots := sl2 } ∧
        R (.ok (.ret (.bool (lexLt ns ms)))) s) :=
  .of_wp fun prog w A R s h => by
    obtain ⟨hp, g, d, tk, os⟩ := s; obtain ⟨hl, hb, h⟩ := h
    have f2 := AutoSeq1.sub_tuple_tuple
    have z1 : items.size = ns.length := by rw [← hi.length]; simp
    have z2 : items2.size = ms.length := by rw [← hj.length]; simp
    wp_walk using wpAny_loadPart' hl, wpAny_loadPart' hb, wpAny_forIn_list _ (fun rest b s' => b.1 = none ∧ s' = ⟨hp, g, d, tk, os⟩ ∧ ∃ (vs ws : List Value) (ns' ms' : List Int), rest = vs.zip ws ∧
      IntsAre vs ns' ∧ IntsAre ws ms' ∧ ns'.length + items2.size = ms'.length + items.size ∧ R (.ok (.ret (.bool (lexLt ns' ms')))) ⟨hp, g, d, tk, os⟩) _
    case turn =>
      rintro ⟨y, x⟩ rest b s' ⟨hb', rfl, vs, ws, ns', ms', hz, hvi, hwi, hlen, hR⟩
      cases hvi with
      | nil => rw [List.zip_nil_left] at hz; cases hz
      | cons a t hvi' =>
        cases hwi with
        | nil => rw [List.zip_nil_right] at hz; cases hz
        | cons c u hwi' =>
          rw [List.zip_cons_cons] at hz
          injection hz with hyx hrest
          injection hyx with hy hx
          subst hy hx
          rw [lexLt_cons] at hR
          simp only [List.length_cons] at hlen
          obtain ⟨e, he, hiff⟩ := eqAt_int A.in1 ⟨hp, g, d, tk, os⟩ a t c u
          refine wpAny_bind (he prog w _ _ ?_)
          cases e with
          | true =>
            rw [if_pos (hiff.mp rfl)] at hR
            wp_walk
            exact ⟨rfl, rfl, _, _, _, _, hrest, hvi', hwi', by omega, hR⟩
          | false =>
            rw [if_neg (fun q => absurd (hiff.mpr q) Bool.false_ne_true)] at hR
            have hri := rcLt_int A.in1 ⟨hp, g, d, tk, os⟩ a t c u prog w
            wp_walk using hri
            exact ⟨_, rfl, by simpa using hR⟩
    case fin =>
      rintro ⟨b1, b2⟩ s' ⟨hb', rfl, vs, ws, ns', ms', hz, hvi, hwi, hlen, hR⟩
      simp only at hb'
      subst hb'
      have hv : lexLt ns' ms' = decide (items.size < items2.size) := by
        cases hvi with
        | nil =>
          cases hwi with
          | nil =>
            simp only [List.length_nil] at hlen
            rw [lexLt_nil_nil]
            exact (decide_eq_false (by omega)).symm
          | cons c u hw =>
            simp only [List.length_nil, List.length_cons] at hlen
            rw [lexLt_nil_cons]
            exact (decide_eq_true (by omega)).symm
        | cons a t hv =>
          cases hwi with
          | nil =>
            simp only [List.length_nil, List.length_cons] at hlen
            rw [lexLt_cons_nil]
            exact (decide_eq_false (by omega)).symm
          | cons c u hw =>
            rw [List.zip_cons_cons] at hz
            cases hz
      rw [hv] at hR
      wp_walk
      exact ⟨_, rfl, by simpa [Builtin.Tuple.tupleCompareSizes] using hR⟩
    case h =>
      exact ⟨rfl, rfl, items.toList, items2.toList, ns, ms, rfl, hi, hj, by omega, h⟩
end

section
variable {prog : Program} {w : World} {A : Around} {E : Value → Shared → Prop} {s : Shared}

theorem lt_tupInts {l b : Addr} {items items2 : Array Value} {ns ms : List Int} {Q : Value → Shared → Prop} (hl : IsTup s.heap l items) (hb : IsTup s.heap b items2) (hi : IntsAre items.toList ns) (hj : IntsAre items2.toList ms)
    (hu : A.units < cLine) (h : Q (.bool (lexLt ns ms)) s) : wpAny (model prog w) A (compareOp .Lt (.ref l) (.ref b)) Q E s := by
  obtain ⟨⟨cls, dd, data, sl⟩, ho, hc, n, hd⟩ := id hl
  obtain ⟨⟨cls2, dd2, data2, sl2⟩, ho2, hc2, n2, hd2⟩ := id hb
  simp only at hc hd hc2 hd2
  subst hc hd hc2 hd2
  exact richCompare_meets_room (op := .Lt) ⟨_, ho, rfl⟩ ⟨_, ho2, rfl⟩ PySem.F.slot_tuple_lt PySem.F.entry_tuple_lt (PySem.F.args_tuple_lt_2 _ _) (tuple_lt_ints l b items items2 n n2 dd dd2 sl sl2 ns ms hi hj)
    ⟨ho, ho2, show Value.bool (lexLt ns ms) ≠ Value.notImplemented ∧ Q (.bool (lexLt ns ms)) s from ⟨(fun x => nomatch x), h⟩⟩ hu

/-- t + u, t not empty -/
theorem cat_tup {t b : Addr} {vs ws : List Value} {Q : Value → Shared → Prop} (ht : IsTup s.heap t vs.toArray) (hb : IsTup s.heap b ws.toArray) (hv : vs ≠ [])
    (h1 : ws = [] → Q (.ref t) s) (h2 : ws ≠ [] → Q (.ref s.heap.objs.size) { s with heap := s.heap.push { cls := .type "tuple", data := .seq (vs ++ ws).toArray } })
    (hsz : vs.length + ws.length ≤ sizeLine) : wpAny (model prog w) A (binaryOp .Add (.ref t) (.ref b)) Q E s := by
  obtain ⟨⟨cls, dd, data, sl⟩, ho, hc, n, hd⟩ := id ht
  obtain ⟨⟨cls2, dd2, data2, sl2⟩, ho2, hc2, n2, hd2⟩ := id hb
  simp only at hc hd hc2 hd2
  subst hc hd hc2 hd2
  have e : vs.toArray ++ ws.toArray = (vs ++ ws).toArray := by simp
  by_cases hw : ws = []
  · exact concat_meets ⟨_, ho, rfl⟩ ⟨_, ho2, rfl⟩ noFill_tuple_add seq_tuple_add PySem.F.slot_tuple_add PySem.F.entry_tuple_add (PySem.F.args_tuple_add_2 _ _)
      (tuple_addW1 t b vs.toArray ws.toArray n n2 dd dd2 sl sl2 (by simpa using hv) (by simp [hw])) ⟨ho, ho2, h1 hw⟩
  · refine concat_meets ⟨_, ho, rfl⟩ ⟨_, ho2, rfl⟩ noFill_tuple_add seq_tuple_add PySem.F.slot_tuple_add PySem.F.entry_tuple_add (PySem.F.args_tuple_add_2 _ _)
      (tuple_addW2 t b vs.toArray ws.toArray n n2 dd dd2 sl sl2 (by simpa using hv) (by simpa using hw) (by rw [List.size_toArray, List.size_toArray]; exact hsz)) ⟨ho, ho2, ?_⟩
    rw [e]
    exact h2 hw

/-! ### t[a:b], not the whole -/
/-- a slice's bound as a place among n (d where it is left out) -/
def sIx (n d : Nat) : Option Int → Nat
  | none => d
  | some v => if v < 0 then (v + (n : Int)).toNat else min v.toNat n
theorem sIx_none (n d : Nat) : sIx n d none = d := rfl
theorem sIx_nat (n d k : Nat) : sIx n d (some (k : Int)) = min k n := by
  show (if (k : Int) < 0 then ((k : Int) + (n : Int)).toNat else min (k : Int).toNat n) = min k n
  rw [if_neg (by omega), Int.toNat_natCast]
theorem sIx_le (n d : Nat) (hd : d ≤ n) (o : Option Int) : sIx n d o ≤ n := by
  cases o with
  | none => exact hd
  | some v =>
    show (if v < 0 then (v + (n : Int)).toNat else min v.toNat n) ≤ n
    by_cases hv : v < 0
    · rw [if_pos hv]; omega
    · rw [if_neg hv]; exact Nat.min_le_right _ _
theorem clip_eq (v : Int) (n d : Nat) : (if v < 0 then max (v + (n : Int)) 0 else min v (n : Int)) = ((sIx n d (some v) : Nat) : Int) := by
  show (if v < 0 then max (v + (n : Int)) 0 else min v (n : Int)) = (((if v < 0 then (v + (n : Int)).toNat else min v.toNat n) : Nat) : Int)
  by_cases hv : v < 0
  · simp only [if_pos hv]; omega
  · simp only [if_neg hv]; omega
theorem adjust_gen (lo hi : Option Int) (n : Nat) : Builtin.Slice.sliceAdjust lo hi 1 (n : Int) = (((sIx n 0 lo : Nat) : Int), ((sIx n n hi : Nat) : Int)) := by
  have h1 : ¬ ((1 : Int) < 0) := by omega
  unfold Builtin.Slice.sliceAdjust
  simp only [h1, if_false]
  refine Prod.ext ?_ ?_
  · cases lo with
    | none => rfl
    | some v => exact clip_eq v n 0
  · cases hi with
    | none => rfl
    | some v => exact clip_eq v n n
theorem places_gen (i j : Nat) : Builtin.Slice.slicePlaces (i : Int) (j : Int) 1 = j - i := by
  unfold Builtin.Slice.slicePlaces
  have h1 : (1 : Int) > 0 := by omega
  simp only [h1, if_true, Int.ediv_one]
  split <;> omega
theorem slicePart_ {v : Value} {o : Option Int} {Q : Option Int → Shared → Prop} (p : IsPart v o) (h : Q o s) : wpAny (model prog w) A (Builtin.Slice.slicePartIndex v) Q E s := by
  cases p with
  | none => exact slicePart_none h
  | int i t => exact slicePart_int h
theorem sliceApplied_gen {sl : Addr} {vl vu : Value} {lo hi : Option Int} {n : Nat} {Q : Int × Int × Nat → Shared → Prop} (hs : s.heap.IsSliceOf sl vl vu .none) (pl : IsPart vl lo) (pu : IsPart vu hi)
    (h : Q (((sIx n 0 lo : Nat) : Int), 1, sIx n n hi - sIx n 0 lo) s) : wpAny (model prog w) A (Builtin.Slice.sliceApplied (.ref sl) (pure (n : Int))) Q E s := by
  obtain ⟨os, hos, hcs, hds⟩ := id hs
  unfold Builtin.Slice.sliceApplied Builtin.Slice.sliceFields
  refine wpAny_bind (wpAny_bind (wpAny_field hos hds (x := vl) rfl (wpAny_bind (wpAny_field hos hds (x := vu) rfl (wpAny_bind (wpAny_field hos hds (x := .none) rfl (wpAny_pure ?_)))))))
  refine wpAny_bind (slicePart_none ?_)
  show wpAny _ _ (if ((1 : Int) == 0) = true then _ else _) _ _ s
  rw [if_neg (by decide)]
  refine wpAny_bind (slicePart_ pl (wpAny_bind (slicePart_ pu (wpAny_bind (wpAny_pure ?_)))))
  show wpAny _ _ (match Builtin.Slice.sliceAdjust lo hi 1 (n : Int) with | (lo, hi) => pure (lo, (1 : Int), Builtin.Slice.slicePlaces lo hi 1)) _ _ s
  rw [adjust_gen lo hi n]
  show wpAny _ _ (pure (((sIx n 0 lo : Nat) : Int), (1 : Int), Builtin.Slice.slicePlaces ((sIx n 0 lo : Nat) : Int) ((sIx n n hi : Nat) : Int) 1)) _ _ s
  rw [places_gen]
  exact wpAny_pure h
theorem pick_gen (xs : Array Value) (i k : Nat) : ((List.range k).filterMap fun (m : Nat) => xs[((i : Int) + (m : Int) * 1).toNat]?).toArray = ((xs.toList.drop i).take k).toArray := by
  have e : (fun (m : Nat) => xs[((i : Int) + (m : Int) * 1).toNat]?) = fun m => xs[i + m]? := by
    funext m
    have : ((i : Int) + (m : Int) * 1).toNat = i + m := by omega
    rw [this]
  rw [e]
  have := pick_run xs i k
  rw [List.filterMap_map] at this
  have e2 : ((fun x => xs[x]?) ∘ fun x => i + x) = fun m => xs[i + m]? := rfl
  rw [e2] at this
  rw [this]

theorem getItem_tuple_cut {t sl : Addr} {items : Array Value} {vl vu : Value} {lo hi : Option Int} {Q : Value → Shared → Prop} (ht : IsTup s.heap t items) (hs : s.heap.IsSliceOf sl vl vu .none) (pl : IsPart vl lo) (pu : IsPart vu hi)
    (hw : ¬ (sIx items.size 0 lo = 0 ∧ sIx items.size items.size hi = items.size))
    (h : Q (.ref s.heap.objs.size) { s with heap := s.heap.push { cls := .type "tuple", data := .seq ((items.toList.drop (sIx items.size 0 lo)).take (sIx items.size items.size hi - sIx items.size 0 lo)).toArray } })
    (hsz : items.size ≤ sizeLine) : wpAny (model prog w) A (getItem (.ref t) (.ref sl)) Q E s := by
  have htake : sizeOk (.seq ((items.toList.drop (sIx items.size 0 lo)).take (sIx items.size items.size hi - sIx items.size 0 lo)).toArray) := by
    show ((items.toList.drop (sIx items.size 0 lo)).take (sIx items.size items.size hi - sIx items.size 0 lo)).toArray.size ≤ sizeLine
    rw [List.size_toArray, List.length_take, List.length_drop, Array.length_toList]
    omega
  have hj : sIx items.size items.size hi ≤ items.size := sIx_le _ _ (Nat.le_refl _) hi
  obtain ⟨os, hos, hcs, hds⟩ := id hs
  have hTs : s.TypeIs (.ref sl) "slice" := ⟨os, hos, hcs⟩
  unfold getItem
  try with_reducible refine wpAny_holding ?_
  first | refine wpAny_bind (wpAny_pure ?_) | skip
  refine wpAny_bind (wpAny_sequenceKey ht.typeIs (by decide) ?_)
  refine wpAny_bind (wpAny_callSpecial?_slot (name := Str.ofString "__getitem__") ht.typeIs PyProof.Rows.slot_tuple_getitem
    (wpAny_call_entry PyProof.Rows.slot_tuple_getitem ht.typeIs entry_tuple_getitem ?_ (args_tuple_getitem _ _)))
  show wpAny _ _ (Builtin.Tuple.tupleItemsOf (.ref t) >>= _) _ _ s
  refine wpAny_bind (tupleItemsOf_ ht ?_)
  refine wpAny_bind (wpAny_typeOf hTs ?_)
  rw [if_pos (by decide)]
  refine wpAny_bind (sliceApplied_gen hs pl pu ?_)
  have hno : ¬ ((((sIx items.size 0 lo : Nat) : Int) == 0 && (1 : Int) == 1 && (sIx items.size items.size hi - sIx items.size 0 lo) == items.size) = true) := by
    intro q
    rw [Bool.and_eq_true, Bool.and_eq_true] at q
    have q1 : ((sIx items.size 0 lo : Nat) : Int) = 0 := eq_of_beq q.1.1
    have q2 : sIx items.size items.size hi - sIx items.size 0 lo = items.size := eq_of_beq q.2
    exact hw ⟨by omega, by omega⟩
  show wpAny _ _ (if (((sIx items.size 0 lo : Nat) : Int) == 0 && (1 : Int) == 1 && (sIx items.size items.size hi - sIx items.size 0 lo) == items.size) = true then _ else _) _ _ s
  rw [if_neg hno, pick_gen]
  first
    | exact wpAny_bind (m := Builtin.Tuple.tupleExact _) (wpAny_newObj_type (wpAny_pure ⟨_, rfl, wpAny_pure h⟩) htake)
    | exact wpAny_bind (m := Builtin.Tuple.tupleExact _) (wpAny_newObj_type (wpAny_bind (wpAny_pure (wpAny_pure ⟨_, rfl, wpAny_pure h⟩))) htake)
    | exact wpAny_bind (wpAny_bind (m := Builtin.Tuple.tupleExact _) (wpAny_newObj_type (wpAny_pure (wpAny_pure ⟨_, rfl, wpAny_pure h⟩)) htake))
    | exact wpAny_bind (wpAny_bind (m := Builtin.Tuple.tupleExact _) (wpAny_newObj_type (wpAny_pure ⟨_, rfl, wpAny_pure h⟩) htake))
end
end HT

namespace L2
open PySem PySem.Spec PyProof.Rows

/-! ### the parts of a slice -/
abbrev TO := St → Hp → (Option Int → Hp → Prop) → Prop
/-- a slice's part (left out, or an int) -/
def PO (X : Cx) (e : Option Expr) (t : TO) : Prop :=
  ∀ (pins : List (Addr × Obj)) (s : Shared) (σ : St) (H : Hp) (Q : Option Int → Hp → Prop), Inv X pins σ H s → t σ H Q →
    wpAny (model X.prog X.w) X.A (evalPart e X.env) (fun u s' => ∃ o H', Inv X pins σ H' s' ∧ IsPart u o ∧ Q o H') X.xe s
def tNoPart : TO := fun _ H Q => Q none H
def tPart (t : TE) : TO := fun σ H Q => t σ H fun x H1 => ∃ i, x = .int i ∧ Q (some i) H1

theorem intsAre_of {ns : List Int} : ∀ {us : List Value}, Vals (ns.map V.int) us → IntsAre us ns := by
  induction ns with
  | nil => intro us r; rw [List.map_nil] at r; cases r; exact .nil
  | cons n ns ih =>
    intro us r
    rw [List.map_cons] at r
    cases r with
    | cons r1 r2 =>
      obtain ⟨t, e⟩ := r1
      subst e
      exact .cons n t (ih r2)

section
variable {X : Cx} {e : Expr} {te : TE} {lo hi : Option Expr} {tl th : TO} {pos p2 : Pos}

theorem po_none : PO X none tNoPart := by
  intro pins s σ H Q I h
  rw [evalPart_none]
  exact wpAny_pure ⟨none, H, I, .none, h⟩
theorem po_some (h : PE X e te) : PO X (some e) (tPart te) := by
  intro pins s σ H Q I hw
  rw [evalPart_some]
  refine thn (h pins s σ H _ I hw) fun u s1 ⟨x, H1, I1, r1, q1⟩ => ?_
  obtain ⟨i, rfl, q⟩ := q1
  obtain ⟨t, rfl⟩ := r1
  exact ⟨some i, H1, I1, .int i t, q⟩

/-- what a slice of a value is, by values: the slice object stands at sl -/
def SlR (X : Cx) (r : V → Option Int → Option Int → Hp → VK → Prop) : Prop :=
  ∀ (pins : List (Addr × Obj)) (s : Shared) (σ : St) (H : Hp) (x : V) (v vl vu : Value) (lo hi : Option Int) (sl : Addr) (Q : VK), Inv X pins σ H s → RelV x v → s.heap.IsSliceOf sl vl vu .none → IsPart vl lo → IsPart vu hi → r x lo hi H Q →
    ∃ T id, typeLookup (.type T) "__getitem__" = pure (some (.builtin id)) ∧ s.TypeIs v T ∧ wpAny (model X.prog X.w) X.A (getItem v (.ref sl)) (EP X pins σ Q) X.xe s
theorem SlR.or {r r' : V → Option Int → Option Int → Hp → VK → Prop} (h : SlR X r) (h' : SlR X r') : SlR X (fun x lo hi H Q => r x lo hi H Q ∨ r' x lo hi H Q) := by
  intro pins s σ H x v vl vu lo hi sl Q I rx hs pl pu q
  rcases q with q | q
  · exact h pins s σ H x v vl vu lo hi sl Q I rx hs pl pu q
  · exact h' pins s σ H x v vl vu lo hi sl Q I rx hs pl pu q
def tSl (r : V → Option Int → Option Int → Hp → VK → Prop) (te : TE) (tl th : TO) : TE := fun σ H Q => te σ H fun x H1 => tl σ H1 fun l H2 => th σ H2 fun u H3 => r x l u H3 Q
/-- a[lo:hi], any a -/
theorem pe_slice {r : V → Option Int → Option Int → Hp → VK → Prop} (hr : SlR X r) (he : PE X e te) (hl : PO X lo tl) (hu : PO X hi th) : PE X (.Subscript e (.Slice lo hi none p2) pos) (tSl r te tl th) := by
  intro pins s σ H Q I h
  refine Subscript_ (thn (he pins s σ H _ I h) fun v s1 ⟨x, H1, I1, r1, q1⟩ => ?_)
  refine wpAny_Slice (thn (hl pins s1 σ H1 _ I1 q1) fun vl s2 ⟨l, H2, I2, pl, q2⟩ => thn (hu pins s2 σ H2 _ I2 q2) fun vu s3 ⟨u, H3, I3, pu, q3⟩ => ?_)
  rw [evalPart_none]
  refine wpAny_pure ?_
  have I4 : Inv X pins σ H3 { s3 with heap := s3.heap.push { cls := .type "slice", data := .fields #[vl, vu, .none] } } := I3.kept (t' := s3.toks) fun b ob q => Heap.get?_push_of_some _ q
  obtain ⟨T, id, hT, ht, hg⟩ := hr pins { s3 with heap := s3.heap.push { cls := .type "slice", data := .fields #[vl, vu, .none] } } σ H3 x v vl vu l u s3.heap.objs.size Q I4 r1 (Heap.IsSliceOf.new ..) pl pu q3
  show wpAny (model X.prog X.w) X.A (subscriptTail e (.Slice lo hi none p2) v (.ref s3.heap.objs.size)) (EP X pins σ Q) X.xe { s3 with heap := s3.heap.push { cls := .type "slice", data := .fields #[vl, vu, .none] } }
  exact tail_any (ops := [.ref s3.heap.objs.size, v]) ht hT hg (by with_unfolding_all rfl)

/-- the items of xs[lo:hi] -/
def cutV (xs : List V) (lo hi : Option Int) : List V := (xs.drop (HT.sIx xs.length 0 lo)).take (HT.sIx xs.length xs.length hi - HT.sIx xs.length 0 lo)
theorem cutV_length (xs : List V) (lo hi : Option Int) : (cutV xs lo hi).length ≤ xs.length := by
  unfold cutV
  rw [List.length_take, List.length_drop]
  omega
/-- t[lo:hi], not the whole of it (the whole would be t itself) -/
def rSlT (K : PySem.W.Frag) : V → Option Int → Option Int → Hp → VK → Prop := fun x lo hi H Q => ∃ a xs, x = .ref a ∧ SqT K H a xs ∧
  ¬ (HT.sIx xs.length 0 lo = 0 ∧ HT.sIx xs.length xs.length hi = xs.length) ∧ ∀ p, H p = none → Q (.ref p) (upd H p (.tup (cutV xs lo hi)))
theorem sl_tup : SlR X (rSlT X.K) := by
  intro pins s σ H x v vl vu lo hi sl Q I rx hs pl pu h
  obtain ⟨a, xs, rfl, hx, hw, q⟩ := h
  cases rx
  obtain ⟨its, r, ht, hz⟩ := I.tuple hx
  have hlen : its.toArray.size = xs.length := by rw [List.size_toArray]; exact r.length.symm
  refine ⟨"tuple", _, PyProof.Rows.slot_tuple_getitem.lookup, ht.typeIs, ?_⟩
  refine HT.getItem_tuple_cut ht hs pl pu (by rw [hlen]; exact hw) ?_ (by rw [hlen]; exact hz)
  rw [hlen]
  refine ⟨.ref s.heap.objs.size, _, I.laid (t' := s.toks) (o := .tup (cutV xs lo hi)) (fun b ob q => Heap.get?_push_of_some _ q) (Nat.le_refl _) ?_, rfl, q _ (I.hok.fresh (Nat.le_refl _))⟩
  exact ⟨Nat.le_trans (cutV_length xs lo hi) hz, _, (r.drop (HT.sIx xs.length 0 lo)).take (HT.sIx xs.length xs.length hi - HT.sIx xs.length 0 lo), IsTup.new _ _⟩

/-! ### t < u, t + u -/
def rLtT (K : PySem.W.Frag) : R2 := fun x y H Q => ∃ a b ns ms, x = .ref a ∧ y = .ref b ∧ SqT K H a (ns.map V.int) ∧ SqT K H b (ms.map V.int) ∧ Q (.bl (HT.lexLt ns ms)) H
theorem op_ltT (hu : X.A.units < cLine) : OpR X (compareOp .Lt) (rLtT X.K) := by
  intro pins s σ H x y v u Q I rx ry h
  obtain ⟨a, b, ns, ms, rfl, rfl, ha, hb, q⟩ := h
  cases rx
  cases ry
  obtain ⟨its, r1, p1, _⟩ := I.tuple ha
  obtain ⟨its2, r2, p2, _⟩ := I.tuple hb
  have i1 : IntsAre its.toArray.toList ns := intsAre_of r1
  have i2 : IntsAre its2.toArray.toList ms := intsAre_of r2
  exact HT.lt_tupInts p1 p2 i1 i2 hu ⟨.bl (HT.lexLt ns ms), H, I, rfl, q⟩
/-- t + u, t not empty: u empty gives t itself -/
def rCatT (K : PySem.W.Frag) : R2 := fun x y H Q => ∃ a b xs ys, x = .ref a ∧ y = .ref b ∧ SqT K H a xs ∧ SqT K H b ys ∧ xs ≠ [] ∧ xs.length + ys.length ≤ sizeLine ∧
  (ys = [] → Q (.ref a) H) ∧ (ys ≠ [] → ∀ p, H p = none → Q (.ref p) (upd H p (.tup (xs ++ ys))))
theorem Vals.nil_iff {xs : List V} {us : List Value} (r : Vals xs us) : us = [] ↔ xs = [] := by
  cases r with
  | nil => simp
  | cons _ _ => simp
theorem op_catT : OpR X (binaryOp .Add) (rCatT X.K) := by
  intro pins s σ H x y v u Q I rx ry h
  obtain ⟨a, b, xs, ys, rfl, rfl, ha, hb, hx, hz, q1, q2⟩ := h
  cases rx
  cases ry
  obtain ⟨its, r1, p1, _⟩ := I.tuple ha
  obtain ⟨its2, r2, p2, _⟩ := I.tuple hb
  refine HT.cat_tup p1 p2 (fun z => hx (r1.nil_iff.mp z)) (fun z => ⟨.ref a, H, I, rfl, q1 (r2.nil_iff.mp z)⟩) (fun z => ?_) (by rw [← r1.length, ← r2.length]; exact hz)
  refine ⟨.ref s.heap.objs.size, _, I.laid (t' := s.toks) (o := .tup (xs ++ ys)) (fun b ob q => Heap.get?_push_of_some _ q) (Nat.le_refl _) ?_, rfl, q2 (fun w => z (r2.nil_iff.mpr w)) _ (I.hok.fresh (Nat.le_refl _))⟩
  exact ⟨by rw [List.length_append]; exact hz, _, r1.append r2, IsTup.new _ _⟩
/-- tuple(t) -/
theorem call_tupleT : CallR X (.type "tuple") (fun xs H Q => ∃ a ys, xs = [.ref a] ∧ SqT X.K H a ys ∧ Q (.ref a) H) := by
  intro pins s σ H xs us Q I r h
  obtain ⟨a, ys, rfl, ha, q⟩ := h
  obtain ⟨u, rfl, ru⟩ := vals1 r
  cases ru
  obtain ⟨its, _, p1, _⟩ := I.tuple ha
  exact call_tuple_same (items := its.toArray) p1 ⟨.ref a, H, I, rfl, q⟩
end
end L2

namespace L2
open PySem PySem.Spec PyProof.Rows

/-! ### places -/
/-- the place that an index of any sign means -/
def ixN (n : Nat) (i : Int) : Option Nat := if 0 ≤ i then (if i < n then some i.toNat else none) else if -(n : Int) ≤ i then some (i + n).toNat else none
def atI {α : Type} (xs : List α) (i : Int) : Option α := (ixN xs.length i).bind fun j => xs[j]?
theorem ixN_seq {n : Nat} {i : Int} {j : Nat} (h : ixN n i = some j) : seqIndex? i n = some j ∧ j < n ∧ -(n : Int) ≤ i ∧ i < n := by
  unfold ixN at h
  by_cases h0 : 0 ≤ i
  · rw [if_pos h0] at h
    by_cases h1 : i < n
    · rw [if_pos h1] at h
      have e : i.toNat = j := Option.some.inj h
      exact ⟨by rw [seqIndex_of h0 h1, e], by omega, by omega, h1⟩
    · rw [if_neg h1] at h; cases h
  · rw [if_neg h0] at h
    by_cases h1 : -(n : Int) ≤ i
    · rw [if_pos h1] at h
      have e : (i + n).toNat = j := Option.some.inj h
      exact ⟨by rw [seqIndex_neg (by omega) h1, e], by omega, h1, by omega⟩
    · rw [if_neg h1] at h; cases h
theorem atI_get {α : Type} {xs : List α} {i : Int} {v : α} (h : atI xs i = some v) : ∃ j, seqIndex? i xs.length = some j ∧ xs[j]? = some v ∧ j < xs.length ∧ -(xs.length : Int) ≤ i ∧ i < xs.length := by
  unfold atI at h
  cases e : ixN xs.length i with
  | none => rw [e] at h; cases h
  | some j =>
    rw [e] at h
    obtain ⟨h1, h2, h3, h4⟩ := ixN_seq e
    exact ⟨j, h1, h, h2, h3, h4⟩
theorem atI_nat {α : Type} {xs : List α} {j : Nat} {v : α} (h : xs[j]? = some v) : atI xs (j : Int) = some v := by
  have hj : j < xs.length := (List.getElem?_eq_some_iff.mp h).1
  have e : ixN xs.length (j : Int) = some j := by
    unfold ixN
    rw [if_pos (by omega), if_pos (by omega)]; simp
  unfold atI; rw [e]; exact h
theorem atI_last {α : Type} (xs : List α) (v : α) : atI (xs ++ [v]) (-1) = some v := by
  have hl : (xs ++ [v]).length = xs.length + 1 := by simp
  have e : ixN (xs ++ [v]).length (-1) = some xs.length := by
    unfold ixN
    rw [hl, if_neg (by decide), if_pos (by omega)]
    congr 1
    omega
  unfold atI
  rw [e]
  show (xs ++ [v])[xs.length]? = some v
  simp

/-! ### what may be subscripted -/
/-- what stands as an index of a plain subscript -/
def PlainIx (b : Expr) : Prop := ∀ o i, subscripted b false o i = operate [o, i] (getItem o i)
/-- a subscript by values -/
def IxR (X : Cx) (r : R2) : Prop :=
  ∀ (value slice : Expr) (pins : List (Addr × Obj)) (s : Shared) (σ : St) (H : Hp) (x y : V) (v u : Value) (Q : VK), Inv X pins σ H s → RelV x v → RelV y u → r x y H Q →
    subscripted slice false v u = operate [v, u] (getItem v u) → wpAny (model X.prog X.w) X.A (subscriptTail value slice v u) (EP X pins σ Q) X.xe s
/-- a call of a builtin's method by values: the receiver, the arguments -/
def MtR (X : Cx) (id : String) (r : V → List V → Hp → VK → Prop) : Prop :=
  ∀ (pins : List (Addr × Obj)) (s : Shared) (σ : St) (H : Hp) (x : V) (xs : List V) (v : Value) (us : List Value) (Q : VK), Inv X pins σ H s → RelV x v → Vals xs us → r x xs H Q →
    wpAny (model X.prog X.w) X.A (call (.builtin id) (v :: us)) (EP X pins σ Q) X.xe s
section
variable {X : Cx} {a b : Expr} {ta tb : TE} {pos : Pos}
theorem IxR.or {r r' : R2} (h : IxR X r) (h' : IxR X r') : IxR X (fun x y H Q => r x y H Q ∨ r' x y H Q) := by
  intro value slice pins s σ H x y v u Q I rx ry q hs
  rcases q with q | q
  · exact h value slice pins s σ H x y v u Q I rx ry q hs
  · exact h' value slice pins s σ H x y v u Q I rx ry q hs
theorem MtR.or {id : String} {r r' : V → List V → Hp → VK → Prop} (h : MtR X id r) (h' : MtR X id r') : MtR X id (fun x xs H Q => r x xs H Q ∨ r' x xs H Q) := by
  intro pins s σ H x xs v us Q I rx rs q
  rcases q with q | q
  · exact h pins s σ H x xs v us Q I rx rs q
  · exact h' pins s σ H x xs v us Q I rx rs q
/-- a[b] -/
theorem pe_ix {r : R2} (hr : IxR X r) (ha : PE X a ta) (hb : PE X b tb) (hs : PlainIx b) : PE X (.Subscript a b pos) (tOp r ta tb) := by
  intro pins s σ H Q I h
  exact Subscript_ (binT ha hb I h fun v u s2 x y H2 I2 rx ry q => hr a b pins s2 σ H2 x y v u Q I2 rx ry q (hs _ _))

def rIxL (K : PySem.W.Frag) : R2 := fun x y H Q => ∃ p xs i v, x = .ref p ∧ y = .int i ∧ SqL K H p xs ∧ atI xs i = some v ∧ Q v H
def rIxT (K : PySem.W.Frag) : R2 := fun x y H Q => ∃ p xs i v, x = .ref p ∧ y = .int i ∧ SqT K H p xs ∧ atI xs i = some v ∧ Q v H
def rIxS : R2 := fun x y H Q => ∃ z i c, x = .str z ∧ y = .int i ∧ z.length ≤ sizeLine ∧ atI z.cps.toList i = some c ∧ Q (.str ⟨#[c]⟩) H
theorem ix_list : IxR X (rIxL X.K) := by
  intro value slice pins s σ H x y v u Q I rx ry h hs
  obtain ⟨p, xs, i, z, rfl, rfl, hq, he, q⟩ := h
  cases rx
  obtain ⟨t, rfl⟩ := ry
  obtain ⟨its, r, pl, hz⟩ := I.list hq
  obtain ⟨j, h1, h2, h3, h4, h5⟩ := atI_get he
  obtain ⟨w, ew, rw'⟩ := r.get h2
  have hl := r.length
  have hn := line63
  have fin : EP X pins σ Q w s := ⟨z, H, I, rw', q⟩
  by_cases h0 : 0 ≤ i
  · have hj : i.toNat = j := by
      rw [seqIndex_of h0 h5] at h1
      exact Option.some.inj h1
    exact item_listR pl.isList h0 (by omega) (by rw [hj]; simpa using ew) fin hs
  · have hj : (i + (its.toArray.size : Int)).toNat = j := by
      rw [seqIndex_neg (by omega) h4] at h1
      rw [List.size_toArray, ← hl]
      exact Option.some.inj h1
    exact subscriptTail_builtinR (x := w) pl.isList.typeIs slot_list_getitem.lookup
      (wpAny_getItem_list_neg (Q := fun r s' => r = w ∧ EP X pins σ Q r s') pl.isList (by omega) (by rw [List.size_toArray] <;> omega) (by omega) (by rw [hj]; simpa using ew) ⟨rfl, fin⟩) hs
theorem ix_tup : IxR X (rIxT X.K) := by
  intro value slice pins s σ H x y v u Q I rx ry h hs
  obtain ⟨p, xs, i, z, rfl, rfl, hq, he, q⟩ := h
  cases rx
  obtain ⟨t, rfl⟩ := ry
  obtain ⟨its, r, pl, hz⟩ := I.tuple hq
  obtain ⟨j, h1, h2, h3, h4, h5⟩ := atI_get he
  obtain ⟨w, ew, rw'⟩ := r.get h2
  have hl := r.length
  have hn := line63
  have fin : EP X pins σ Q w s := ⟨z, H, I, rw', q⟩
  exact subscriptTail_builtinR (x := w) pl.typeIs slot_tuple_getitem.lookup
    (getItem_tuple (j := j) (Q := fun r s' => r = w ∧ EP X pins σ Q r s') pl (by omega) (by omega) (by rw [List.size_toArray, ← hl]; exact h1) (by simpa using ew) ⟨rfl, fin⟩) hs
theorem ix_str : IxR X rIxS := by
  intro value slice pins s σ H x y v u Q I rx ry h hs
  obtain ⟨z, i, c, rfl, rfl, hz, he, q⟩ := h
  obtain ⟨t, rfl⟩ := rx
  obtain ⟨t', rfl⟩ := ry
  obtain ⟨j, h1, h2, h3, h4, h5⟩ := atI_get he
  have hl : z.cps.toList.length = z.length := by simp [Str.length]
  rw [hl] at h1 h4 h5
  have hn := line63
  exact tail_any (typeIs_str s z t) slot_str_getitem.lookup (getItem_str (c := c) (by
    have e1 : decide (i < -(2 ^ 63 : Int)) = false := decide_eq_false (by omega)
    have e2 : decide (i ≥ 2 ^ 63) = false := decide_eq_false (by omega)
    rw [e1, e2, Bool.or_false]) (by rw [h1]; simpa using h2) ⟨.str ⟨#[c]⟩, H, I.tok _, ⟨_, rfl⟩, q⟩) hs
/-- list, tuple or str -/
def rIx (K : PySem.W.Frag) : R2 := fun x y H Q => rIxL K x y H Q ∨ rIxT K x y H Q ∨ rIxS x y H Q
theorem ix_seq : IxR X (rIx X.K) := ix_list.or (ix_tup.or ix_str)

/-! ### xs[i] = v, any sign -/
/-- the list's object behind a store -/
theorem mapSeq_set (its : List Value) (n j : Nat) (u : Value) : Obj.mapSeq (·.setIfInBounds j u) { cls := .type "list", data := .seq its.toArray n } = { cls := .type "list", data := .seq (its.set j u).toArray n } := by
  simp [Obj.mapSeq]
theorem Inv.lst {pins : List (Addr × Obj)} {σ : St} {H : Hp} {s : Shared} {p : Addr} {xs : List V} (I : Inv X pins σ H s) (h : H p = some (.lst xs)) :
    ∃ (its : List Value) (n : Nat), Vals xs its ∧ s.heap.get? p = some { cls := .type "list", data := .seq its.toArray n } ∧ xs.length ≤ sizeLine := by
  obtain ⟨z, its, n, r, e⟩ := I.hok p _ h
  exact ⟨its, n, r, e, z⟩
/-- the list at p is written by an update of its object -/
theorem Inv.lstUpd {pins : List (Addr × Obj)} {σ : St} {H : Hp} {s : Shared} {p : Addr} {xs ys : List V} {its its' : List Value} {n n' : Nat} {f : Obj → Obj} (I : Inv X pins σ H s) (h : H p = some (.lst xs))
    (ho : s.heap.get? p = some { cls := .type "list", data := .seq its.toArray n }) (hf : f { cls := .type "list", data := .seq its.toArray n } = { cls := .type "list", data := .seq its'.toArray n' }) (r : Vals ys its') (hz : ys.length ≤ sizeLine) (t : Nat) :
    Inv X pins σ (upd H p (.lst ys)) { s with heap := s.heap.update p f, toks := t } := by
  have e : (s.heap.update p f).get? p = some { cls := .type "list", data := .seq its'.toArray n' } := by
    rw [Heap.get?_update_self f ho (by rw [hf] <;> rfl), hf]
  refine I.write (x := p) (e := p) (by rw [h]; trivial) (.inl rfl) (fun b u hb q => (Heap.get?_update_other _ _ (Ne.symm hb)).trans q) ⟨_, e⟩ ?_
  exact ⟨hz, its', n', r, e⟩
def rSetL : V → V → V → Hp → (Hp → Prop) → Prop := fun o i v H Q => ∃ p xs k j, o = .ref p ∧ i = .int k ∧ H p = some (.lst xs) ∧ ixN xs.length k = some j ∧ Q (upd H p (.lst (xs.set j v)))
theorem set_list : PSet X rSetL := by
  intro pins s σ H o i v ov iv u Q I ro ri rv h
  obtain ⟨p, xs, k, j, rfl, rfl, hp, hj, q⟩ := h
  cases ro
  obtain ⟨t, rfl⟩ := ri
  obtain ⟨its, n, r, ho, hz⟩ := I.lst hp
  obtain ⟨h1, h2, h3, h4⟩ := ixN_seq hj
  have hl := r.length
  have hn := line63
  have I' : Inv X pins σ (upd H p (.lst (xs.set j v))) { s with heap := s.heap.update p (Obj.mapSeq (·.setIfInBounds j u)) } :=
    I.lstUpd hp ho (mapSeq_set its n j u) (r.set rv j) (by rw [List.length_set]; exact hz) s.toks
  by_cases h0 : 0 ≤ k
  · have hk : k.toNat = j := by
      rw [seqIndex_of h0 h4] at h1
      exact Option.some.inj h1
    exact PySem.W.ki_setAt ho h0 (by omega) (by rw [List.size_toArray, ← hl]; exact h4) (by rw [hk]; exact ⟨_, I', q⟩)
  · have hk : (k + (its.toArray.size : Int)).toNat = j := by
      rw [seqIndex_neg (by omega) h3] at h1
      rw [List.size_toArray, ← hl]
      exact Option.some.inj h1
    exact PySem.W.ki_setBack ho (by omega) (by rw [List.size_toArray, ← hl]; exact h3) (by omega) (by rw [hk]; exact ⟨_, I', q⟩)

/-! ### slices -/
theorem slice_bounds (lo hi : Option Int) (n : Nat) : (sliceBounds lo hi none n).1 = ((HT.sIx n 0 lo : Nat) : Int) ∧ (sliceBounds lo hi none n).2.1 = ((HT.sIx n n hi : Nat) : Int) ∧ (sliceBounds lo hi none n).2.2 = 1 := by
  refine ⟨?_, ?_, rfl⟩
  · cases lo with
    | none => simp [sliceBounds, HT.sIx]
    | some i =>
      simp only [sliceBounds, HT.sIx, Option.getD_none, show (1 : Int) > 0 by decide, if_true]
      by_cases h : i < 0
      · simp only [h, if_true] <;> omega
      · simp only [h, if_false] <;> omega
  · cases hi with
    | none => simp [sliceBounds, HT.sIx]
    | some i =>
      simp only [sliceBounds, HT.sIx, Option.getD_none, show (1 : Int) > 0 by decide, if_true]
      by_cases h : i < 0
      · simp only [h, if_true] <;> omega
      · simp only [h, if_false] <;> omega
theorem slicePick_cut (its : List Value) (lo hi : Option Int) : slicePick its.toArray lo hi none = ((its.drop (HT.sIx its.length 0 lo)).take (HT.sIx its.length its.length hi - HT.sIx its.length 0 lo)).toArray := by
  obtain ⟨h1, h2, h3⟩ := slice_bounds lo hi its.toArray.size
  unfold slicePick
  rw [h1, h2, h3]
  simp only [sliceRange_one, pick_run, List.size_toArray] <;> rfl
/-- xs[lo:hi] of a list: a new list -/
def rSlL (K : PySem.W.Frag) : V → Option Int → Option Int → Hp → VK → Prop := fun x lo hi H Q => ∃ a xs, x = .ref a ∧ SqL K H a xs ∧ ∀ p, H p = none → Q (.ref p) (upd H p (.lst (cutV xs lo hi)))
theorem sl_list : SlR X (rSlL X.K) := by
  intro pins s σ H x v vl vu lo hi sl Q I rx hs pl pu h
  obtain ⟨a, xs, rfl, hx, q⟩ := h
  cases rx
  obtain ⟨its, r, ht, hz⟩ := I.list hx
  have hlen := r.length
  refine ⟨"list", _, slot_list_getitem.lookup, ht.isList.typeIs, ?_⟩
  refine wpAny_getItem_list_slice ht.isList hs pl pu .none (by simp) ?_ (by rw [List.size_toArray] <;> omega)
  rw [slicePick_cut, ← hlen]
  refine ⟨.ref s.heap.objs.size, _, I.laid (t' := s.toks) (o := .lst (cutV xs lo hi)) (fun b ob q => Heap.get?_push_of_some _ q) (Nat.le_refl _) ?_, rfl, q _ (I.hok.fresh (Nat.le_refl _))⟩
  exact ⟨Nat.le_trans (cutV_length xs lo hi) hz, _, 0, (r.drop (HT.sIx xs.length 0 lo)).take (HT.sIx xs.length xs.length hi - HT.sIx xs.length 0 lo), Heap.get?_push_size _ rfl⟩

/-! ### in, not in: flat items -/
def flatV : V → Bool
  | .non => true
  | .bl _ => true
  | .int _ => true
  | .str _ => true
  | _ => false
/-- == of flat values -/
def eqV : V → V → Bool
  | .non, .non => true
  | .bl a, .bl b => a == b
  | .bl a, .int b => (if a then 1 else 0) == b
  | .int a, .bl b => a == (if b then 1 else 0)
  | .int a, .int b => a == b
  | .str a, .str b => a == b
  | _, _ => false
theorem eqAt_V {A : Around} {s : Shared} {y x : V} {u v : Value} (ry : RelV y u) (rx : RelV x v) (fy : flatV y = true) (fx : flatV x = true) : SeqAt.EqAt A s u v (eqV y x) := by
  cases y with
  | non =>
    cases ry
    cases x with
    | non => cases rx; exact SeqAt.EqAt.same _
    | bl b => cases rx; exact SeqAt.EqAt.none_bool b
    | int b => obtain ⟨t, rfl⟩ := rx; exact SeqAt.EqAt.none_int b t
    | str b => obtain ⟨t, rfl⟩ := rx; exact SeqAt.EqAt.none_str b t
    | _ => exact absurd (show false = true from fx) Bool.false_ne_true
  | bl a =>
    cases ry
    cases x with
    | non => cases rx; exact SeqAt.EqAt.bool_none a
    | bl b => cases rx; exact SeqAt.EqAt.bool_bool a b
    | int b => obtain ⟨t, rfl⟩ := rx; exact SeqAt.EqAt.bool_int a b t
    | str b => obtain ⟨t, rfl⟩ := rx; exact SeqAt.EqAt.bool_str a b t
    | _ => exact absurd (show false = true from fx) Bool.false_ne_true
  | int a =>
    obtain ⟨t', rfl⟩ := ry
    cases x with
    | non => cases rx; exact SeqAt.EqAt.int_none a t'
    | bl b => cases rx; exact SeqAt.EqAt.int_bool a t' b
    | int b => obtain ⟨t, rfl⟩ := rx; exact SeqAt.EqAt.int_int a t' b t
    | str b => obtain ⟨t, rfl⟩ := rx; exact SeqAt.EqAt.int_str a t' b t
    | _ => exact absurd (show false = true from fx) Bool.false_ne_true
  | str a =>
    obtain ⟨t', rfl⟩ := ry
    cases x with
    | non => cases rx; exact SeqAt.EqAt.str_none a t'
    | bl b => cases rx; exact SeqAt.EqAt.str_bool a t' b
    | int b => obtain ⟨t, rfl⟩ := rx; exact SeqAt.EqAt.str_int a t' b t
    | str b => obtain ⟨t, rfl⟩ := rx; exact SeqAt.EqAt.str_str a t' b t
    | _ => exact absurd (show false = true from fx) Bool.false_ne_true
  | _ => exact absurd (show false = true from fy) Bool.false_ne_true
/-- the items' answers, read off the values (a value's own answer does not lean on its token) -/
def eqU (x : V) (u : Value) : Bool := match u with
  | .none => eqV .non x
  | .bool b => eqV (.bl b) x
  | .int i _ => eqV (.int i) x
  | .str z _ => eqV (.str z) x
  | _ => false
theorem eqU_of {x y : V} {u : Value} (r : RelV y u) (f : flatV y = true) : eqU x u = eqV y x := by
  cases y with
  | non => cases r; rfl
  | bl b => cases r; rfl
  | int i => obtain ⟨t, rfl⟩ := r; rfl
  | str z => obtain ⟨t, rfl⟩ := r; rfl
  | _ => exact absurd (show false = true from f) Bool.false_ne_true
theorem any_eqU {x : V} : ∀ {xs : List V} {us : List Value}, Vals xs us → xs.all flatV = true → us.any (eqU x) = xs.any fun y => eqV y x
  | _, _, .nil, _ => rfl
  | y :: xs, u :: us, .cons r t, f => by
    rw [List.all_cons, Bool.and_eq_true] at f
    rw [List.any_cons, List.any_cons, eqU_of r f.1, any_eqU t f.2]
theorem mem_eqAt {A : Around} {s : Shared} {x : V} {v : Value} (rx : RelV x v) (fx : flatV x = true) : ∀ {xs : List V} {us : List Value}, Vals xs us → xs.all flatV = true → ∀ u ∈ us, SeqAt.EqAt A s u v (eqU x u)
  | _, _, .nil, _ => fun u hu => by cases hu
  | y :: xs, u :: us, .cons r t, f => fun u' hu => by
    rw [List.all_cons, Bool.and_eq_true] at f
    rcases List.mem_cons.mp hu with rfl | hu
    · rw [eqU_of r f.1]; exact eqAt_V r rx f.1 fx
    · exact mem_eqAt rx fx t f.2 u' hu
def inV (x : V) (xs : List V) : Bool := xs.any fun y => eqV y x
/-- x in a list or tuple of flat items -/
def rIn (K : PySem.W.Frag) (neg : Bool) : R2 := fun x y H Q => ∃ p xs, y = .ref p ∧ (SqL K H p xs ∨ SqT K H p xs) ∧ flatV x = true ∧ xs.all flatV = true ∧ Q (.bl (if neg then !inV x xs else inV x xs)) H
theorem op_in_seq : OpR X (compareOp .In) (rIn X.K false) := by
  intro pins s σ H x y v u Q I rx ry h
  obtain ⟨p, xs, rfl, hq, fx, fs, q⟩ := h
  cases ry
  rcases hq with hq | hq
  · obtain ⟨its, r, pl, hz⟩ := I.list hq
    refine SeqAt.in_listAt (eqU x) pl.isList (fun w hw => mem_eqAt rx fx r fs w (by simpa using hw)) ⟨.bl _, H, I, rfl, ?_⟩
    rw [show its.toArray.any (eqU x) = its.any (eqU x) by simp, any_eqU r fs]
    exact q
  · obtain ⟨its, r, pl, hz⟩ := I.tuple hq
    refine SeqAt.in_tupleAt (eqU x) pl (fun w hw => mem_eqAt rx fx r fs w (by simpa using hw)) ⟨.bl _, H, I, rfl, ?_⟩
    rw [show its.toArray.any (eqU x) = its.any (eqU x) by simp, any_eqU r fs]
    exact q
theorem op_notIn_seq : OpR X (compareOp .NotIn) (rIn X.K true) := by
  intro pins s σ H x y v u Q I rx ry h
  obtain ⟨p, xs, rfl, hq, fx, fs, q⟩ := h
  cases ry
  rcases hq with hq | hq
  · obtain ⟨its, r, pl, hz⟩ := I.list hq
    refine SeqAt.notIn_listAt (eqU x) pl.isList (fun w hw => mem_eqAt rx fx r fs w (by simpa using hw)) ⟨.bl _, H, I, rfl, ?_⟩
    rw [show its.toArray.any (eqU x) = its.any (eqU x) by simp, any_eqU r fs]
    exact q
  · obtain ⟨its, r, pl, hz⟩ := I.tuple hq
    refine SeqAt.notIn_tupleAt (eqU x) pl (fun w hw => mem_eqAt rx fx r fs w (by simpa using hw)) ⟨.bl _, H, I, rfl, ?_⟩
    rw [show its.toArray.any (eqU x) = its.any (eqU x) by simp, any_eqU r fs]
    exact q
theorem op_notIn_str : OpR X (compareOp .NotIn) (fun x y H Q => ∃ i j, x = .str i ∧ y = .str j ∧ Q (.bl (!(!(Builtin.Str.occurrences j i 0 j.length 1).isEmpty))) H) := by
  intro pins s σ H x y v u Q I rx ry h
  obtain ⟨i, j, rfl, rfl, q⟩ := h
  obtain ⟨t, rfl⟩ := rx
  obtain ⟨t', rfl⟩ := ry
  exact notIn_str ⟨.bl _, H, I, rfl, q⟩

/-! ### len, list(x), tuple(x) of any list or tuple that is read -/
theorem call_len_seq : CallR X (.builtin "len") (fun xs H Q => ∃ p ys, xs = [.ref p] ∧ (SqL X.K H p ys ∨ SqT X.K H p ys) ∧ Q (.int ys.length) H) := by
  intro pins s σ H xs us Q I r h
  obtain ⟨p, ys, rfl, hq, q⟩ := h
  obtain ⟨u, rfl, rx⟩ := vals1 r
  cases rx
  have hn := line63
  rcases hq with hq | hq
  · obtain ⟨its, r', pl, hz⟩ := I.list hq
    have hlen := r'.length
    exact Calls.call_len_list pl.isList (by simp only [List.size_toArray] <;> omega) ⟨.int ys.length, H, I.tok _, ⟨s.toks + 1, by rw [List.size_toArray, hlen]⟩, q⟩
  · obtain ⟨its, r', pl, hz⟩ := I.tuple hq
    have hlen := r'.length
    exact len_tuple pl (by simp only [List.size_toArray] <;> omega) ⟨.int ys.length, H, I.tok _, ⟨s.toks + 1, by rw [List.size_toArray, hlen]⟩, q⟩
theorem call_len_str : CallR X (.builtin "len") (fun xs H Q => ∃ z, xs = [.str z] ∧ z.length ≤ sizeLine ∧ Q (.int z.length) H) := by
  intro pins s σ H xs us Q I r h
  obtain ⟨z, rfl, hz, q⟩ := h
  obtain ⟨u, rfl, t, rfl⟩ := vals1 r
  have hn := line63
  exact len_str (by omega) ⟨.int z.length, H, I.tok _, ⟨_, rfl⟩, q⟩
theorem CallR.or {f : Value} {r r' : List V → Hp → VK → Prop} (h : CallR X f r) (h' : CallR X f r') : CallR X f (fun xs H Q => r xs H Q ∨ r' xs H Q) := by
  intro pins s σ H xs us Q I rs q
  rcases q with q | q
  · exact h pins s σ H xs us Q I rs q
  · exact h' pins s σ H xs us Q I rs q
theorem call_list_of : CallR X (.type "list") (fun xs H Q => ∃ p ys, xs = [.ref p] ∧ (SqL X.K H p ys ∨ SqT X.K H p ys) ∧ ∀ l, H l = none → Q (.ref l) (upd H l (.lst ys))) := by
  intro pins s σ H xs us Q I r h
  obtain ⟨p, ys, rfl, hq, q⟩ := h
  obtain ⟨u, rfl, rx⟩ := vals1 r
  cases rx
  have fin : ∀ (its : List Value), Vals ys its → ys.length ≤ sizeLine → ∀ (h' : Heap) (c' : Nat), (∀ b o', s.heap.get? b = some o' → h'.get? b = some o') →
      h'.get? s.heap.objs.size = some { cls := .type "list", dict := none, data := .seq its.toArray c', slots := #[] } → EP X pins σ Q (.ref s.heap.objs.size) { s with heap := h' } := fun its r' hz h' c' kp e =>
    ⟨.ref s.heap.objs.size, _, I.laid (t' := s.toks) kp (Nat.le_refl _) (show ObjOk X.prog X.w _ h' _ (.lst ys) from ⟨hz, its, c', r', e⟩), rfl, q _ (I.hok.fresh (Nat.le_refl _))⟩
  rcases hq with hq | hq
  · obtain ⟨its, r', pl, hz⟩ := I.list hq
    have hlen := r'.length
    obtain ⟨o, ho, hc, n, hd⟩ := pl.isList
    exact call_list_seq p (.inl rfl) ho hc hd (fun h' c' kp e => fin its r' hz h' c' kp e) (by simp only [List.size_toArray] <;> omega)
  · obtain ⟨its, r', pl, hz⟩ := I.tuple hq
    have hlen := r'.length
    obtain ⟨o, ho, hc, n, hd⟩ := pl
    exact call_list_seq p (.inr rfl) ho hc hd (fun h' c' kp e => fin its r' hz h' c' kp e) (by simp only [List.size_toArray] <;> omega)
theorem call_tuple_of : CallR X (.type "tuple") (fun xs H Q => ∃ p ys, xs = [.ref p] ∧ ((SqL X.K H p ys ∧ ∀ l, H l = none → Q (.ref l) (upd H l (.tup ys))) ∨ (SqT X.K H p ys ∧ Q (.ref p) H))) := by
  intro pins s σ H xs us Q I r h
  obtain ⟨p, ys, rfl, h⟩ := h
  obtain ⟨u, rfl, rx⟩ := vals1 r
  cases rx
  rcases h with ⟨hq, q⟩ | ⟨hq, q⟩
  · obtain ⟨its, r', pl, hz⟩ := I.list hq
    have hlen := r'.length
    refine call_tuple_list pl.isList (fun h' kp => ?_) (by simp only [List.size_toArray] <;> omega)
    have I1 : Inv X pins σ H { s with heap := h' } := I.kept (t' := s.toks) kp
    have I2 : Inv X pins σ (upd H h'.objs.size (.tup ys)) { s with heap := h'.push { cls := .type "tuple", data := .seq its.toArray } } :=
      I1.laid (t' := s.toks) (fun b o e => Heap.get?_push_of_some _ e) (Nat.le_refl _) (show ObjOk X.prog X.w _ _ _ (.tup ys) from ⟨hz, its, r', IsTup.new _ _⟩)
    exact ⟨.ref h'.objs.size, _, I2, rfl, q _ (I1.hok.fresh (Nat.le_refl _))⟩
  · obtain ⟨its, r', pl, hz⟩ := I.tuple hq
    exact call_tuple_same pl ⟨.ref p, H, I, rfl, q⟩

/-! ### the call of a builtin's method: o.m(..) -/
/-- the value is of that builtin type -/
def tyV (K : PySem.W.Frag) (T : String) (x : V) (H : Hp) : Prop := match x with
  | .str _ => T = "str"
  | .int _ => T = "int"
  | .ref p => (T = "list" ∧ ∃ xs, SqL K H p xs) ∨ (T = "tuple" ∧ ∃ o, K.lookup p = some o ∧ o.cls = .type "tuple" ∧ o.dict = none) ∨
      (T = "dict" ∧ ((∃ kvs, H p = some (.dK kvs)) ∨ ∃ kvs, H p = some (.dT kvs))) ∨ (T = "set" ∧ ∃ S n, H p = some (.set S n))
  | _ => False
theorem tyV_is {pins : List (Addr × Obj)} {σ : St} {H : Hp} {s : Shared} {T : String} {x : V} {v : Value} (I : Inv X pins σ H s) (r : RelV x v) (ty : tyV X.K T x H) :
    s.TypeIs v T ∧ ∀ a, v = .ref a → ∃ ob, s.heap.get? a = some ob ∧ ob.dict = none := by
  cases x with
  | str z =>
    obtain ⟨t, rfl⟩ := r
    cases (show T = "str" from ty)
    exact ⟨typeIs_str s z t, fun _ e => nomatch e⟩
  | int i =>
    obtain ⟨t, rfl⟩ := r
    cases (show T = "int" from ty)
    exact ⟨typeIs_int s i t, fun _ e => nomatch e⟩
  | ref p =>
    cases r
    rcases ty with ⟨rfl, xs, hq⟩ | ⟨rfl, o, hk, hc, hd⟩ | ⟨rfl, hk⟩ | ⟨rfl, S, n, hk⟩
    · obtain ⟨its, _, pl, _⟩ := I.list hq
      refine ⟨pl.isList.typeIs, fun a e => ?_⟩
      cases e
      obtain ⟨o, n, e, c, hd, _⟩ := pl
      exact ⟨o, e, hd⟩
    · refine ⟨⟨o, I.kIn p o hk, hc⟩, fun a e => ?_⟩
      cases e
      exact ⟨o, I.kIn _ o hk, hd⟩
    · have z : ∃ o, s.heap.get? p = some o ∧ o.ExactDict := by
        rcases hk with ⟨kvs, hk⟩ | ⟨kvs, hk⟩
        · obtain ⟨_, _, _, _, o, _, _, e, ex, _⟩ := I.hok p _ hk
          exact ⟨o, e, ex⟩
        · obtain ⟨_, _, _, _, o, _, _, e, ex, _⟩ := I.hok p _ hk
          exact ⟨o, e, ex⟩
      obtain ⟨o, e, ex⟩ := z
      refine ⟨⟨o, e, ex.1⟩, fun a e2 => ?_⟩
      cases e2
      exact ⟨o, e, ex.2.1⟩
    · obtain ⟨o, _, _, _, e, ex, _⟩ := I.hok p _ hk
      refine ⟨⟨o, e, ex.1⟩, fun a e2 => ?_⟩
      cases e2
      exact ⟨o, e, ex.2.1⟩
  | _ => exact False.elim ty
def tBM0 (K : PySem.W.Frag) (T : String) (r : V → List V → Hp → VK → Prop) (to : TE) : TE := fun σ H Q => to σ H fun x H1 => tyV K T x H1 ∧ r x [] H1 Q
def tBM (K : PySem.W.Frag) (T : String) (r : V → List V → Hp → VK → Prop) (to : TE) (t : TA) : TE := fun σ H Q => to σ H fun x H1 => tyV K T x H1 ∧ t σ H1 fun xs H2 => r x xs H2 Q
variable {o e : Expr} {es : List Expr} {to : TE} {t : TA} {name : Str} {apos cpos : Pos} {T id : String} {r : V → List V → Hp → VK → Prop}
theorem pe_bm0 (pa : PlainAttrs T) (slot : Slot T name id) (hty : typeOf (.builtin id) = pure (.type "method_descriptor")) (hm : MtR X id r) (ho : PE X o to)
    (hbase : attributeBase o name X.env (eval o X.env) = eval o X.env := by rfl) (hline : (apos.endLine == cpos.line) = true := by rfl) : PE X (.Call (.Attribute o name apos) [] [] cpos) (tBM0 X.K T r to) := by
  intro pins s σ H Q I h
  refine wpAny_Call_method0_late hbase hline (thn (ho pins s σ H _ I h) fun v s1 ⟨x, H1, I1, r1, ty, q1⟩ => ?_)
  obtain ⟨h1, h2⟩ := tyV_is I1 r1 ty
  exact ⟨T, id, pa, slot, hty, h1, h2, Calls.callWith_builtin rfl (PySem.evalArgs_none (hm pins s1 σ H1 x [] v [] Q I1 r1 .nil q1))⟩
theorem pe_bm (pa : PlainAttrs T) (slot : Slot T name id) (hty : typeOf (.builtin id) = pure (.type "method_descriptor")) (hm : MtR X id r) (ho : PE X o to) (ha : PA X (e :: es) t)
    (hbase : attributeBase o name X.env (eval o X.env) = eval o X.env := by rfl)
    (hfew : ((backTo cpos (starEach (e :: es) X.env)).all (fun x => !x.1) && (backToKw cpos (keywordEach [] X.env)).all (fun x => x.1.isSome)
      && decide ((e :: es).length + ([] : List Keyword).length + (if ([] : List Keyword).isEmpty then 0 else 1) < 30)) = true := by rfl)
    (hline : (apos.endLine == cpos.line) = true := by rfl) (hs : starEach (e :: es) X.env = (false, eval e X.env) :: starEach es X.env := by rfl) (hplain : (backTo cpos (starEach es X.env)).any (·.1) = false := by rfl) :
    PE X (.Call (.Attribute o name apos) (e :: es) [] cpos) (tBM X.K T r to t) := by
  intro pins s σ H Q I h
  refine wpAny_Call_method_late hbase hfew hline rfl (thn (ho pins s σ H _ I h) fun v s1 ⟨x, H1, I1, r1, ty, q1⟩ => ?_)
  obtain ⟨h1, h2⟩ := tyV_is I1 r1 ty
  refine ⟨T, id, pa, slot, hty, h1, h2, ?_⟩
  have hA := ha cpos pins s1 σ H1 _ I1 q1
  rw [hs] at hA ⊢
  refine Calls.callWith_builtin (by show (false || (backTo cpos (starEach es X.env)).any (·.1)) = false; rw [hplain] <;> rfl) (Calls.evalArgs_plain ?_)
  exact thn hA fun us s2 ⟨vs, H2, I2, r2, q2⟩ => hm pins s2 σ H2 x vs v us Q I2 r1 r2 q2
/- xs.append(e), list.index on a module's tuple .. are MtR facts of 06m -/
end
end L2

namespace L2
open PySem PySem.Spec PyProof.Rows

def MtM (X : Cx) (id : String) (r : V → List V → Hp → VK → Prop) : Prop :=
  ∀ (pins : List (Addr × Obj)) (s : Shared) (σ : St) (H : Hp) (x : V) (xs : List V) (v : Value) (us : List Value) (Q : VK), Inv X pins σ H s → RelV x v → Vals xs us → r x xs H Q →
    wpAny (model X.prog X.w) X.A (call (.builtin id) (v :: us)) (EP X pins σ Q) X.xe s

/-! ### lists of values -/
theorem Vals.one : ∀ {x : V} {us : List Value}, Vals [x] us → ∃ u, us = [u] ∧ RelV x u
  | _, _, .cons r .nil => ⟨_, rfl, r⟩
theorem Vals.two : ∀ {x y : V} {us : List Value}, Vals [x, y] us → ∃ u v, us = [u, v] ∧ RelV x u ∧ RelV y v
  | _, _, _, .cons r (.cons q .nil) => ⟨_, _, rfl, r, q⟩
theorem Vals.zero : ∀ {us : List Value}, Vals [] us → us = []
  | _, .nil => rfl
theorem Vals.dropLast {xs : List V} {us : List Value} (h : Vals xs us) : Vals xs.dropLast us.dropLast := by
  induction h with
  | nil => exact .nil
  | cons r t ih =>
    cases t with
    | nil => exact .nil
    | cons q t' => exact .cons r ih
theorem Vals.eraseIdx : ∀ {xs : List V} {us : List Value} (i : Nat), Vals xs us → Vals (xs.eraseIdx i) (us.eraseIdx i)
  | _, _, _, .nil => .nil
  | _, _, 0, .cons _ t => t
  | _, _, i + 1, .cons r t => .cons r (Vals.eraseIdx i t)
theorem Vals.reverse {xs : List V} {us : List Value} (h : Vals xs us) : Vals xs.reverse us.reverse := by
  induction h with
  | nil => exact .nil
  | cons r t ih => rw [List.reverse_cons, List.reverse_cons]; exact Vals.append ih (.cons r .nil)
theorem Vals.rep {xs : List V} {us : List Value} (h : Vals xs us) : ∀ k : Nat, Vals (List.replicate k xs).flatten (List.replicate k us).flatten
  | 0 => .nil
  | k + 1 => by
    rw [List.replicate_succ, List.replicate_succ, List.flatten_cons, List.flatten_cons]
    exact Vals.append h (Vals.rep h k)
theorem erase_last {α : Type} (l : List α) : l.eraseIdx (l.length - 1) = l.dropLast := by
  induction l with
  | nil => rfl
  | cons a r ih =>
    cases r with
    | nil => rfl
    | cons b r =>
      have e : (a :: b :: r).length - 1 = ((b :: r).length - 1) + 1 := by
        have h1 : (a :: b :: r).length = r.length + 2 := rfl
        have h2 : (b :: r).length = r.length + 1 := rfl
        omega
      rw [e, List.eraseIdx_cons_succ, ih]
      all_goals rfl
theorem len_erase {α : Type} : ∀ (l : List α) (i : Nat), (l.eraseIdx i).length ≤ l.length
  | [], _ => Nat.le_refl _
  | _ :: _, 0 => Nat.le_succ _
  | _ :: r, i + 1 => Nat.succ_le_succ (len_erase r i)
theorem foldl_rep (its : List Value) : ∀ (k : Nat) (acc : List Value),
    List.foldl (fun x1 x2 => x1 ++ x2) acc.toArray (List.replicate k its.toArray) = (acc ++ (List.replicate k its).flatten).toArray
  | 0, acc => by simp
  | k + 1, acc => by
    have e : acc.toArray ++ its.toArray = (acc ++ its).toArray := by simp
    have e2 : (acc ++ its) ++ (List.replicate k its).flatten = acc ++ (List.replicate (k + 1) its).flatten := by
      rw [List.replicate_succ, List.flatten_cons, List.append_assoc]
    rw [← e2, ← foldl_rep its k (acc ++ its), ← e, List.replicate_succ, List.foldl_cons]

section
variable {X : Cx} {pins : List (Addr × Obj)} {σ : St} {H : Hp} {s : Shared} {l b : Addr} {xs ys zs : List V}

/-! ### the two steps: a tracked list is rewritten, a new list is laid -/
theorem Inv.lset {its its' : List Value} {n : Nat} {f : Array Value → Array Value} {t' : Nat} (I : Inv X pins σ H s) (hH : H l = some (.lst xs))
    (e : s.heap.get? l = some { cls := .type "list", data := .seq its.toArray n }) (hf : f its.toArray = its'.toArray) (hv : Vals ys its') (hz : ys.length ≤ sizeLine) :
    Inv X pins σ (upd H l (.lst ys)) { s with heap := s.heap.update l (Obj.mapSeq f), toks := t' } := by
  have q := PySem.IsL.update e f
  rw [hf] at q
  refine I.write (x := l) (e := l) (by rw [hH]; exact trivial) (.inl rfl) (fun b' u hb hu => (Heap.get?_update_other s.heap (Obj.mapSeq f) (Ne.symm hb)).trans hu) ⟨_, q⟩ ?_
  exact ⟨hz, its', _, hv, q⟩
theorem Inv.lnew {its : List Value} {t' : Nat} (I : Inv X pins σ H s) (hv : Vals ys its) (hz : ys.length ≤ sizeLine) :
    Inv X pins σ (upd H s.heap.objs.size (.lst ys)) { s with heap := s.heap.push { cls := .type "list", data := .seq its.toArray }, toks := t' } :=
  I.laid (fun _ _ q => Heap.get?_push_of_some _ q) (Nat.le_refl _) ⟨hz, its, 0, hv, Heap.get?_push_size _ rfl⟩
theorem Inv.fresh (I : Inv X pins σ H s) : H s.heap.objs.size = none := I.hok.fresh (Nat.le_refl _)
theorem Inv.lstM (I : Inv X pins σ H s) (hH : H l = some (.lst xs)) : xs.length ≤ sizeLine ∧ ∃ (its : List Value) (n : Nat), Vals xs its ∧ xs.length = its.length ∧ s.heap.get? l = some { cls := .type "list", data := .seq its.toArray n } := by
  obtain ⟨z, its, n, r, e⟩ := I.hok l _ hH
  exact ⟨z, its, n, r, r.length, e⟩

theorem notLongL {n : Nat} (h : n ≤ sizeLine) : Builtin.List.listTooLong n = false := by
  unfold Builtin.List.listTooLong
  exact decide_eq_false (by omega)
end

section
variable {X : Cx}

/-! ### methods -/
def rAppend : V → List V → Hp → VK → Prop := fun x vs H Q => ∃ l xs y, x = .ref l ∧ vs = [y] ∧ H l = some (.lst xs) ∧ xs.length < sizeLine ∧ Q .non (upd H l (.lst (xs ++ [y])))
theorem mt_append : MtM X "list.append" rAppend := by
  intro pins s σ H x vs v us Q I rx rv h
  obtain ⟨l, xs, y, rfl, rfl, hH, hz, q⟩ := h
  cases rx
  obtain ⟨u, rfl, ru⟩ := rv.one
  obtain ⟨z, its, n, r, hl, e⟩ := I.lstM hH
  refine call_meets F.slot_list_append ⟨_, e, rfl⟩ F.entry_list_append (F.args_list_append_2 _ _) (PySem.list_append l its.toArray n u (by rw [List.size_toArray]; omega)) ⟨e, ?_⟩
  refine ⟨.non, _, I.lset (its' := its ++ [u]) hH e (by simp) (r.append (.cons ru .nil)) ?_, rfl, q⟩
  rw [List.length_append, List.length_singleton]
  omega

def rExtend : V → List V → Hp → VK → Prop := fun x vs H Q => ∃ l b xs zs, x = .ref l ∧ vs = [.ref b] ∧ H l = some (.lst xs) ∧ H b = some (.lst zs) ∧ xs.length + zs.length ≤ sizeLine ∧ Q .non (upd H l (.lst (xs ++ zs)))
theorem mt_extend : MtM X "list.extend" rExtend := by
  intro pins s σ H x vs v us Q I rx rv h
  obtain ⟨l, b, xs, zs, rfl, rfl, hH, hB, hz, q⟩ := h
  cases rx
  obtain ⟨u, rfl, ru⟩ := rv.one
  cases ru
  obtain ⟨z, its, n, r, hl, e⟩ := I.lstM hH
  obtain ⟨z2, its2, n2, r2, hl2, e2⟩ := I.lstM hB
  have hsz : its.toArray.size + its2.toArray.size ≤ sizeLine := by rw [List.size_toArray, List.size_toArray]; omega
  have hlong : ¬ (!its.toArray.isEmpty && Builtin.List.listTooLong (its.toArray.size + its2.toArray.size)) = true := by
    rw [notLongL hsz, Bool.and_false]
    exact Bool.false_ne_true
  refine call_meets F.slot_list_extend ⟨_, e, rfl⟩ F.entry_list_extend (F.args_list_extend_2 _ _)
    (AutoSeq1.list_extend_list_list_0 l its.toArray n b its2.toArray n2 hlong (by rw [List.size_toArray]; omega) (by omega)) ⟨e, e2, ?_⟩
  refine ⟨.non, _, I.lset (its' := its ++ its2) hH e (by simp) (r.append r2) ?_, rfl, q⟩
  rw [List.length_append]
  omega

def rPop : V → List V → Hp → VK → Prop := fun x vs H Q => ∃ l xs y, x = .ref l ∧ vs = [] ∧ H l = some (.lst xs) ∧ xs[xs.length - 1]? = some y ∧ Q y (upd H l (.lst xs.dropLast))
theorem mt_pop : MtM X "list.pop" rPop := by
  intro pins s σ H x vs v us Q I rx rv h
  obtain ⟨l, xs, y, rfl, rfl, hH, hy, q⟩ := h
  cases rx
  have hus := rv.zero
  subst hus
  obtain ⟨z, its, n, r, hl, e⟩ := I.lstM hH
  obtain ⟨u, hu, ru⟩ := r.get hy
  have hy' : its.toArray[its.toArray.size - 1]? = some u := by
    show its.toArray[its.length - 1]? = some u
    rw [← Array.getElem?_toList, ← hl]
    exact hu
  refine call_meets F.slot_list_pop ⟨_, e, rfl⟩ F.entry_list_pop (F.args_list_pop_1 _) (MeetsSeq.list_pop_last l its.toArray n u hy' (by rw [List.size_toArray]; omega)) ⟨e, ?_⟩
  refine ⟨y, _, I.lset (its' := its.dropLast) hH e ?_ r.dropLast ?_, ru, q⟩
  · show its.toArray.eraseIdxIfInBounds (its.toArray.size - 1) = its.dropLast.toArray
    rw [List.size_toArray, List.eraseIdxIfInBounds_toArray, erase_last]
  · rw [List.length_dropLast]
    omega

def rPopAt : V → List V → Hp → VK → Prop := fun x vs H Q => ∃ l xs i k y, x = .ref l ∧ vs = [.int i] ∧ H l = some (.lst xs) ∧ -(2 ^ 63) ≤ i ∧ i < 2 ^ 63 ∧ seqIndex? i xs.length = some k ∧ xs[k]? = some y ∧ Q y (upd H l (.lst (xs.eraseIdx k)))
theorem mt_popAt : MtM X "list.pop" rPopAt := by
  intro pins s σ H x vs v us Q I rx rv h
  obtain ⟨l, xs, i, k, y, rfl, rfl, hH, h1, h2, hk, hy, q⟩ := h
  cases rx
  obtain ⟨u, rfl, ru⟩ := rv.one
  obtain ⟨t, rfl⟩ := ru
  obtain ⟨z, its, n, r, hl, e⟩ := I.lstM hH
  obtain ⟨w, hw, rw'⟩ := r.get hy
  refine call_meets F.slot_list_pop ⟨_, e, rfl⟩ F.entry_list_pop (F.args_list_pop_2 _ _)
    (MeetsSeq.list_pop_at l its.toArray n i t k w (fitsIndex_both h1 h2) (by rw [List.size_toArray, ← hl]; exact hk) (by rw [← Array.getElem?_toList]; exact hw) (by rw [List.size_toArray]; omega)) ⟨e, ?_⟩
  refine ⟨y, _, I.lset (its' := its.eraseIdx k) hH e ?_ (r.eraseIdx k) ?_, rw', q⟩
  · show its.toArray.eraseIdxIfInBounds k = (its.eraseIdx k).toArray
    rw [List.eraseIdxIfInBounds_toArray]
  · have := len_erase xs k
    omega

def rReverse : V → List V → Hp → VK → Prop := fun x vs H Q => ∃ l xs, x = .ref l ∧ vs = [] ∧ H l = some (.lst xs) ∧ Q .non (upd H l (.lst xs.reverse))
theorem mt_reverse : MtM X "list.reverse" rReverse := by
  intro pins s σ H x vs v us Q I rx rv h
  obtain ⟨l, xs, rfl, rfl, hH, q⟩ := h
  cases rx
  have hus := rv.zero
  subst hus
  obtain ⟨z, its, n, r, hl, e⟩ := I.lstM hH
  refine call_meets F.slot_list_reverse ⟨_, e, rfl⟩ F.entry_list_reverse (F.args_list_reverse_1 _) (AutoSeq1.list_reverse_list_0 l its.toArray n (by rw [List.size_toArray]; omega)) ⟨e, ?_⟩
  refine ⟨.non, _, I.lset (its' := its.reverse) hH e (by simp) r.reverse ?_, rfl, q⟩
  rw [List.length_reverse]
  omega

def rClear : V → List V → Hp → VK → Prop := fun x vs H Q => ∃ l xs, x = .ref l ∧ vs = [] ∧ H l = some (.lst xs) ∧ Q .non (upd H l (.lst []))
theorem mt_clear : MtM X "list.clear" rClear := by
  intro pins s σ H x vs v us Q I rx rv h
  obtain ⟨l, xs, rfl, rfl, hH, q⟩ := h
  cases rx
  have hus := rv.zero
  subst hus
  obtain ⟨z, its, n, r, hl, e⟩ := I.lstM hH
  refine call_meets F.slot_list_clear ⟨_, e, rfl⟩ F.entry_list_clear (F.args_list_clear_1 _) (AutoSeq1.list_clear_list_0 l its.toArray n (by rw [List.size_toArray]; omega)) ⟨e, ?_⟩
  exact ⟨.non, _, I.lset (its' := []) (ys := []) hH e rfl .nil (Nat.zero_le _), rfl, q⟩

/-! ### list + list, list += list, list * int -/
def rCat : R2 := fun x y H Q => ∃ l b xs zs, x = .ref l ∧ y = .ref b ∧ H l = some (.lst xs) ∧ H b = some (.lst zs) ∧ xs.length + zs.length ≤ sizeLine ∧ ∀ p, H p = none → Q (.ref p) (upd H p (.lst (xs ++ zs)))
theorem op_cat : OpR X (binaryOp .Add) rCat := by
  intro pins s σ H x y v u Q I rx ry h
  obtain ⟨l, b, xs, zs, rfl, rfl, hH, hB, hz, q⟩ := h
  cases rx
  cases ry
  obtain ⟨z, its, n, r, hl, e⟩ := I.lstM hH
  obtain ⟨z2, its2, n2, r2, hl2, e2⟩ := I.lstM hB
  refine PySem.P.add_list e e2 ?_ (by rw [List.size_toArray, List.size_toArray]; omega)
  have ea : its.toArray ++ its2.toArray = (its ++ its2).toArray := by simp
  rw [ea]
  exact ⟨.ref _, _, I.lnew (t' := s.toks) (r.append r2) (by rw [List.length_append]; omega), rfl, q _ I.fresh⟩
/-- a list times an int (a negative one is nothing) -/
def rRep : R2 := fun x y H Q => ∃ l k xs, x = .ref l ∧ y = .int k ∧ H l = some (.lst xs) ∧ -(2 ^ 63) ≤ k ∧ k < 2 ^ 63 ∧ xs.length * k.toNat ≤ sizeLine ∧
  ∀ p, H p = none → Q (.ref p) (upd H p (.lst (List.replicate k.toNat xs).flatten))
theorem len_rep {α : Type} (xs : List α) (k : Nat) : (List.replicate k xs).flatten.length = k * xs.length := by
  induction k with
  | zero => simp
  | succ k ih => rw [List.replicate_succ, List.flatten_cons, List.length_append, ih, Nat.succ_mul, Nat.add_comm]
theorem op_rep : OpR X (binaryOp .Mult) rRep := by
  intro pins s σ H x y v u Q I rx ry h
  obtain ⟨l, k, xs, rfl, rfl, hH, h1, h2, hz, q⟩ := h
  cases rx
  obtain ⟨t, rfl⟩ := ry
  obtain ⟨z, its, n, r, hl, e⟩ := I.lstM hH
  have hlen : its.toArray.size * k.toNat ≤ sizeLine := by rw [List.size_toArray, ← hl]; exact hz
  have hcap : ¬ its.toArray.size * k.toNat > (2 ^ 63 - 1) / 8 := by
    have : (sizeLine : Nat) ≤ (2 ^ 63 - 1) / 8 := by decide
    omega
  have hfit : ¬ (!Builtin.List.listFitsIndex k) = true := by
    rw [fitsIndex_both h1 h2]
    exact Bool.false_ne_true
  have hlong : ¬ Builtin.List.listTooLong (its.toArray.size * k.toNat) = true := by
    rw [notLongL hlen]
    exact Bool.false_ne_true
  have hnew : List.foldl (fun x1 x2 => x1 ++ x2) #[] (List.replicate (if its.toArray.isEmpty = true then 0 else k.toNat) its.toArray) = (List.replicate k.toNat its).flatten.toArray := by
    have f0 : ∀ m : Nat, List.foldl (fun x1 x2 => x1 ++ x2) #[] (List.replicate m its.toArray) = (List.replicate m its).flatten.toArray := fun m => by
      have := foldl_rep its m []
      rw [List.nil_append] at this
      exact this
    rw [f0]
    cases its with
    | nil => simp
    | cons a r' => rw [if_neg (by simp)]
  refine wpAny_binaryOp_repeat_ref (T := "list") (U := "int") (by decide) ⟨_, e, rfl⟩ (fun s' => typeIs_int s' k t) noFill_list_mul F.fills_int_mul F.slot_int_rmul repeat_list F.slot_int_index.lookup
    (call_meets F.slot_int_rmul (typeIs_int s k t) F.entry_int_rmul (F.args_int_rmul_2 _ _) (int___rmul___int_list k t l its.toArray n)
      ⟨e, rfl, ⟨_, e, rfl⟩, call_meets F.slot_list_mul ⟨_, e, rfl⟩ F.entry_list_mul (F.args_list_mul_2 _ _) (AutoListH.list___mul___list_int_3 l its.toArray n k t hfit hcap hlong) ⟨e, ?_⟩⟩)
  rw [hnew]
  exact ⟨.ref _, _, I.lnew (t' := s.toks) (r.rep k.toNat) (by rw [len_rep, Nat.mul_comm]; exact hz), rfl, q _ I.fresh⟩

/-! ### del xs[i] -/
theorem del_list {pins : List (Addr × Obj)} {s : Shared} {σ : St} {H : Hp} {l : Addr} {xs : List V} {i : Int} {t : Tok} {k : Nat} {Q : Unit → Shared → Prop} (I : Inv X pins σ H s) (hH : H l = some (.lst xs))
    (h1 : -(2 ^ 63) ≤ i) (h2 : i < 2 ^ 63) (hk : seqIndex? i xs.length = some k) (h : ∀ s', Inv X pins σ (upd H l (.lst (xs.eraseIdx k))) s' → Q () s') :
    wpAny (model X.prog X.w) X.A (delItem (.ref l) (.int i t)) Q X.xe s := by
  obtain ⟨z, its, n, r, hl, e⟩ := I.lstM hH
  refine PySem.P.delItem_list (k := k) e (fitsIndex_both h1 h2) (by rw [List.size_toArray, ← hl]; exact hk) (h _ ?_) (by rw [List.size_toArray]; omega)
  refine I.lset (its' := its.eraseIdx k) (t' := s.toks) hH e ?_ (r.eraseIdx k) ?_
  · show its.toArray.eraseIdxIfInBounds k = (its.eraseIdx k).toArray
    rw [List.eraseIdxIfInBounds_toArray]
  · have := len_erase xs k
    omega
end

/-! ### xs[a:b] = ys -/
section
variable {prog : Program} {w : World} {A : Around} {E : Value → Shared → Prop} {s : Shared}
theorem splice_eq (its its2 : List Value) (a c : Nat) : its.toArray.extract 0 a ++ its2.toArray ++ its.toArray.extract c its.toArray.size = (its.take a ++ its2 ++ its.drop c).toArray := by
  apply Array.toList_inj.mp
  first
    | (simp
       exact List.take_of_length_le (by simp))
    | simp [List.take_of_length_le]
    | simp
theorem bounds_run {a c n : Nat} (hac : a ≤ c) (hc : c ≤ n) : sliceBounds (some (a : Int)) (some (c : Int)) none n = ((a : Int), (c : Int), 1) := by
  simp only [sliceBounds, Option.getD_none]
  have h1 : ¬ ((a : Int) < 0) := by omega
  have h2 : ¬ ((c : Int) < 0) := by omega
  simp only [h1, h2, if_false, show (1 : Int) > 0 by decide, if_true]
  congr 1
  · omega
  · congr 1; omega
set_option maxRecDepth 100000 in
/-- list.__setitem__ with a slice of step one and another list -/
theorem setItem_slice {l b sl : Addr} {items new : Array Value} {n n2 : Nat} {vl vu : Value} {a c : Nat} {Q : Unit → Shared → Prop}
    (e : s.heap.get? l = some { cls := .type "list", data := .seq items n }) (e2 : s.heap.get? b = some { cls := .type "list", data := .seq new n2 }) (hne : l ≠ b)
    (hs : s.heap.IsSliceOf sl vl vu .none) (pl : IsPart vl (some (a : Int))) (pu : IsPart vu (some (c : Int))) (hac : a ≤ c) (hc : c ≤ items.size)
    (hsz : items.size + new.size ≤ sizeLine) (h : Q () { s with heap := s.heap.update l (Obj.mapSeq fun xs => xs.extract 0 a ++ new ++ xs.extract c xs.size) }) :
    wpAny (model prog w) A (setItem (.ref l) (.ref sl) (.ref b)) Q E s := by
  have hl : s.heap.IsList l items := PySem.IsL.isList e
  have hb : s.heap.IsList b new := PySem.IsL.isList e2
  obtain ⟨os, hos, hcs, hds⟩ := id hs
  have hTs : s.TypeIs (.ref sl) "slice" := ⟨os, hos, hcs⟩
  have hstep : ¬ ((rawPart none == rawInt 0) = true) := Bool.false_ne_true
  have hsame : Builtin.List.listSameRef (.ref l) (.ref b) = false := by
    unfold Builtin.List.listSameRef
    exact beq_eq_false_iff_ne.mpr hne
  have hmax : (max (a : Int) (c : Int)).toNat = c := by omega
  have hz' : ((fun xs : Array Value => xs.extract 0 a ++ new ++ xs.extract c xs.size) items).size ≤ sizeLine + 1 := by
    simp only [Array.size_append, Array.size_extract]
    omega
  unfold setItem
  try with_reducible refine wpAny_holding ?_
  first | refine wpAny_bind (wpAny_pure ?_) | skip
  refine wpAny_bind (wpAny_sequenceKey hl.typeIs (by decide) ?_)
  refine wpAny_bind (wpAny_callSpecial?_slot (name := Str.ofString "__setitem__") hl.typeIs slot_list_setitem
    (wpAny_call_entry slot_list_setitem hl.typeIs entry_list_setitem ?_ (args_list_setitem _ _ _)))
  show wpAny _ _ (Builtin.List.listSubscript? (.ref sl) >>= _) _ _ s
  refine wpAny_bind ?_
  unfold Builtin.List.listSubscript?
  refine wpAny_bind (wpAny_specialOf hTs slice_no_index ?_)
  simp only [Option.isNone_none, if_true]
  refine wpAny_pure ?_
  show wpAny _ _ (typeOf (.ref sl) >>= _) _ _ s
  refine wpAny_bind (wpAny_typeOf hTs ?_)
  first
    | rw [if_neg (by decide)]
    | refine PySem.W.KFB.if_not (by decide) ?_
  rw [listSliceParts_eq]
  refine wpAny_bind (wpAny_bind (wpAny_field hos hds (x := .none) rfl (wpAny_bind (wpAny_listPart .none ?_))))
  rw [if_neg hstep]
  refine wpAny_bind (wpAny_field hos hds (x := vl) rfl (wpAny_bind (wpAny_listPart pl ?_)))
  refine wpAny_bind (wpAny_field hos hds (x := vu) rfl (wpAny_bind (wpAny_listPart pu (wpAny_pure ?_))))
  first
    | simp only [hsame, Bool.false_eq_true, if_false]
    | refine PySem.W.KFB.if_not hsame ?_
    | (dsimp only
       rw [if_neg (by rw [hsame]; exact Bool.false_ne_true)])
  refine wpAny_bind (m := Builtin.List.listAllItems (.ref b) "must assign iterable to extended slice") ?_
  unfold Builtin.List.listAllItems
  refine wpAny_bind (wpAny_typeOf hb.typeIs ?_)
  first
    | refine PySem.W.KFB.if_so (by decide) ?_
    | rw [if_pos (by decide)]
    | simp only [beq_self_eq_true, Bool.true_or, if_true]
  unfold Builtin.List.listItems
  refine wpAny_bind (wpAny_seqItems e2 rfl (wpAny_pure ?_))
  refine wpAny_bind (wpAny_bind (wpAny_seqItems e rfl (wpAny_pure ?_)))
  refine wpAny_bind (wpAny_of_eq ((sliceIndices_raw (some (a : Int)) (some (c : Int)) none items.size (by simp)).trans (congrArg (pure : Int × Int × Int → Sem (Int × Int × Int)) (bounds_run hac hc))) ?_)
  show wpAny _ _ (if ((1 : Int) == 1) = true then _ else _) _ _ s
  rw [if_pos (by decide)]
  refine wpAny_bind (wpAny_rule ?_)
  first
    | simp only [notLongL hsz, Bool.false_eq_true, if_false]
    | refine PySem.W.KFB.if_not (notLongL hsz) ?_
  first | refine wpAny_bind (wpAny_pure ?_) | skip
  show wpAny _ _ (updateSeq l (fun xs => xs.extract 0 ((a : Int)).toNat ++ new ++ xs.extract (max (a : Int) (c : Int)).toNat xs.size) >>= _) _ _ s
  rw [hmax, Int.toNat_natCast]
  refine wpAny_bind (wpAny_updateSeq (hz := Nat.le_trans (Nat.le_add_right _ _) hsz) (_hz' := hz') e rfl ?_)
  refine wpAny_bind (wpAny_letGo ?_)
  first
    | exact wpAny_bind (wpAny_pure (wpAny_pure ⟨.none, rfl, wpAny_pure h⟩))
    | exact wpAny_pure ⟨.none, rfl, wpAny_pure h⟩
end

section
variable {X : Cx}
/-- xs[a:c] = ys of another list, at the value level: sl is the slice object that was just made -/
theorem set_slice {pins : List (Addr × Obj)} {s : Shared} {σ : St} {H : Hp} {l b sl : Addr} {xs ys : List V} {a c : Int} {vl vu : Value} {Q : Unit → Shared → Prop} (I : Inv X pins σ H s)
    (hH : H l = some (.lst xs)) (hB : H b = some (.lst ys)) (hne : l ≠ b) (hs : s.heap.IsSliceOf sl vl vu .none) (ra : RelV (.int a) vl) (rc : RelV (.int c) vu) (h0 : 0 ≤ a) (hac : a ≤ c) (hc : c ≤ xs.length)
    (hz : xs.length + ys.length ≤ sizeLine) (h : ∀ s', Inv X pins σ (upd H l (.lst (xs.take a.toNat ++ ys ++ xs.drop c.toNat))) s' → Q () s') :
    wpAny (model X.prog X.w) X.A (setItem (.ref l) (.ref sl) (.ref b)) Q X.xe s := by
  obtain ⟨ta, rfl⟩ := ra
  obtain ⟨tc, rfl⟩ := rc
  obtain ⟨z, its, n, r, hl, e⟩ := I.lstM hH
  obtain ⟨z2, its2, n2, r2, hl2, e2⟩ := I.lstM hB
  obtain ⟨a', rfl⟩ := Int.eq_ofNat_of_zero_le h0
  obtain ⟨c', rfl⟩ := Int.eq_ofNat_of_zero_le (Int.le_trans h0 hac)
  simp only [Int.toNat_natCast] at h
  refine setItem_slice (a := a') (c := c') e e2 hne hs (.int _ _) (.int _ _) (by omega) (by rw [List.size_toArray]; omega) (by rw [List.size_toArray, List.size_toArray]; omega) (h _ ?_)
  refine I.lset (its' := its.take a' ++ its2 ++ its.drop c') (t' := s.toks) hH e ?_ (Vals.append (Vals.append (r.take _) r2) (r.drop _)) ?_
  · exact splice_eq its its2 a' c'
  · rw [List.length_append, List.length_append, List.length_take, List.length_drop]
    omega
end
end L2

namespace Att
open PySem PySem.W PySem.Calls PyProof.Rows

/-! ### the script -/
theorem ints_of_wellAll {P : Params} {h : Heap} : ∀ (ns : List Int) (vs : List Value), WellAll P h vs (ns.map WData.int) → IntsAre vs ns := by
  intro ns
  induction ns with
  | nil =>
    intro vs w
    rw [List.map_nil] at w
    cases w
    exact .nil
  | cons n ns ih =>
    intro vs w
    rw [List.map_cons] at w
    cases w with
    | cons a b =>
      cases a
      exact .cons _ _ (ih _ b)

theorem script_of {l : OpenLaw} {n : Nat} (hn : l.most = some n) {P : Params} {h : Heap} {args : List WData} {vals : List Value}
    (hpre : l.row.toRowW.claim.pre args = true) (hwl : WellAll P h vals args) :
    ∃ a vs ns, vals = [Value.ref a] ∧ args = [WData.list (ns.map WData.int)] ∧ h.get? a = some { cls := .type "list", data := .seq vs.toArray } ∧ IntsAre vs ns ∧ ns.length ≤ n := by
  have hsh : WShape.hasAll [] args [.list .int] = true := (pre_splitW hpre).1
  have hc : l.pre.holds [] { args := args } = true := (pre_splitW hpre).2
  obtain ⟨d, r, rfl, h1, h2⟩ := hasAllW_cons hsh
  obtain rfl := hasAllW_nil h2
  obtain ⟨xs, rfl, h3⟩ := hasW_list h1
  obtain ⟨ns, rfl⟩ := items_int h3
  have hlen : ns.length ≤ n := by
    unfold OpenLaw.pre at hc
    have h4 : (WTm.not (.lt (.lit (.int (n : Int))) (.len (.arg 0)))).holds [] { args := [.list (ns.map .int)] } = true := by
      have h4 := (holds_andW hc).1
      rw [hn] at h4
      exact h4
    have h5 := condW_of h4 (w_not (w_lt w_lit (w_len_list (w_arg rfl))))
    rw [List.length_map] at h5
    refine Nat.le_of_not_lt fun q => ?_
    have q' : (n : Int) < ((ns.length : Nat) : Int) := by omega
    first
      | (rw [decide_eq_true q'] at h5; exact absurd h5 (by decide))
      | (simp at h5; omega)
  cases hwl with
  | cons w1 w2 =>
    cases w2
    cases w1 with
    | list ho hall => exact ⟨_, _, ns, rfl, rfl, ho, ints_of_wellAll ns _ hall, hlen⟩

theorem post_true (l : OpenLaw) (args : List WData) : l.row.toRowW.claim.post args (.bool true) args = true :=
  postW_of (r := l.row.toRowW) (X := (true == true))
    (show WShape.has [] (.bool true) .bool = true by first | rfl | decide | simp [WShape.has, WShape.arms, WShape.armsAll])
    (show (WTm.eq .res (.lit (.bool true))).value [] { args := args, res := some (.bool true), after := args } = some (.bool (true == true)) from w_eq_bool (w_res rfl) w_lit) rfl

/-! ### the attachment: holds_open's last premise (the goal 'hc' behind k_head) from a wpAny of the law's body -/
theorem attach {l : OpenLaw} {n : Nat} {q : Program} {loose : List Str} {XP : (Str → Option Value) → Heap → Prop} {YP : World → Heap → Prop} {d : DefRec} {x : Str}
    (hn : l.most = some n) (hdf : d.params.defaults = [])
    (hbind : ∀ pm cd doc v : Value, bindArgs (docDef d.name d.params d.body d.scope pm cd doc) ⟨[v], []⟩ = pure [(x, v)])
    (hx : d.scope.names.lookup x = some .local ∨ d.scope.names.lookup x = some .cell)
    (hk : d.scope.kind = .function) (hco : d.scope.isCoroutine = false) (hgen : d.scope.isGenerator = false)
    (body : ∀ (w : World) (s₀ s₁ s : Shared) (mg mb : Str → Option Value) (fa : Addr) (o : Obj) (pm cd doc : Value) (a : Addr) (vs : List Value) (ns : List Int),
      Ground q loose [] XP w s₀ mg mb s₁.heap → YP w s₁.heap →
      s₁.heap.get? fa = some o → o.data = .func (docDef d.name d.params d.body d.scope pm cd doc) → s₁.heap.CodeRec cd d.name → mg d.name = some (.ref fa) →
      s₁.heap.get? a = some { cls := .type "list", data := .seq vs.toArray } → IntsAre vs ns → ns.length ≤ n →
      s.gens = #[] → s.os = s₁.os →
      Fr s₁.heap s₁.heap.objs.size s.heap (bindL (envOfC d.name d.scope s₁.heap.objs.size fa cd).kindOf [(x, .ref a)] fun _ => none) →
      Cl s₁.heap.objs.size (cellsFrom (s₁.heap.objs.size + 1) d.scope.names []) s.heap (bindC (envOfC d.name d.scope s₁.heap.objs.size fa cd).kindOf [(x, .ref a)] fun _ => none) →
      wpAny (model l.prog w) (callerA.deeper (envOfC d.name d.scope s₁.heap.objs.size fa cd)) (execs d.body (envOfC d.name d.scope s₁.heap.objs.size fa cd))
        (fun f s' => f = .ret (.bool true) ∧ OldK s₁.heap s'.heap ∧ s'.os = s₁.os ∧ AllBare s'.gens) (fun _ _ => False) s) :
    WalkO q loose XP YP l.row.toRowW d [] (fun f vs => PySem.call f vs) := by
  intro w s₀ s₁ mg mb G Y fa o pm cd doc dV kV ho hd hcd hD hmg hg args vals as hpre hlay hrd hwl hlo
  obtain rfl : dV = .none := Dflts.none hD hdf
  obtain rfl : kV = .none := Dflts.noKw hD
  obtain ⟨a, vs, ns, rfl, rfl, hobj, hints, hlen⟩ := script_of hn hpre hwl
  refine enter_call ?_
  refine call_cells_ret (o := o) (by rw [depth_caller]; decide) ho (fd_plain hd) G.T.nolimit hcd (hbind pm cd doc (.ref a)) (fun y hy => ?_) (fun h₁ tk F X => ?_) hco hgen hk
  · obtain rfl : y = (x, Value.ref a) := List.mem_singleton.mp hy
    rcases hx with e | e
    · exact .inl e
    · exact .inr ⟨e, cellsFrom_some _ _ _ (.inl e)⟩
  · refine wpAny_mono (body w s₀ s₁ { s₁ with heap := h₁, toks := tk } mg mb fa o pm cd doc a vs ns G Y ho (fd_plain hd) hcd hmg hobj hints hlen hg rfl F X) (fun f s' hq => ?_) (fun _ _ hq => hq)
    obtain ⟨rfl, h2, h3, h4⟩ := hq
    exact ⟨.inl ⟨.bool true, .bool true, [], rfl, fun _ => rfl, .bool true, post_true l _, fun _ => ⟨List.Pairwise.nil, fun _ hm => (nomatch hm)⟩⟩, h2, h3, h4⟩

/-- the same from a codeAny of the CALL (for a layer whose function contracts speak of calls) -/
theorem attach_call {l : OpenLaw} {n : Nat} {q : Program} {loose : List Str} {XP : (Str → Option Value) → Heap → Prop} {YP : World → Heap → Prop} {d : DefRec}
    (hn : l.most = some n) (hdf : d.params.defaults = [])
    (call : ∀ (w : World) (s₀ s₁ : Shared) (mg mb : Str → Option Value) (fa : Addr) (o : Obj) (pm cd doc : Value) (a : Addr) (vs : List Value) (ns : List Int),
      Ground q loose [] XP w s₀ mg mb s₁.heap → YP w s₁.heap →
      s₁.heap.get? fa = some o → o.data = .func (docDef d.name d.params d.body d.scope pm cd doc) → s₁.heap.CodeRec cd d.name → mg d.name = some (.ref fa) →
      s₁.heap.get? a = some { cls := .type "list", data := .seq vs.toArray } → IntsAre vs ns → ns.length ≤ n → s₁.gens = #[] →
      codeAny (model l.prog w) callerA (.call (.ref fa) ⟨[.ref a], []⟩) (fun r s' => r = .ok (.ret (.bool true)) ∧ OldK s₁.heap s'.heap ∧ s'.os = s₁.os ∧ AllBare s'.gens) s₁) :
    WalkO q loose XP YP l.row.toRowW d [] (fun f vs => PySem.call f vs) := by
  intro w s₀ s₁ mg mb G Y fa o pm cd doc dV kV ho hd hcd hD hmg hg args vals as hpre hlay hrd hwl hlo
  obtain rfl : dV = .none := Dflts.none hD hdf
  obtain rfl : kV = .none := Dflts.noKw hD
  obtain ⟨a, vs, ns, rfl, rfl, hobj, hints, hlen⟩ := script_of hn hpre hwl
  refine enter_call (codeAny_mono (call w s₀ s₁ mg mb fa o pm cd doc a vs ns G Y ho (fd_plain hd) hcd hmg hobj hints hlen hg) fun r s' hq => ?_)
  obtain ⟨rfl, h2, h3, h4⟩ := hq
  exact ⟨.inl ⟨.bool true, .bool true, [], rfl, fun _ => rfl, .bool true, post_true l _, fun _ => ⟨List.Pairwise.nil, fun _ hm => (nomatch hm)⟩⟩, h2, h3, h4⟩

/-- the same where the top left finished generators (o_head chose holds_openN): nothing may have changed at all and no generator may be left -/
theorem attachN {l : OpenLaw} {n : Nat} {q : Program} {loose : List Str} {XP : (Str → Option Value) → Heap → Prop} {YP : World → Heap → Prop} {d : DefRec} {x : Str}
    (hn : l.most = some n) (hdf : d.params.defaults = [])
    (hbind : ∀ pm cd doc v : Value, bindArgs (docDef d.name d.params d.body d.scope pm cd doc) ⟨[v], []⟩ = pure [(x, v)])
    (hx : d.scope.names.lookup x = some .local ∨ d.scope.names.lookup x = some .cell)
    (hk : d.scope.kind = .function) (hco : d.scope.isCoroutine = false) (hgen : d.scope.isGenerator = false)
    (body : ∀ (w : World) (s₀ s₁ s : Shared) (mg mb : Str → Option Value) (fa : Addr) (o : Obj) (pm cd doc : Value) (a : Addr) (vs : List Value) (ns : List Int),
      Ground q loose [] XP w s₀ mg mb s₁.heap → YP w s₁.heap →
      s₁.heap.get? fa = some o → o.data = .func (docDef d.name d.params d.body d.scope pm cd doc) → s₁.heap.CodeRec cd d.name → mg d.name = some (.ref fa) →
      s₁.heap.get? a = some { cls := .type "list", data := .seq vs.toArray } → IntsAre vs ns → ns.length ≤ n →
      s.gens = #[] → s.os = s₁.os →
      Fr s₁.heap s₁.heap.objs.size s.heap (bindL (envOfC d.name d.scope s₁.heap.objs.size fa cd).kindOf [(x, .ref a)] fun _ => none) →
      Cl s₁.heap.objs.size (cellsFrom (s₁.heap.objs.size + 1) d.scope.names []) s.heap (bindC (envOfC d.name d.scope s₁.heap.objs.size fa cd).kindOf [(x, .ref a)] fun _ => none) →
      wpAny (model l.prog w) (callerA.deeper (envOfC d.name d.scope s₁.heap.objs.size fa cd)) (execs d.body (envOfC d.name d.scope s₁.heap.objs.size fa cd))
        (fun f s' => f = .ret (.bool true) ∧ (∀ b o, s₁.heap.get? b = some o → s'.heap.get? b = some o) ∧ s'.os = s₁.os ∧ s'.gens = #[]) (fun _ _ => False) s) :
    WalkN q loose XP YP l.row.toRowW d [] (fun f vs => PySem.call f vs) := by
  intro w s₀ s₁ mg mb G Y fa o pm cd doc dV kV ho hd hcd hD hmg hg args vals as hpre hlay hrd hwl hlo
  obtain rfl : dV = .none := Dflts.none hD hdf
  obtain rfl : kV = .none := Dflts.noKw hD
  obtain ⟨a, vs, ns, rfl, rfl, hobj, hints, hlen⟩ := script_of hn hpre hwl
  refine enter_callW ?_
  refine call_cells_ret (o := o) (by rw [depth_caller]; decide) ho (fd_plain hd) G.T.nolimit hcd (hbind pm cd doc (.ref a)) (fun y hy => ?_) (fun h₁ tk F X => ?_) hco hgen hk
  · obtain rfl : y = (x, Value.ref a) := List.mem_singleton.mp hy
    rcases hx with e | e
    · exact .inl e
    · exact .inr ⟨e, cellsFrom_some _ _ _ (.inl e)⟩
  · refine wpAny_mono (body w s₀ s₁ { s₁ with heap := h₁, toks := tk } mg mb fa o pm cd doc a vs ns G Y ho (fd_plain hd) hcd hmg hobj hints hlen hg rfl F X) (fun f s' hq => ?_) (fun _ _ hq => hq)
    obtain ⟨rfl, h2, h3, h4⟩ := hq
    exact ⟨.inl ⟨.bool true, .bool true, [], rfl, fun _ => rfl, .bool true, post_true l _, fun _ => ⟨List.Pairwise.nil, fun _ hm => (nomatch hm)⟩⟩, h2, h3, h4⟩

/-! ### rules over ANY heap (no ledger) from facts about the written part K: the library's own take a ledger (News) for what they write -/
section
variable {prog : Program} {w : World} {A : Around} {E : Value → Shared → Prop} {s : Shared} {K : Frag}

/-- a def of the module, or a method (qual 'C.m'), entered: the frame is the next address; cells behind it -/
theorem call_fn {R : Result → Shared → Prop} {name qual : Str} {params : Arguments} {body : List Stmt} {scope : Scope} {dV kV doc pm cdv ct oc : Value} {an od : Option Addr} {osl : Array (Option Value)} {f : Addr} {args : Args} {binds : List (Str × Value)}
    (X : K.In s.heap) (hlim : s.heap.NoLimit) (ho : K.lookup f = some ⟨oc, od, .func (fnOf name qual params body scope dV kV doc pm an cdv ct), osl⟩) (hcd : codeIn K cdv qual = true) (hroom : A.depth < recursionLimit)
    (hbind : BindsTo s (fnOf name qual params body scope dV kV doc pm an cdv ct) args binds)
    (hkind : (binds.all fun y => scope.names.lookup y.1 == some .local || scope.names.lookup y.1 == some .cell) = true)
    (h : ∀ s₁, InCallC s s.heap.objs.size (bindL (envOfC qual scope s.heap.objs.size f cdv).kindOf binds fun _ => none) (cellsFrom (s.heap.objs.size + 1) scope.names [])
        (bindC (envOfC qual scope s.heap.objs.size f cdv).kindOf binds fun _ => none) s₁ →
      wpAny (model prog w) (A.deeper (envOfC qual scope s.heap.objs.size f cdv)) (execs body (envOfC qual scope s.heap.objs.size f cdv))
        (fun fl s' => R (.ok (.ret (match fl with | .ret v => v | _ => .none))) s')
        (fun e s' => wpAny (model prog w) (A.deeper (envOfC qual scope s.heap.objs.size f cdv)) (leaving (envOfC qual scope s.heap.objs.size f cdv) e) (fun _ s'' => R (.error e) s'') (fun e' s'' => R (.error e') s'') s') s₁)
    (hco : scope.isCoroutine = false) (hgen : scope.isGenerator = false) (hk : scope.kind = .function) : codeAny (model prog w) A (.call (.ref f) args) R s := by
  refine codeAny_call_function hroom (X _ _ ho) rfl hco hgen rfl (codeRec_of X hcd) (hbind _ _ _ _ ?_)
  refine wpAny_newFunctionEnv_cells hk (kindsX hkind _) fun env he s₁ x => ?_
  subst he
  exact ⟨hlim.keeps x.toInCall.keep, codeAny_func (h s₁ x)⟩

/-- C(..): dict at size, instance at size + 1, then __init__ -/
theorem make_obj {R : Result → Shared → Prop} {C fI : Addr} {rest : List Value} {kw : List (Str × Value)}
    (X : K.In s.heap) (hm : makesIn K C = true) (hi : findIn K (.ref C) "__init__" = some (some (.ref fI))) (hf : isFn K (.ref fI) = true)
    (h : codeAny (model prog w) (A.under (.builtin "type.__call__" ⟨.ref C :: rest, kw⟩)) (.call (.ref fI) ⟨.ref (s.heap.objs.size + 1) :: rest, kw⟩) (InitBack (s.heap.objs.size + 1) R)
      { s with heap := (s.heap.push emptyDict).push (instObj C s.heap.objs.size) }) : codeAny (model prog w) A (.call (.ref C) ⟨rest, kw⟩) R s := by
  obtain ⟨hh, g, d, t, os⟩ := s
  exact make_core (makes_of X hm) (looks_findIn X hi) (fun self => bind_fn X self (beq_iff_eq.mp hf)) (.inl rfl) h

/-- x.name where the instance's dict holds the name and the class does not -/
theorem get_field {x C : Addr} {ox : Obj} {es : List DictEntry} {n : Nat} {name : Str} {expr : Bool} {v : Value} {Q : Value → Shared → Prop}
    (X : K.In s.heap) (I : PySem.W.InstAt s.heap x ox C (some (dictOf es n))) (hg : plainGet K C name = true) (hh : hasDictIn K C = true) (ha : findIn K (.ref C) name = some none)
    (hl : getL name es = some (some v)) (hv : handedIn v = true) (h : Q v { s with toks := s.toks + 1 }) : wpAny (model prog w) A (getAttr (.ref x) name expr) Q E s :=
  get_value X I (plainGet_of hg).1 (findObj_own hh ha rfl hl) hv h

/-- x.m(..): the method found in the class -/
theorem get_method {x C f : Addr} {ox : Obj} {es : List DictEntry} {n : Nat} {name : Str} {pl : Sem Bool} {Q : Value × List Value → Shared → Prop}
    (X : K.In s.heap) (I : PySem.W.InstAt s.heap x ox C (some (dictOf es n))) (hg : plainGet K C name = true) (hf : findIn K (.ref C) name = some (some (.ref f))) (ht : isFn K (.ref f) = true)
    (hl : getL name es = some none) (h : Q (.ref f, [.ref x]) s) : wpAny (model prog w) A (getMethod (.ref x) name pl) Q E s :=
  method_fn X I (plainGet_of hg).1 (plainGet_of hg).2 hf (beq_iff_eq.mp ht) (by show (lookIn name (dictOf es n)).map _ = _; rw [lookIn_dict, hl]; rfl) h

/-! the whole heap as the ledger: makes every rule that writes through a ledger a rule over any heap -/
def noObjs (h : Heap) : Heap := { h with objs := #[] }
theorem noObjs_get (h : Heap) (b : Addr) : (noObjs h).get? b = none := by
  cases e : (noObjs h).get? b with
  | none => rfl
  | some o => exact absurd (Heap.lt_size e) (Nat.not_lt_zero _)
def ledger (h : Heap) (L d : Addr) : List (Addr × Obj) := (List.range h.objs.size).filterMap fun a => if a = L ∨ a = d then none else (h.get? a).map fun o => (a, o)
theorem mem_ledger {h : Heap} {L d a : Addr} {o : Obj} : (a, o) ∈ ledger h L d ↔ a ≠ L ∧ a ≠ d ∧ h.get? a = some o := by
  unfold ledger
  rw [List.mem_filterMap]
  constructor
  · rintro ⟨b, _, e⟩
    split at e
    · cases e
    · rename_i hb
      obtain ⟨o', ho, e'⟩ := Option.map_eq_some_iff.mp e
      cases e'
      exact ⟨fun q => hb (.inl q), fun q => hb (.inr q), ho⟩
  · rintro ⟨n1, n2, ho⟩
    refine ⟨a, List.mem_range.mpr (Heap.lt_size ho), ?_⟩
    rw [if_neg (show ¬ (a = L ∨ a = d) from fun q => q.elim n1 n2), ho] <;> rfl
theorem news_ledger {h : Heap} {L d : Addr} {od : Obj} (hne : d ≠ L) (ho : h.get? d = some od) : News (noObjs h) L h ([] ++ (d, od) :: ledger h L d) := by
  rintro ⟨a, o⟩ hp
  rcases List.mem_cons.mp hp with e | hp
  · cases e
    exact ⟨ho, hne, noObjs_get _ _⟩
  · obtain ⟨n1, n2, e⟩ := mem_ledger.mp hp
    exact ⟨e, n1, noObjs_get _ _⟩
theorem fr_all {h : Heap} {L : Addr} {m : Str → Option Value} (n : h.Ns L m) : Fr (noObjs h) L h m :=
  ⟨n, fun b o e => (by rw [noObjs_get] at e; cases e), Nat.zero_le _⟩
/-- Upd of the head entry (for append_K, setItem_K ..) -/
theorem upd_ledger {h : Heap} {L d : Addr} {o o' : Obj} : Upd d o o' ((d, o) :: ledger h L d) ((d, o') :: ledger h L d) :=
  .head fun ⟨_, _⟩ hp => (mem_ledger.mp hp).2.1

/-- x.name = v over any heap: L is any namespace of the heap (the frame's, say): its map stays, its object is not told; all else but the dict stays -/
theorem set_field {x C dx L : Addr} {ox : Obj} {m : Str → Option Value} {es es' : List DictEntry} {n n' : Nat} {name : Str} {v : Value} {Q : Unit → Shared → Prop}
    (X : K.In s.heap) (I : PySem.W.InstAt s.heap x ox C (some (dictOf es n))) (hd : ox.dict = some dx) (hL : s.heap.Ns L m) (hne : dx ≠ L)
    (hs : findIn K (.ref C) "__setattr__" = some (some (.builtin "object.__setattr__"))) (hp : plainOver K C = true) (ht : takerIn K C name = some none) (hh : hasDictIn K C = true) (hl : (getL name es).isSome = true)
    (e : (putL name (PyData.keyHash w.params name) (.str name (s.toks + 1)) v es, putN name es n) = (es', n')) (hz : es'.length ≤ 1000)
    (h : ∀ h' : Heap, h'.Ns L m → h'.get? dx = some (dictOf es' n') → (∀ b o, b ≠ dx → b ≠ L → s.heap.get? b = some o → h'.get? b = some o) → Q () { s with heap := h', toks := s.toks + 2 }) :
    wpAny (model prog w) A (setAttr (.ref x) name v) Q E s := by
  obtain ⟨e1, e2⟩ := Prod.mk.inj e
  have hdx : s.heap.get? dx = some (dictOf es n) := by
    have := I.dict
    rw [hd] at this
    exact this
  refine set_plain X I hs (osa_dict (s := { s with toks := s.toks + 1 }) (h₀ := noObjs s.heap) (L := L) (m := m) (od := dictOf es n) (od' := dictOf es' n') (es := es') (n := n') (pre := []) (post := ledger s.heap L dx)
    (fr_all hL) (news_ledger hne hdx) X I hd hp ht hh hl (fun _ q => nomatch q) (fun ⟨_, _⟩ q => (mem_ledger.mp q).2.1) (by rw [putName_dict, e1, e2]) rfl hz fun h' F' N' => ?_)
  exact h h' F'.ns (N'.get (List.Mem.head _)) fun b o n1 n2 ho => N'.get (List.Mem.tail _ (mem_ledger.mpr ⟨n2, n1, ho⟩))
end
end Att

namespace L2
open PySem PySem.Spec PyProof.Rows

theorem vals_ints : ∀ {vs : List Value} {ns : List Int}, IntsAre vs ns → Vals (ns.map V.int) vs
  | _, _, .nil => .nil
  | _, _, .cons n t h => .cons ⟨t, rfl⟩ (vals_ints h)

/-- nothing is tracked but the script, known to the object (or it is an object of the module) -/
def Only (H : Hp) : Prop := ∀ b, H b = none ∨ ∃ o xs, H b = some (.frz o (.lst xs))

/-- THE HEAD: the law's promise, at the heap behind the top. F, the promise of the law's def, may use that base is part of the heap (so K.In base, base.Ns mainGlobals mg stand in Mod) -/
theorem law_call {P : Program} {w : World} {K : PySem.W.Frag} {mg mb : Str → Option Value} {CX : CXT} {k : Nat} {fa a : Addr} {fd : FuncData} {x : Str} {sp : Sp} {s₁ : Shared} {vs : List Value} {ns : List Int}
    (KX : K.In s₁.heap) (hns : s₁.heap.Ns mainGlobals mg) (hb : s₁.heap.Ns builtinsNs mb) (hbb : ∀ x : Str, x ≠ "__name__" → mb x = bootBuiltins x) (hlim : s₁.heap.NoLimit) (hg : s₁.gens = #[])
    (ha : s₁.heap.get? a = some { cls := .type "list", data := .seq vs.toArray }) (hi : IntsAre vs ns) (hl : ns.length ≤ sizeLine) (hr : Room k callerA)
    (F : ∀ base : Heap, K.In base → base.Ns mainGlobals mg → FnOk P w K mg base CX k fa fd [x] sp) (hbind : ∀ (s : Shared) (u : Value), BindsTo s fd ⟨[u], []⟩ [(x, u)])
    (hsp : ∀ H : Hp, Only H → SqL K H a (ns.map V.int) → sp [.ref a] H (fun v _ => v = .bl true) fun _ _ _ => False)
    (hCX : ∀ H e s', CX [] H s₁ (fun _ _ _ => False) e s' → False) :
    codeAny (model P w) callerA (.call (.ref fa) ⟨[.ref a], []⟩) (fun r s' => r = .ok (.ret (.bool true)) ∧ OldK s₁.heap s'.heap ∧ s'.os = s₁.os ∧ AllBare s'.gens) s₁ := by
  have rv := vals_ints hi
  have lenV := hi.length
  -- from an abstract heap in which nothing but the script may be tracked
  have core : ∀ H : Hp, Only H → SqL K H a (ns.map V.int) → HOk P w H s₁.heap → (∀ b, H b ≠ none → b = a) → (H a ≠ none → K.lookup a = none) →
      codeAny (model P w) callerA (.call (.ref fa) ⟨[.ref a], []⟩) (fun r s' => r = .ok (.ret (.bool true)) ∧ OldK s₁.heap s'.heap ∧ s'.os = s₁.os ∧ AllBare s'.gens) s₁ := by
    intro H hO hS hok hA hK
    have base_of : ∀ {b : Addr} {o : Obj}, s₁.heap.get? b = some o → H b = none → (hidT s₁.heap H).get? b = some o := fun e n => hidT_get e n
    have noA : ∀ {b : Addr} {o : Obj} {es : Array DictEntry} {ep : Nat}, s₁.heap.get? b = some o → o.data = .dict es ep → H b = none := fun {b o es ep} e d => by
      cases q : H b with
      | none => rfl
      | some u =>
        have e' : b = a := hA b (by rw [q]; simp)
        subst e'
        rw [ha] at e; cases e
        have d' : Data.seq vs.toArray _ = Data.dict es ep := d
        cases d'
    have nsK : ∀ {b : Addr} {m : Str → Option Value}, s₁.heap.Ns b m → (hidT s₁.heap H).Ns b m := fun {b m} ⟨o, es, ep, e, d, r⟩ => ⟨o, es, ep, base_of e (noA e d), d, r⟩
    have hKb : K.In (hidT s₁.heap H) := fun b o e => base_of (KX b o e) (by
      cases q : H b with
      | none => rfl
      | some u =>
        have e' : b = a := hA b (by rw [q]; simp)
        subst e'
        rw [hK (by rw [q]; simp)] at e; cases e)
    have hM : Mod K mg (hidT s₁.heap H) := ⟨hKb, nsK hns, ⟨mb, nsK hb, hbb⟩, let ⟨mc, h1, h2⟩ := hlim; ⟨mc, nsK h1, h2⟩⟩
    have e0 : Env0 P w K mg (hidT s₁.heap H) callerA [] s₁ H := ⟨rfl, hM, fun b o e => of_hidT e, Nat.le_of_eq (hidT_size _ _), trivial, fun b hb => absurd (show b ∈ ([] : List Addr) from hb) (by simp), hok, .of_eq hg⟩
    refine codeAny_mono ((F _ hKb (nsK hns)).run callerA [] s₁ H ⟨[.ref a], []⟩ [.ref a] [.ref a] _ _ hr e0 (hbind s₁ (.ref a)) (.cons rfl .nil) (hsp H hO hS)) fun r s' h => ?_
    cases r with
    | error e => exact (hCX H e s' h).elim
    | ok fl =>
      cases fl with
      | next => exact False.elim h
      | brk => exact False.elim h
      | cont => exact False.elim h
      | ret u =>
        obtain ⟨v, H', os, bare, un, hok', r', q⟩ := h
        have q' : v = .bl true := q
        subst q'
        obtain rfl : u = Value.bool true := r'
        refine ⟨rfl, OldK.of_keep fun b o e => ?_, os, bare⟩
        cases q : H b with
        | none => exact un.keep b o e q (by intro z; exact absurd (show b ∈ ([] : List Addr) from z) (by simp)) (by simp)
        | some u =>
          rcases hO b with z | ⟨ob, xs, z⟩
          · rw [q] at z; cases z
          · have z2 := un.frzs b ob _ z
            obtain ⟨e1, _⟩ := hok b _ z
            obtain ⟨e2, _⟩ := hok' b _ z2
            rw [e] at e1; cases e1
            exact e2
  cases hk : K.lookup a with
  | some o =>
    -- the script is one of the module's own objects
    have e := KX a o hk
    rw [ha] at e
    cases e
    refine core (fun _ => none) (fun _ => .inl rfl) (.inr ⟨_, vs.toArray, _, hk, rfl, rfl, rfl, by rw [List.size_toArray, lenV]; exact hl, by simpa using rv⟩) (fun b u z => by have z' : (none : Option HO) = some u := z; cases z') (fun b z => absurd rfl z) fun z => absurd rfl z
  | none =>
    refine core (fun b => if b = a then some (.frz { cls := .type "list", data := .seq vs.toArray } (.lst (ns.map V.int))) else none) (fun b => ?_) (.inl (.inr ⟨{ cls := .type "list", data := .seq vs.toArray }, if_pos rfl⟩)) (fun b u z => ?_) (fun b z => ?_) fun _ => hk
    · by_cases hb : b = a
      · exact .inr ⟨_, _, if_pos hb⟩
      · exact .inl (if_neg hb)
    · by_cases hb : b = a
      · have z' := (if_pos hb).symm.trans z
        cases z'
        subst hb
        exact ⟨ha, by rw [List.length_map]; exact hl, vs, _, rv, ha⟩
      · have z' := (if_neg hb).symm.trans z
        cases z'
    · by_cases hb : b = a
      · exact hb
      · exact absurd (if_neg hb) z
end L2

namespace L2
open PySem PySem.Spec PyProof.Rows

abbrev KOf {K : PySem.W.Frag} {h : Heap} (_ : K.In h) : PySem.W.Frag := K

/-- the goal that k_head leaves (case hc), from the law's promise. F gives the function object fd (K's own) once, then the promise over every base -/
theorem walk_of {l : PySem.W.OpenLaw} {n k : Nat} {q : Program} {loose : List Str} {XP : (Str → Option Value) → Heap → Prop} {YP : World → Heap → Prop} {d : DefRec} {K : Params → PySem.W.Frag} {CX : World → CXT} {sp : World → Sp} {x : Str}
    (hn : l.most = some n) (hn2 : n ≤ sizeLine) (hdf : d.params.defaults = []) (hr : Room k callerA)
    (hY : ∀ (w : World) (h : Heap), YP w h → (K w.params).In h)
    (F : ∀ (w : World) (mg : Str → Option Value) (fa : Addr) (h : Heap), (K w.params).In h → h.Ns mainGlobals mg → mg d.name = some (.ref fa) →
      ∃ fd : FuncData, (∀ (s : Shared) (u : Value), BindsTo s fd ⟨[u], []⟩ [(x, u)]) ∧
        ∀ base : Heap, (K w.params).In base → base.Ns mainGlobals mg → FnOk l.prog w (K w.params) mg base (CX w) k fa fd [x] (sp w))
    (hsp : ∀ (w : World) (H : Hp) (a : Addr) (ns : List Int), ns.length ≤ n → Only H → SqL (K w.params) H a (ns.map V.int) → sp w [.ref a] H (fun v _ => v = .bl true) fun _ _ _ => False)
    (hCX : ∀ (w : World) (H : Hp) (s : Shared) (e : Value) (s' : Shared), CX w [] H s (fun _ _ _ => False) e s' → False) :
    PySem.W.WalkO q loose XP YP l.row.toRowW d [] (fun f vs => PySem.call f vs) := by
  refine Att.attach_call hn hdf fun w s₀ s₁ mg mb fa o pm cd doc a vs ns G Y ho hd hcd hmg hobj hints hlen hg => ?_
  have KX := hY w _ Y
  obtain ⟨fd, hb, hF⟩ := F w mg fa _ KX G.T.g hmg
  exact law_call KX G.T.g G.T.b G.T.builtins G.T.nolimit hg hobj hints (Nat.le_trans hlen hn2) hr hF hb (fun H hO hS => hsp w H a ns hlen hO hS) fun H e s' => hCX w H s₁ e s'
/-- the same where the promise hangs on the written part alone: (sp := My.sp_law), no hole under a binder -/
theorem walk_ofK {l : PySem.W.OpenLaw} {n k : Nat} {q : Program} {loose : List Str} {XP : (Str → Option Value) → Heap → Prop} {YP : World → Heap → Prop} {d : DefRec} {K : Params → PySem.W.Frag} {CX : CXT} {sp : PySem.W.Frag → Sp} {x : Str}
    (hn : l.most = some n) (hn2 : n ≤ sizeLine) (hdf : d.params.defaults = []) (hr : Room k callerA)
    (hY : ∀ (w : World) (h : Heap), YP w h → (K w.params).In h)
    (F : ∀ (w : World) (mg : Str → Option Value) (fa : Addr) (h : Heap), (K w.params).In h → h.Ns mainGlobals mg → mg d.name = some (.ref fa) →
      ∃ fd : FuncData, (∀ (s : Shared) (u : Value), BindsTo s fd ⟨[u], []⟩ [(x, u)]) ∧
        ∀ base : Heap, (K w.params).In base → base.Ns mainGlobals mg → FnOk l.prog w (K w.params) mg base CX k fa fd [x] (sp (K w.params)))
    (hsp : ∀ (K : PySem.W.Frag) (H : Hp) (a : Addr) (ns : List Int), ns.length ≤ n → Only H → SqL K H a (ns.map V.int) → sp K [.ref a] H (fun v _ => v = .bl true) fun _ _ _ => False)
    (hCX : ∀ (H : Hp) (s : Shared) (e : Value) (s' : Shared), CX [] H s (fun _ _ _ => False) e s' → False) :
    PySem.W.WalkO q loose XP YP l.row.toRowW d [] (fun f vs => PySem.call f vs) :=
  walk_of (K := K) (CX := fun _ => CX) (sp := fun w => sp (K w.params)) hn hn2 hdf hr hY F (fun w H a ns h1 h2 h3 => hsp (K w.params) H a ns h1 h2 h3) fun _ H s e s' => hCX H s e s'
end L2

/- THE LAST THEOREM (shape; LID, My.* are yours):
   My.Adr: a structure of the addresses that your layer names (classes, functions); My.Txt K t: a structure (Prop) of the equations over K;
   My.txt_mk : {K} {implicit addresses ..} (e1 : nsIn K mainGlobals "law" = some (some (.ref f))) (e2 : K.lookup f = some ⟨oc, od, .func (fnOf "law" "law" params body scope dV kV doc pm an cdv ct), sl⟩) (e3 : codeIn K cdv "law" = true) .. : ∃ t, My.Txt K t

set_option maxRecDepth 100000 in
set_option maxHeartbeats 0 in
theorem PySem.Challenge.cw_LID_holds : PySem.Challenge.rw_LID.Holds := by
  w_on; o_law; k_head; (case hw => w_witness2)
  k_fill
  refine L2.walk_of (l := PySem.Challenge.rw_LID) (n := 63) (k := 40) (x := "script") (CX := fun w => ..) (sp := fun _ => My.sp_law) rfl (by decide) rfl ⟨rfl, by decide, by decide⟩ (fun w h Y => PySem.W.kIn_of Y) ?F ?S ?C
  case F =>
    intro w mg fa h KX G hmg
    have T : ∃ t, My.Txt (L2.KOf KX) t := by
      dsimp only [L2.KOf]                          -- K must stand as «<heap const> w.params» for k_is
      refine' My.txt_mk ?e1 ?e2 ?e3 ..
      (case e1 => PySem.W.k_is)                    -- in the order: a name -> its address -> its object -> its parts
      (case e2 => PySem.W.k_is)
      ..
    obtain ⟨t, T⟩ := T
    have e0 := hmg.symm.trans (PySem.W.mg_of KX G T.law)
    cases e0                                       -- fa is the law's own address
    exact ⟨_, fun s u => .of_eq rfl, fun base kb nb => My.law_fn T kb nb⟩     -- if «.of_eq rfl» comes too early: refine' ⟨_, ?b, fun base kb nb => My.law_fn T kb nb⟩; exact fun s u => .of_eq rfl
  case S => exact fun w H a ns hl hO hS => ..
  case C => exact ..
(the tactic k_is has no namespace: write k_is) -/

/-! SHORT WORDS over the layer: a def of the text, its body, what a loop and a test want. -/
namespace L2
open PySem PySem.Spec PyProof.Rows

/-! ### the text by places -/
/-- the j-th statement of a class's body -/
def inClass (s : Stmt) (j : Nat) : Stmt := match s with
  | .ClassDef _ _ _ body _ _ _ _ _ _ _ => body.getD j (.Pass ⟨0, 0, 0, 0⟩)
  | _ => .Pass ⟨0, 0, 0, 0⟩
def defArgs (s : Stmt) : Arguments := match s with
  | .FunctionDef _ a _ _ _ _ _ _ _ _ => a
  | _ => { posonlyargs := [], args := [], vararg := none, kwonlyargs := [], kw_defaults := [], kwarg := none, defaults := [] }
def defBody (s : Stmt) : List Stmt := match s with
  | .FunctionDef _ _ b _ _ _ _ _ _ _ => b
  | _ => []
def defScope (s : Stmt) : Scope := match s with
  | .FunctionDef _ _ _ _ _ _ sc _ _ _ => sc
  | _ => { kind := .function, names := [], isGenerator := false, isCoroutine := false }

/-! ### no exception leaves a def -/
abbrev CX0 : CXT := fun _ _ _ _ _ _ => False
abbrev E0 : XK := fun _ _ _ => False
theorem pass0 {X : Cx} : Passes CX0 X E0 := fun _ _ _ _ _ _ _ h => h.elim

/-! ### a def (or method) of the text as it stands behind the top -/
structure Fun (K : PySem.W.Frag) (x qual : Str) (st : Stmt) (f : Addr) (fd : FuncData) : Prop where
  ex : ∃ (oc : Value) (od : Option Addr) (kV doc pm : Value) (an : Option Addr) (cdv ct : Value) (osl : Array (Option Value)),
    fd = PySem.W.fnOf x qual (defArgs st) (defBody st) (defScope st) .none kV doc pm an cdv ct ∧ K.lookup f = some ⟨oc, od, .func fd, osl⟩ ∧ PySem.W.codeIn K cdv qual = true
  kp : PySem.W.keepIn K (.ref f) = true
section
variable {P : Program} {w : World} {K : PySem.W.Frag} {mg : Str → Option Value} {base : Heap}
/-- THE RULE for a def: its body as a term of rules, and the reading of that term -/
theorem Fun.ok {x qual : Str} {st : Stmt} {f : Addr} {fd : FuncData} {N ps : List Str} {k : Nat} {sp : Sp} (F : Fun K x qual st f fd) (S : FnScope N ps (defScope st)) (len : ∀ vs H Q E, sp vs H Q E → vs.length = ps.length)
    (hbody : ∀ (cdv : Value) (A : Around) (outer : List Env) (s : Shared) (H : Hp) (vs : List V) (Q : VK) (E : XK), Room k (A.deeper (envOfC qual (defScope st) s.heap.objs.size f cdv)) → sp vs H Q E →
      ∃ t, PSs (cxOf CX0 P w K mg base N qual (defScope st) f cdv A outer s H E).nox (defBody st) t ∧ t { nx := fun _ H' => Q .non H', rt := Q } (start N vs) H) : FnOk P w K mg base CX0 (k + 1) f fd ps sp := by
  obtain ⟨oc, od, kV, doc, pm, an, cdv, ct, osl, rfl, lk, hcd⟩ := F.ex
  refine fn_of lk hcd S len fun A outer s H vs Q E hr hsp => ?_
  obtain ⟨t, h, q⟩ := hbody cdv A outer s H vs Q E hr hsp
  exact ⟨t, h.nox, q⟩
/-- how its arguments bind (no defaults): h is «fun _ _ _ _ _ _ us hl => match us, hl with | [_, _], _ => rfl», one _ a parameter -/
theorem Fun.binds {x qual : Str} {st : Stmt} {f : Addr} {fd : FuncData} {ps : List Str} (F : Fun K x qual st f fd)
    (h : ∀ (kV doc pm : Value) (an : Option Addr) (cdv ct : Value) (us : List Value), us.length = ps.length → bindArgs (PySem.W.fnOf x qual (defArgs st) (defBody st) (defScope st) .none kV doc pm an cdv ct) ⟨us, []⟩ = pure (ps.zip us)) : Binds K fd ps [] := by
  obtain ⟨oc, od, kV, doc, pm, an, cdv, ct, osl, rfl, lk, hcd⟩ := F.ex
  exact .all (h kV doc pm an cdv ct)
theorem fun_mk {x qual : Str} {st : Stmt} {f : Addr} {oc : Value} {od an : Option Addr} {osl : Array (Option Value)} {kV doc pm cdv ct : Value} (l : K.lookup f = some ⟨oc, od, .func (PySem.W.fnOf x qual (defArgs st) (defBody st) (defScope st) .none kV doc pm an cdv ct), osl⟩)
    (c : PySem.W.codeIn K cdv qual = true) (k : PySem.W.keepIn K (.ref f) = true) : Fun K x qual st f (PySem.W.fnOf x qual (defArgs st) (defBody st) (defScope st) .none kV doc pm an cdv ct) := ⟨⟨oc, od, kV, doc, pm, an, cdv, ct, osl, rfl, l, c⟩, k⟩
end
theorem hu_of {A : Around} {k : Nat} (hr : Room k A) : A.units + 1 < cLine := Nat.lt_of_le_of_lt (Nat.add_le_add_left (by decide : 1 ≤ 64) _) hr.units
theorem small1000 {n : Nat} (h : n ≤ 1000) : n < sizeLine := Nat.lt_of_le_of_lt h (by decide)

/-! ### expressions in short: the name that stands in the i-th slot -/
section
variable {X : Cx}
theorem pv (i : Nat) {x : Str} {pos : Pos} (hN : X.N[i]? = some x := by rfl) (hv : Vis X.env.scope x := by first | exact Or.inl rfl | exact Or.inr (Or.inl rfl) | exact Or.inr (Or.inr rfl)) (hd : (x == ("__debug__" : Str)) = false := by decide)
    (hcd : (x == ("__classdict__" : Str)) = false := by decide) : PE X (.Name x pos) (tVar i) := pe_var hN hv hd hcd
end

/-! ### tests -/
theorem iteF {A B : Prop} (h : B) : if false = true then A else B := by
  rw [if_neg Bool.false_ne_true]
  exact h
theorem iteT {A B : Prop} (h : A) : if true = true then A else B := by
  rw [if_pos rfl]
  exact h
theorem ite2 {c A B : Prop} [Decidable c] (h1 : c → A) (h2 : ¬ c → B) : if c then A else B := by
  by_cases h : c
  · rw [if_pos h]
    exact h1 h
  · rw [if_neg h]
    exact h2 h
theorem iteNS {c A B : Prop} [Decidable c] (hc : c) (h : B) : if (!decide c) = true then A else B := by
  rw [decide_eq_true hc]
  exact iteF h

/-! ### heaps -/
/-- all that was tracked is as it was -/
def Same (H H' : Hp) : Prop := ∀ b o, H b = some o → H' b = some o
theorem Same.refl (H : Hp) : Same H H := fun _ _ h => h
theorem Same.trans {H H1 H2 : Hp} (a : Same H H1) (b : Same H1 H2) : Same H H2 := fun c o h => b c o (a c o h)
theorem Same.free {H H' : Hp} (e : Same H H') {l : Addr} (h : H' l = Option.none) : H l = Option.none := by
  cases q : H l with
  | none => rfl
  | some o =>
    rw [e l o q] at h
    cases h
theorem Same.seq {K : PySem.W.Frag} {H H' : Hp} {a : Addr} {xs : List V} (e : Same H H') (h : SqL K H a xs) : SqL K H' a xs := by
  rcases h with (h | ⟨o, h⟩) | h
  · exact .inl (.inl (e _ _ h))
  · exact .inl (.inr ⟨o, e _ _ h⟩)
  · exact .inr h

end L2

namespace L2
open PySem PySem.Spec PyProof.Rows

/-! ### closures of a comprehension -/
def clFor (cells : List (Str × Addr)) : List (Str × NameKind) → List (Str × Addr) → List (Str × Addr)
  | [], acc => acc
  | (n, k) :: r, acc => if k == .free then (match cells.lookup n with | some a => clFor cells r ((n, a) :: acc) | none => clFor cells r acc) else clFor cells r acc

theorem closureFor_eq {scope : Scope} {env : Env} (h : ∀ x ∈ scope.names, x.2 = .free → ∃ c, env.cells.lookup x.1 = some c) :
    closureFor scope env = pure (clFor env.cells scope.names []) := by
  have key : ∀ (f : Str × NameKind → List (Str × Addr) → Sem (ForInStep (List (Str × Addr)))),
      (∀ n k cs, f (n, k) cs = if k == .free then (do let a ← cellOf env n; pure (ForInStep.yield ((n, a) :: cs))) else pure (ForInStep.yield cs)) →
      ∀ (names : List (Str × NameKind)) (acc : List (Str × Addr)), (∀ x ∈ names, x.2 = .free → ∃ c, env.cells.lookup x.1 = some c) →
      forIn names acc f = (pure (clFor env.cells names acc) : Sem (List (Str × Addr))) := by
    intro f hf names
    induction names with
    | nil => intro acc _; rfl
    | cons x r ih =>
      intro acc hx
      obtain ⟨n, k⟩ := x
      rw [List.forIn_cons, hf]
      have hr : ∀ y ∈ r, y.2 = .free → ∃ c, env.cells.lookup y.1 = some c := fun y hy => hx y (List.mem_cons_of_mem _ hy)
      by_cases hk : k = .free
      · obtain ⟨c, hc⟩ := hx (n, k) List.mem_cons_self hk
        have hc' : env.cells.lookup n = some c := hc
        subst hk
        have e : clFor env.cells ((n, NameKind.free) :: r) acc = clFor env.cells r ((n, c) :: acc) := by
          simp only [clFor, beq_self_eq_true, if_true, hc']
        rw [e]
        simp only [beq_self_eq_true, if_true, cellOf, hc', pure_bind]
        exact ih _ hr
      · have hb : (k == NameKind.free) = false := by simpa using hk
        have e : clFor env.cells ((n, k) :: r) acc = clFor env.cells r acc := by
          simp only [clFor, hb, Bool.false_eq_true, if_false]
        rw [e]
        simp only [hb, Bool.false_eq_true, if_false, pure_bind]
        exact ih _ hr
  have q := key (fun x cs => match x with | (name, kind) => if (kind == NameKind.free) = true then (do let a ← cellOf env name; pure (ForInStep.yield ((name, a) :: cs))) else pure (ForInStep.yield cs)) (fun _ _ _ => rfl) scope.names [] h
  exact (congrArg (fun m : Sem (List (Str × Addr)) => m >>= fun cs => pure cs) q).trans (pure_bind _ _)

theorem clFor_of (cells : List (Str × Addr)) {x : Str} {c : Addr} : ∀ (names : List (Str × NameKind)) (acc : List (Str × Addr)),
    (clFor cells names acc).lookup x = some c → acc.lookup x = some c ∨ ((x, NameKind.free) ∈ names ∧ cells.lookup x = some c)
  | [], acc, h => .inl h
  | (n, k) :: r, acc, h => by
    unfold clFor at h
    split at h
    · rename_i hk
      have hk' : k = .free := by simpa using hk
      split at h
      · rename_i a ha
        rcases clFor_of cells r _ h with q | ⟨q, q2⟩
        · rw [List.lookup_cons] at q
          cases hb : x == n with
          | true =>
            rw [hb] at q
            have e : x = n := by simpa using hb
            subst e hk'
            exact .inr ⟨List.mem_cons_self, by rw [ha]; exact q⟩
          | false => rw [hb] at q; exact .inl q
        · exact .inr ⟨List.mem_cons_of_mem _ q, q2⟩
      · rcases clFor_of cells r _ h with q | ⟨q, q2⟩
        · exact .inl q
        · exact .inr ⟨List.mem_cons_of_mem _ q, q2⟩
    · rcases clFor_of cells r _ h with q | ⟨q, q2⟩
      · exact .inl q
      · exact .inr ⟨List.mem_cons_of_mem _ q, q2⟩
theorem clFor_keep (cells : List (Str × Addr)) {x : Str} {c : Addr} (hc : cells.lookup x = some c) : ∀ (names : List (Str × NameKind)) (acc : List (Str × Addr)),
    acc.lookup x = some c → (clFor cells names acc).lookup x = some c
  | [], acc, h => h
  | (n, k) :: r, acc, h => by
    unfold clFor
    split
    · split
      · rename_i a ha
        refine clFor_keep cells hc r _ ?_
        rw [List.lookup_cons]
        cases hb : x == n with
        | true =>
          have e : x = n := by simpa using hb
          subst e
          rw [hc] at ha
          exact ha ▸ rfl
        | false => exact h
      · exact clFor_keep cells hc r _ h
    · exact clFor_keep cells hc r _ h
theorem clFor_has (cells : List (Str × Addr)) {x : Str} {c : Addr} (hc : cells.lookup x = some c) : ∀ (names : List (Str × NameKind)) (acc : List (Str × Addr)),
    (x, NameKind.free) ∈ names → (clFor cells names acc).lookup x = some c
  | [], acc, h => by cases h
  | (n, k) :: r, acc, h => by
    unfold clFor
    rcases List.mem_cons.mp h with e | h
    · cases e
      simp only [beq_self_eq_true, if_true, hc]
      exact clFor_keep cells hc r _ (by rw [List.lookup_cons]; simp)
    · split
      · split
        · exact clFor_has cells hc r _ h
        · exact clFor_has cells hc r _ h
      · exact clFor_has cells hc r _ h

theorem cellsFrom_of {x : Str} {c : Addr} : ∀ (names : List (Str × NameKind)) (n : Nat) (acc : List (Str × Addr)),
    (cellsFrom n names acc).lookup x = some c → acc.lookup x = some c ∨ ((x, NameKind.cell) ∈ names ∧ n ≤ c)
  | [], n, acc, h => .inl h
  | (nm, k) :: r, n, acc, h => by
    unfold cellsFrom at h
    split at h
    · rename_i hk
      have hk' : k = .cell := by simpa using hk
      rcases cellsFrom_of r _ _ h with q | ⟨q, q2⟩
      · rw [List.lookup_cons] at q
        cases hb : x == nm with
        | true =>
          rw [hb] at q
          have e : x = nm := by simpa using hb
          subst e hk'
          have q' : n = c := Option.some.inj q
          exact .inr ⟨List.mem_cons_self, by omega⟩
        | false => rw [hb] at q; exact .inl q
      · exact .inr ⟨List.mem_cons_of_mem _ q, by omega⟩
    · rcases cellsFrom_of r _ _ h with q | ⟨q, q2⟩
      · exact .inl q
      · exact .inr ⟨List.mem_cons_of_mem _ q, q2⟩
theorem cellsFrom_out {x : Str} : ∀ (names : List (Str × NameKind)) (n : Nat) (acc : List (Str × Addr)),
    (x, NameKind.cell) ∉ names → (cellsFrom n names acc).lookup x = acc.lookup x
  | [], n, acc, h => rfl
  | (nm, k) :: r, n, acc, h => by
    unfold cellsFrom
    have hr : (x, NameKind.cell) ∉ r := fun z => h (List.mem_cons_of_mem _ z)
    split
    · rename_i hk
      have hk' : k = .cell := by simpa using hk
      rw [cellsFrom_out r _ _ hr, List.lookup_cons]
      have : (x == nm) = false := by
        rw [beq_eq_false_iff_ne]
        rintro rfl
        exact h (by rw [hk']; exact List.mem_cons_self)
      rw [this]
    · exact cellsFrom_out r _ _ hr
theorem cellsFrom_inj : ∀ (names : List (Str × NameKind)) (n : Nat) (acc : List (Str × Addr)), (∀ x c, acc.lookup x = some c → c < n) → (∀ x y c, acc.lookup x = some c → acc.lookup y = some c → x = y) →
    ∀ x y c, (cellsFrom n names acc).lookup x = some c → (cellsFrom n names acc).lookup y = some c → x = y
  | [], n, acc, h1, h2 => h2
  | (nm, k) :: r, n, acc, h1, h2 => by
    unfold cellsFrom
    split
    · refine cellsFrom_inj r _ _ (fun x c e => ?_) (fun x y c e1 e2 => ?_)
      · rw [List.lookup_cons] at e
        cases hb : x == nm with
        | true => rw [hb] at e; have q : n = c := Option.some.inj e; exact q ▸ Nat.lt_succ_self n
        | false => rw [hb] at e; exact Nat.lt_succ_of_lt (h1 x c e)
      · rw [List.lookup_cons] at e1 e2
        cases hx : x == nm with
        | true =>
          rw [hx] at e1
          have q : n = c := Option.some.inj e1
          cases hy : y == nm with
          | true => rw [show x = nm by simpa using hx, show y = nm by simpa using hy]
          | false => rw [hy] at e2; exact absurd (h1 y c e2) (q ▸ Nat.lt_irrefl n)
        | false =>
          rw [hx] at e1
          cases hy : y == nm with
          | true =>
            rw [hy] at e2
            have q : n = c := Option.some.inj e2
            exact absurd (h1 x c e1) (q ▸ Nat.lt_irrefl n)
          | false => rw [hy] at e2; exact h2 x y c e1 e2
    · exact cellsFrom_inj r _ _ h1 h2
theorem pushCells_cell {x : Str} {c : Addr} : ∀ (names : List (Str × NameKind)) (h : Heap) (acc : List (Str × Addr)),
    (cellsFrom h.objs.size names acc).lookup x = some c → acc.lookup x = some c ∨ (pushCells h names).IsCell c none
  | [], h, acc, e => .inl e
  | (nm, k) :: r, h, acc, e => by
    unfold cellsFrom at e
    unfold pushCells
    split at e
    · rename_i hk
      rw [if_pos hk]
      have e' : (cellsFrom (h.push { cls := .type "cell", data := .cell none }).objs.size r ((nm, h.objs.size) :: acc)).lookup x = some c := by
        rw [Heap.size_push]; exact e
      rcases pushCells_cell r _ _ e' with q | q
      · rw [List.lookup_cons] at q
        cases hb : x == nm with
        | true =>
          rw [hb] at q
          have q' : h.objs.size = c := Option.some.inj q
          subst q'
          exact .inr ⟨_, pushCells_keeps r _ _ _ (Heap.get?_push_size _ rfl), rfl⟩
        | false => rw [hb] at q; exact .inl q
      · exact .inr q
    · rename_i hk
      rw [if_neg hk]
      exact pushCells_cell r h acc e

theorem lookup_relabel {env : Env} {x : Str} : ∀ (names : List (Str × NameKind)),
    (names.map fun (n, k) => if (k == NameKind.free && env.scope.kind == .function && env.kindOf n == some .cell) then (n, NameKind.cell) else (n, k)).lookup x =
      (names.lookup x).map fun k => if (k == NameKind.free && env.scope.kind == .function && env.kindOf x == some .cell) then NameKind.cell else k
  | [] => rfl
  | (nm, k) :: r => by
    have ih := lookup_relabel (env := env) (x := x) r
    rw [List.map_cons]
    show List.lookup x ((if (k == NameKind.free && env.scope.kind == .function && env.kindOf nm == some .cell) = true then (nm, NameKind.cell) else (nm, k)) :: _) = _
    cases hx : x == nm with
    | true =>
      have e : x = nm := by simpa using hx
      subst e
      by_cases hc : (k == NameKind.free && env.scope.kind == .function && env.kindOf x == some .cell) = true
      · rw [if_pos hc, List.lookup_cons, List.lookup_cons, beq_self_eq_true]
        show some NameKind.cell = some (if (k == NameKind.free && env.scope.kind == .function && env.kindOf x == some .cell) = true then NameKind.cell else k)
        rw [if_pos hc]
      · rw [if_neg hc, List.lookup_cons, List.lookup_cons, beq_self_eq_true]
        show some k = some (if (k == NameKind.free && env.scope.kind == .function && env.kindOf x == some .cell) = true then NameKind.cell else k)
        rw [if_neg hc]
    | false =>
      by_cases hc : (k == NameKind.free && env.scope.kind == .function && env.kindOf nm == some .cell) = true
      · rw [if_pos hc]; simp only [List.lookup_cons, hx]; exact ih
      · rw [if_neg hc]; simp only [List.lookup_cons, hx]; exact ih
end L2

namespace L2
open PySem PySem.Spec PyProof.Rows

/-- the context of a comprehension's block -/
def cxC (X : Cx) (scope : Scope) (N' : List Str) (s : Shared) (H : Hp) (fp : List Addr) : Cx where
  prog := X.prog
  w := X.w
  K := X.K
  mg := X.mg
  base := X.base
  A := X.A
  N := N'
  s₀ := s
  H₀ := H
  env := compEnvC scope (cellsFrom (s.heap.objs.size + 1) scope.names (clFor X.env.cells scope.names [])) s.heap.objs.size X.env
  outer := X.stack
  stack := X.stack
  ex := fp
  fn := fun x => decide (scope.names.lookup x = some .cell)
  calm := X.calm
  pn := []
  xe := fun _ _ => False

/-- the values at the block's entry: the captured names' -/
def startC (caps : List (Option Nat)) (σ : St) : St := caps.map fun o => o.bind fun i => (σ[i]?).bind fun v => v

/-- what the block's scope must be: caps tells for each of its names the slot outside, if it is captured -/
structure CScope (X : Cx) (scope : Scope) (N' : List Str) (caps : List (Option Nat)) : Prop where
  kind : scope.kind = .function
  uniq : (scope.names.map (·.1)).Nodup
  free : ∀ x ∈ scope.names, x.2 = .free → X.env.kindOf x.1 = some .cell ∨ X.env.kindOf x.1 = some .free
  len : caps.length = N'.length
  cap : ∀ (j i : Nat) (x : Str), caps[j]? = some (some i) → N'[j]? = some x → X.N[i]? = some x ∧ (x, NameKind.free) ∈ scope.names

theorem lookup_of_mem {α : Type} : ∀ {l : List (Str × α)} {x : Str} {k : α}, (l.map (·.1)).Nodup → (x, k) ∈ l → l.lookup x = some k
  | [], _, _, _, h => by cases h
  | (y, j) :: r, x, k, nd, h => by
    rw [List.map_cons, List.nodup_cons] at nd
    rw [List.lookup_cons]
    rcases List.mem_cons.mp h with e | h
    · cases e; simp
    · have : (x == y) = false := by
        rw [beq_eq_false_iff_ne]
        intro e
        exact nd.1 (e ▸ List.mem_map.mpr ⟨(x, k), h, rfl⟩)
      rw [this]
      exact lookup_of_mem nd.2 h

section
variable {X : Cx} {pins : List (Addr × Obj)} {σ : St} {H : Hp} {s : Shared} {scope : Scope} {N' : List Str} {caps : List (Option Nat)} {fp : List Addr}

theorem CScope.names (S : CScope X scope N' caps) : ∀ x ∈ scope.names, x.2 = .local → scope.names.lookup x.1 = some .local := fun x hx hl => by
  obtain ⟨n, k⟩ := x
  cases hl
  exact lookup_of_mem S.uniq hx
theorem CScope.clos (S : CScope X scope N' caps) (ok : X.Ok) : closureFor scope X.env = pure (clFor X.env.cells scope.names []) :=
  closureFor_eq fun x hx hf => ok.has x.1 (S.free x hx hf)

theorem inv_comp (I : Inv X pins σ H s) (S : CScope X scope N' caps) (hfp : ∀ b ∈ fp, FpOk X pins H b) (hfo : ∀ b ∈ fp, ∃ o, s.heap.get? b = some o) :
    Inv (cxC X scope N' s H fp) [] (startC caps σ) H { s with heap := pushCells (s.heap.push { cls := .type "dict", data := .dict #[] }) scope.names } := by
  have keep : ∀ b o, s.heap.get? b = some o → (pushCells (s.heap.push { cls := .type "dict", data := .dict #[] }) scope.names).get? b = some o :=
    fun b o e => pushCells_keeps _ _ b o (Heap.get?_push_of_some _ e)
  have accLt : ∀ x c, (clFor X.env.cells scope.names []).lookup x = some c → (x, NameKind.free) ∈ scope.names ∧ X.env.cells.lookup x = some c := fun x c e => by
    rcases clFor_of _ _ _ e with q | q
    · cases q
    · exact q
  have cellLt : ∀ x c, X.env.cells.lookup x = some c → c < s.heap.objs.size := fun x c e => by
    obtain ⟨v, q⟩ := I.cell x c e
    exact q.lt
  have kf : ∀ x, (cxC X scope N' s H fp).env.kindOf x = (scope.names.lookup x).map fun k => if (k == NameKind.free && X.env.scope.kind == .function && X.env.kindOf x == some .cell) then NameKind.cell else k := fun x => lookup_relabel scope.names
  have ofCells : ∀ x c, (cxC X scope N' s H fp).env.cells.lookup x = some c → ((x, NameKind.free) ∈ scope.names ∧ X.env.cells.lookup x = some c) ∨ ((x, NameKind.cell) ∈ scope.names ∧ s.heap.objs.size + 1 ≤ c) := fun x c e => by
    rcases cellsFrom_of _ _ _ e with q | q
    · exact .inl (accLt x c q)
    · exact .inr q
  have notC : ∀ x, (x, NameKind.free) ∈ scope.names → (x, NameKind.cell) ∉ scope.names := fun x h1 h2 => by
    have a := lookup_of_mem S.uniq h1
    rw [lookup_of_mem S.uniq h2] at a
    cases a
  have freeCell : ∀ x c, (x, NameKind.free) ∈ scope.names → X.env.cells.lookup x = some c → (cxC X scope N' s H fp).env.cells.lookup x = some c := fun x c hx e => by
    have q : (cellsFrom (s.heap.objs.size + 1) scope.names (clFor X.env.cells scope.names [])).lookup x = some c := by
      rw [cellsFrom_out _ _ _ (notC x hx)]
      exact clFor_has _ e _ _ hx
    exact q
  have bigCell : ∀ x c, (cxC X scope N' s H fp).env.cells.lookup x = some c → s.heap.objs.size + 1 ≤ c → (pushCells (s.heap.push { cls := .type "dict", data := .dict #[] }) scope.names).IsCell c none := fun x c e hc => by
    have e' : (cellsFrom (s.heap.push { cls := .type "dict", data := .dict #[] }).objs.size scope.names (clFor X.env.cells scope.names [])).lookup x = some c := by
      rw [Heap.size_push]; exact e
    rcases pushCells_cell _ _ _ e' with q | q
    · exact absurd (Nat.lt_of_lt_of_le (cellLt x c (accLt x c q).2) (Nat.le_of_succ_le hc)) (Nat.lt_irrefl _)
    · exact q
  refine ⟨⟨I.mod, S.kind, I.ok.glob, I.ok.blt, Nat.le_refl _, ?inj, ?has, ?cab, I.ok.hd, I.ok.frames, .inl rfl, ?exf, I.bs, Nat.le_trans I.ok.bsz I.sz, ?noex, ?exfs, I.stack, I.stkFree⟩,
    rfl, I.bare, Un.kept keep, ⟨fun _ => none, (Heap.Ns.new s.heap (.type "dict")).keeps (pushCells_keeps _ _), ?loc⟩, ?cell, I.hok.fresh (Nat.le_refl _), ?freeC, fun p hp => absurd (show p ∈ ([] : List (Addr × Obj)) from hp) (by simp), I.hok.kept keep, ?len⟩
  case inj =>
    refine cellsFrom_inj scope.names _ _ (fun x c e => ?_) (fun x y c e1 e2 => I.ok.inj x y c (accLt x c e1).2 (accLt y c e2).2)
    exact Nat.lt_succ_of_lt (cellLt x c (accLt x c e).2)
  case has =>
    intro x hx
    rw [kf] at hx
    cases hl : scope.names.lookup x with
    | none => rw [hl] at hx; rcases hx with hx | hx <;> cases hx
    | some k =>
      have hm := PySem.mem_of_lookup hl
      by_cases hk : k = .free
      · subst hk
        obtain ⟨c, hc⟩ := I.ok.has x (S.free _ hm rfl)
        exact ⟨c, freeCell x c hm hc⟩
      · have hb : (k == NameKind.free) = false := by simpa using hk
        rw [hl] at hx
        simp only [Option.map_some, hb, Bool.false_and, Bool.false_eq_true, if_false, Option.some.injEq] at hx
        have hk2 : k = .cell := by
          rcases hx with z | z
          · exact z
          · exact absurd z hk
        subst hk2
        exact Option.isSome_iff_exists.mp (PySem.W.cellsFrom_some scope.names (s.heap.objs.size + 1) (clFor X.env.cells scope.names []) (.inl hl))
  case cab =>
    intro x c hf e
    have hf' : scope.names.lookup x = some .cell := of_decide_eq_true hf
    rcases ofCells x c e with ⟨q, _⟩ | ⟨_, q⟩
    · exact absurd (PySem.mem_of_lookup hf') (notC x q)
    · show s.heap.objs.size ≤ c
      omega
  case exf =>
    intro b hb
    obtain ⟨o, ho⟩ := hfo b hb
    have hlt := Heap.lt_size ho
    obtain ⟨f0, f1, f2, f3, f4, f5⟩ := hfp b hb
    refine ⟨Nat.ne_of_lt hlt, fun x c e => ?_⟩
    rcases ofCells x c e with ⟨_, q⟩ | ⟨_, q⟩
    · exact f4 x c q
    · exact (Nat.ne_of_lt (Nat.lt_of_lt_of_le hlt (Nat.le_of_succ_le q))).symm
  case noex =>
    intro b o e hb
    obtain ⟨f0, f1, f2, f3, f4, f5⟩ := hfp b hb
    rcases f3 with z | z
    · exact I.ok.noex b o e z
    · exact absurd (Nat.lt_of_lt_of_le (Heap.lt_size e) (Nat.le_trans I.ok.bsz z)) (Nat.lt_irrefl _)
  case exfs =>
    intro b hb z
    obtain ⟨f0, f1, f2, f3, f4, f5⟩ := hfp b hb
    rcases List.mem_cons.mp (I.stkSub b z) with q | q
    · exact f1 q
    · exact f2 q
  case loc =>
    intro i x v h1 h2 h3
    unfold startC at h2
    rw [List.getElem?_map] at h2
    cases hc : caps[i]? with
    | none => rw [hc] at h2; cases h2
    | some o =>
      rw [hc] at h2
      cases o with
      | none => cases h2
      | some k =>
        have h2' : ((σ[k]?).bind fun v => v) = some v := by simpa using h2
        obtain ⟨e1, e2⟩ := S.cap i k x hc h1
        have hσ : σ[k]? = some (some v) := by
          cases hq : σ[k]? with
          | none => rw [hq] at h2'; cases h2'
          | some y => rw [hq] at h2'; simp at h2'; rw [h2']
        have hkd := S.free _ e2 rfl
        obtain ⟨m, hn, hl⟩ := I.loc
        obtain ⟨u, r, lk⟩ := hl k x v e1 hσ (by rcases hkd with q | q; exact .inr (.inl q); exact .inr (.inr q))
        refine ⟨u, r, ?_⟩
        rcases lk with ⟨q, _⟩ | ⟨q, c, e, z⟩
        · rcases hkd with z | z
          · rw [q] at z; cases z
          · rw [q] at z; cases z
        · refine .inr ⟨?_, c, freeCell x c e2 e, z.keeps keep⟩
          rw [kf, lookup_of_mem S.uniq e2]
          simp only [Option.map_some, beq_self_eq_true, Bool.true_and]
          split
          · exact .inl rfl
          · exact .inr rfl
  case cell =>
    intro x c e
    rcases ofCells x c e with ⟨_, q⟩ | ⟨_, q⟩
    · obtain ⟨v, z⟩ := I.cell x c q
      exact ⟨v, z.keeps keep⟩
    · exact ⟨none, bigCell x c e q⟩
  case freeC =>
    intro x c e
    rcases ofCells x c e with ⟨_, q⟩ | ⟨_, q⟩
    · exact I.freeC x c q
    · exact I.hok.fresh (by omega)
  case len =>
    show (startC caps σ).length = N'.length
    unfold startC
    rw [List.length_map, S.len]

/-- behind the block: back in the outer frame -/
theorem Inv.comp_end {H3 H' : Hp} {s3 s' : Shared} {pins' : List (Addr × Obj)} {σ' : St} (I : Inv X pins σ H s) (hos : s3.os = s.os) (u3 : Un (frs X.stack) fp H H3 s.heap s3.heap) (hfp : ∀ b ∈ fp, FpOk X pins H b)
    (J : Inv (cxC X scope N' s3 H3 fp) pins' σ' H' s') : Inv X pins σ H' s' := by
  refine I.call' (ch := fp) (J.os.trans hos) (u3.trans J.base) J.hok J.bare fun b hb => ?_
  obtain ⟨f0, f1, f2, f3, f4, f5⟩ := hfp b hb
  exact ⟨f3, f1, f4, f5⟩

theorem wpAny_newFunctionEnv_comp {M : Model} {A : Around} {E : Value → Shared → Prop} {globals : Addr} {cl : List (Str × Addr)} {qual : Str} {env : Env} {Q : Env → Shared → Prop}
    (hQ : Q (newEnv scope s.heap.objs.size globals (cellsFrom (s.heap.objs.size + 1) scope.names cl) qual none .none (some env) builtinsNs) { s with heap := pushCells (s.heap.push { cls := .type "dict", data := .dict #[] }) scope.names }) :
    wpAny M A (newFunctionEnv scope globals cl [] qual none .none (some env)) Q E s := by
  simp only [newFunctionEnv, Option.isSome_some, if_true]
  refine wpAny_bind (wpAny_alloc ?_)
  refine wpAny_bind (wpAny_layCells _ (fun nm kd cs => by cases hkd : kd == NameKind.cell <;> simp [hkd]) _ _ _ _ ?_)
  rw [show ({ s with heap := s.heap.push { cls := .type "dict", data := .dict #[] } } : Shared).heap.objs.size = s.heap.objs.size + 1 from Heap.size_push ..]
  rw [List.forIn_nil]
  exact wpAny_bind (wpAny_pure (wpAny_pure hQ))
end

/-! ### the loop of a list comprehension, any target -/
section
variable {pg : Program} {wd : World} {Ar : Around} {Rz : Result → Shared → Prop} {s0 : Shared}
theorem codeAny_compLoop_tgt {elt tg it0 : Expr} {cs : List Expr} {sco : Scope} {ps : Pos} {itv ac : Value} {ev : Env} (J : Nat → Shared → Prop)
    (hturn : ∀ m t, J m t → wpAny (model pg wd) Ar (pyNext itv) (fun rr t₁ => match rr with
      | none => Rz (.ok .next) t₁
      | some v => wpAny (model pg wd) Ar (letOwnedTupleGo tg itv v) (fun _ t₁ => wpAny (model pg wd) Ar (assign tg ev v) (fun _ t₂ =>
          wpAny (model pg wd) Ar (forIn cs true fun c r => if r = true then do let ok ← isTrue c ev (eval c ev); pure (ForInStep.yield ok) else pure (ForInStep.yield r)) (fun good t₃ =>
            if good = true then wpAny (model pg wd) Ar (eval elt ev) (fun y t₄ =>
              wpAny (model pg wd) Ar (call (.builtin "list.append") [ac, y]) (fun _ t₅ => ∃ k, k < m ∧ J k t₅) (fun _ _ => False) t₄) (fun _ _ => False) t₃
            else ∃ k, k < m ∧ J k t₃) (fun _ _ => False) t₂) (fun _ _ => False) t₁) (fun _ _ => False) t₁) (fun _ _ => False) t)
    (m0 : Nat) (h0 : J m0 s0) : codeAny (model pg wd) Ar (.compLoop (.ListComp elt [⟨tg, it0, cs, 0⟩] sco ps) 0 itv ac ev) Rz s0 := by
  have no : ∀ {α : Type} {tr : Sem α} {Q : α → Shared → Prop} {E : Value → Shared → Prop} {t : Shared}, wpAny (model pg wd) Ar tr Q (fun _ _ => False) t → wpAny (model pg wd) Ar tr Q E t :=
    fun z => wpAny_mono z (fun _ _ x => x) fun _ _ x => x.elim
  refine codeAny_loop rfl J (fun m t hJ => wpAny_noted ?_) m0 h0
  show wpAny _ Ar (compTurn (.ListComp elt [⟨tg, it0, cs, 0⟩] sco ps) 0 itv ac ev) _ _ t
  rw [compTurn_list]
  refine wpAny_bind (wpAny_standAt (wpAny_bind (wpAny_mono (no (hturn m t hJ)) (fun rr t₁ q₁ => ?_) fun _ _ z => z)))
  cases rr with
  | none => exact wpAny_pure q₁
  | some v =>
    refine wpAny_bind (wpAny_mono (no q₁) (fun _ t₁ q₂ => ?_) fun _ _ z => z)
    refine wpAny_bind (wpAny_mono (no q₂) (fun _ t₂ q₃ => wpAny_bind (wpAny_mono (no q₃) (fun good t₃ q₄ => ?_) fun _ _ z => z)) fun _ _ z => z)
    cases good with
    | false => exact wpAny_pure (And.intro rfl q₄)
    | true =>
      refine wpAny_bind (wpAny_bind (wpAny_mono (no q₄) (fun y t₄ q₅ => wpAny_bind (wpAny_mono (no q₅)
        (fun _ t₅ q₆ => wpAny_pure (wpAny_pure (And.intro rfl q₆))) fun _ _ z => z)) fun _ _ z => z))
end
end L2

namespace L2
open PySem PySem.Spec PyProof.Rows

/-- the tests of a comprehension's clause -/
def PIf (X : Cx) (ifs : List Expr) (t : TT) : Prop :=
  ∀ (pins : List (Addr × Obj)) (s : Shared) (σ : St) (H : Hp) (Q : Bool → Hp → Prop), Inv X pins σ H s → t σ H Q →
    wpAny (model X.prog X.w) X.A (forIn ifs true fun c r => if r = true then do let ok ← isTrue c X.env (eval c X.env); pure (ForInStep.yield ok) else pure (ForInStep.yield r)) (TP X pins σ Q) X.xe s
def tTrue : TT := fun _ H Q => Q true H
theorem tt_intro {σ : St} {H : Hp} {A B : Hp → Prop} (h : A H) : tTrue σ H (fun b H5 => if b = true then A H5 else B H5) := by
  show if true = true then A H else B H
  exact iteT h
theorem pif_nil {X : Cx} : PIf X [] tTrue := fun _ _ _ H _ I h => wpAny_tests_nil ⟨H, I, h⟩
theorem pif_one {X : Cx} {c : Expr} {t : TT} (h : PT X c t) : PIf X [c] t := fun pins s σ H Q I q => wpAny_tests_one (h pins s σ H Q I q)

/-- the names that are known in a stay as they are in b -/
def CapKeep (a b : St) : Prop := b.length = a.length ∧ ∀ (k : Nat) v, a[k]? = some (some v) → b[k]? = some (some v)
theorem CapKeep.set {a : St} {i : Nat} {v : Option V} (h : a[i]? = some none) : CapKeep a (a.set i v) :=
  ⟨List.length_set, fun k u e => by
    by_cases hk : i = k
    · subst hk; rw [h] at e; cases e
    · rw [List.getElem?_set_ne hk]; exact e⟩
theorem CapKeep.trans {a b c : St} (h : CapKeep a b) (g : CapKeep b c) : CapKeep a c := ⟨g.1.trans h.1, fun k v e => g.2 k v (h.2 k v e)⟩
theorem CapKeep.refl (a : St) : CapKeep a a := ⟨rfl, fun _ _ e => e⟩

/-- what a comprehension wants, once its iterator J stands -/
def LCw (σ0 : St) (g : TG) (tc : TT) (te : TE) (Q : VK) (J : It) (H1 : Hp) : Prop :=
  ∀ D, H1 D = none → ∃ W : Nat → Nat → List V → Hp → Prop, (∃ m, W 0 m [] (upd H1 D (.lst []))) ∧ ∀ i m acc H2, W i m acc H2 →
    (J.stop i H2 ∧ Q (.ref D) H2) ∨ (J.go i H2 ∧ ∃ N : List V → Hp → Prop, (∀ acc' H', N acc' H' → ∃ m', m' < m ∧ W (i + 1) m' acc' H') ∧
      ∀ x H3, J.yld i H2 x H3 → g x σ0 H3 fun σ4 H4 => CapKeep σ0 σ4 ∧ tc σ4 H4 fun b H5 =>
        if b = true then te σ4 H5 fun y H6 => H6 D = some (.lst acc) ∧ acc.length < sizeLine ∧ N (acc ++ [y]) (upd H6 D (.lst (acc ++ [y]))) else N acc H5)
def tLC (caps : List (Option Nat)) (wi : TI) (g : TG) (tc : TT) (te : TE) : TE := fun σ H Q => wi σ H (LCw (startC caps σ) g tc te Q)

section
variable {X : Cx} {scope : Scope} {N' : List Str} {caps : List (Option Nat)} {elt tg iter : Expr} {ifs : List Expr} {pos : Pos} {wi : TI} {g : TG} {tc : TT} {te : TE}

theorem comp_block (hc : X.calm = true) (S : CScope X scope N' caps)
    (hb : ∀ (s : Shared) (H : Hp) (fp : List Addr), PG (cxC X scope N' s H fp) tg g ∧ PIf (cxC X scope N' s H fp) ifs tc ∧ PE (cxC X scope N' s H fp) elt te)
    {pins : List (Addr × Obj)} {s : Shared} {σ : St} {H : Hp} {J : It} {it : Addr} {fp : List Addr} {tn : Nat → Heap → Prop} {Q : VK} {E : Value → Shared → Prop} {RR : Value → Addr → Result → Shared → Prop}
    (I : Inv X pins σ H s) (T : Turn X.prog X.w X.K tg J fp it tn) (st : tn 0 s.heap) (hf : ∀ b ∈ fp, FpOk X pins H b) (hw : LCw (startC caps σ) g tc te Q J H)
    (hRR : ∀ D C s' H', Inv X pins σ H' s' → (∃ m, s'.heap.Ns C m) → FpOk X pins H' C → Q (.ref D) H' → RR (.ref D) C (.ok .next) s') :
    wpAny (model X.prog X.w) X.A (newList []) (fun acc s₃ => wpAny (model X.prog X.w) X.A (newFunctionEnv scope X.env.globals (clFor X.env.cells scope.names []) [] X.env.qual none .none (some X.env)) (fun cenv s₄ =>
      codeAny (model X.prog X.w) X.A (.compStart (.ListComp elt [⟨tg, iter, ifs, 0⟩] scope pos) 0 (.ref it) acc { cenv with scope := relabel scope X.env }) (RR acc cenv.locals) s₄) E s₃) E s := by
  refine wpAny_newObj_type ?_
  have hDn : H s.heap.objs.size = none := I.fresh
  have I3 : Inv X pins σ (upd H s.heap.objs.size (.lst [])) { s with heap := s.heap.push { cls := .type "list", data := .seq ([] : List Value).toArray } } := I.lnew (t' := s.toks) .nil (Nat.zero_le _)
  have fo : ∀ b ∈ fp, ∃ o, s.heap.get? b = some o := fun b hb => let ⟨o, e, _⟩ := T.obj _ _ st b hb; ⟨o, e⟩
  have fne : ∀ b ∈ fp, b ≠ s.heap.objs.size := fun b hb => let ⟨o, e⟩ := fo b hb; Nat.ne_of_lt (Heap.lt_size e)
  have f3 : ∀ b ∈ fp, FpOk X pins (upd H s.heap.objs.size (.lst [])) b := fun b hb => ⟨by rw [upd_ne (fne b hb)]; exact (hf b hb).1, (hf b hb).2⟩
  have push3 : ∀ b o, s.heap.get? b = some o → (s.heap.push { cls := .type "list", data := .seq ([] : List Value).toArray }).get? b = some o := fun b o e => Heap.get?_push_of_some _ e
  have fo3 : ∀ b ∈ fp, ∃ o, (s.heap.push { cls := .type "list", data := .seq ([] : List Value).toArray }).get? b = some o := fun b hb => let ⟨o, e⟩ := fo b hb; ⟨o, push3 b o e⟩
  have st3 : tn 0 (s.heap.push { cls := .type "list", data := .seq ([] : List Value).toArray }) := T.keep _ _ _ st fun b _ o e => push3 b o e
  have u3 : Un (frs X.stack) fp H (upd H s.heap.objs.size (.lst [])) s.heap (s.heap.push { cls := .type "list", data := .seq ([] : List Value).toArray }) := Un.laid push3 (Nat.le_refl _) hDn
  generalize hD : s.heap.objs.size = D at *
  generalize hs3 : ({ s with heap := s.heap.push { cls := .type "list", data := .seq ([] : List Value).toArray } } : Shared) = s3 at *
  have os3 : s3.os = s.os := by rw [← hs3]
  have hp3 : s.heap.push { cls := .type "list", data := .seq ([] : List Value).toArray } = s3.heap := by rw [← hs3]
  rw [hp3] at st3 u3 fo3
  have sz3 : s.heap.objs.size ≤ s3.heap.objs.size := by rw [← hp3, Heap.size_push]; exact Nat.le_succ _
  refine wpAny_newFunctionEnv_comp ?_
  have J0 := inv_comp I3 S f3 fo3
  have st4 : tn 0 (pushCells (s3.heap.push { cls := .type "dict", data := .dict #[] }) scope.names) := T.keep _ _ _ st3 fun b _ o e => pushCells_keeps _ _ b o (Heap.get?_push_of_some _ e)
  generalize hs4 : ({ s3 with heap := pushCells (s3.heap.push { cls := .type "dict", data := .dict #[] }) scope.names } : Shared) = s4 at *
  have st4' : tn 0 s4.heap := by rw [← hs4]; exact st4
  obtain ⟨W, ⟨m0, w0⟩, turn⟩ := hw D hDn
  obtain ⟨hPG, hPI, hPE⟩ := hb s3 (upd H D (.lst [])) fp
  have stat : ∀ {σ' : St} {H' : Hp} {s' : Shared}, Inv (cxC X scope N' s3 (upd H D (.lst [])) fp) [] σ' H' s' → (∀ b ∈ fp, H' b = none) → ∀ b ∈ fp, FpOk (cxC X scope N' s3 (upd H D (.lst [])) fp) [] H' b := fun K hn b hb =>
    ⟨hn b hb, (K.ok.exf b hb).1, K.ok.exfs b hb, .inl hb, (K.ok.exf b hb).2, fun p hp => absurd (show p ∈ ([] : List (Addr × Obj)) from hp) (by simp)⟩
  have loop : codeAny (model X.prog X.w) X.A (.compLoop (.ListComp elt [⟨tg, iter, ifs, 0⟩] scope pos) 0 (.ref it) (.ref D) (cxC X scope N' s3 (upd H D (.lst [])) fp).env) (RR (.ref D) s3.heap.objs.size) s4 := by
    refine codeAny_compLoop_tgt (fun n s' => ∃ i acc H', Inv (cxC X scope N' s3 (upd H D (.lst [])) fp) [] (startC caps σ) H' s' ∧ tn i s'.heap ∧ (∀ b ∈ fp, H' b = none) ∧ W i n acc H') ?_ m0
      ⟨0, [], _, J0, st4', fun b hb => (f3 b hb).1, w0⟩
    rintro n s5 ⟨i, acc, H5, J5, st5, fr5, w5⟩
    rcases turn i n acc H5 w5 with ⟨stop, q⟩ | ⟨go, N, hN, step⟩
    · refine thn (T.done (cxC X scope N' s3 (upd H D (.lst [])) fp) rfl rfl rfl hc i [] s5 _ H5 (fun _ _ => False) J5 (stat J5 fr5) st5 stop) fun r s6 ⟨hr, J6⟩ => ?_
      subst hr
      refine hRR D s3.heap.objs.size s6 H5 (I.comp_end os3 u3 hf J6) ?_ (I.fpOk sz3 J6.free) q
      obtain ⟨m, hn, _⟩ := J6.loc
      exact ⟨m, hn⟩
    · refine thn (T.item (cxC X scope N' s3 (upd H D (.lst [])) fp) rfl rfl rfl hc i [] s5 _ H5 (fun _ _ => False) J5 (stat J5 fr5) st5 go) fun r s6 ⟨u, hr, h6⟩ => ?_
      subst hr
      refine thn h6 fun _ s7 ⟨x, H7, J7, r7, y7, st7, fr7⟩ => ?_
      have J7' := J7.pinned (stat J7 fr7) (T.obj _ _ st7)
      have again : ∀ {σ9 : St} {H9 : Hp} {s9 : Shared} {acc9 : List V}, CapKeep (startC caps σ) σ9 → Inv (cxC X scope N' s3 (upd H D (.lst [])) fp) ([] ++ pinsAt fp s7.heap) σ9 H9 s9 → N acc9 H9 →
          ∃ m, m < n ∧ ∃ i acc H', Inv (cxC X scope N' s3 (upd H D (.lst [])) fp) [] (startC caps σ) H' s9 ∧ tn i s9.heap ∧ (∀ b ∈ fp, H' b = none) ∧ W i m acc H' := fun {σ9 H9 s9 acc9} ck J9 n9 => by
        obtain ⟨m', hm, w9⟩ := hN acc9 H9 n9
        refine ⟨m', hm, i + 1, acc9, H9, J9.unpinned.weak ck.1.symm ck.2, T.keep _ _ _ st7 fun b hb o e => (J9.pin (b, o) (List.mem_append_right _ (List.mem_append_right _ (mem_pinsAt hb e)))).1, fun b hb => ?_, w9⟩
        obtain ⟨o, e, d⟩ := T.obj _ _ st7 b hb
        exact (J9.pin (b, o) (List.mem_append_right _ (List.mem_append_right _ (mem_pinsAt hb e)))).2.1
      refine thn (hPG _ s7 _ H7 x u _ J7' r7 (step x H7 y7)) fun _ s8 ⟨σ8, H8, J8, ck, q8⟩ => ?_
      refine thn (hPI _ s8 σ8 H8 _ J8 q8) fun b s9 ⟨H9, J9, q9⟩ => ?_
      cases b with
      | false => exact again ck J9 q9
      | true =>
        refine thn (hPE _ s9 σ8 H9 _ J9 q9) fun y s10 ⟨yv, H10, J10, r10, hD10, hz, q10⟩ => ?_
        refine thn (mt_append _ s10 σ8 H10 (.ref D) [yv] (.ref D) [y] (fun _ H11 => N (acc ++ [yv]) H11) J10 rfl (.cons r10 .nil) ⟨D, acc, yv, rfl, rfl, hD10, hz, q10⟩) fun _ s11 ⟨_, H11, J11, _, q11⟩ => ?_
        exact again ck J11 q11
  exact codeAny_compStart_list loop (T.self _ 0 _ _ _ st4' loop)

/-- [elt for tg in iter if ..], as a value -/
theorem pe_lc (hc : X.calm = true) (S : CScope X scope N' caps) (hi : PI X tg iter wi)
    (hb : ∀ (s : Shared) (H : Hp) (fp : List Addr), PG (cxC X scope N' s H fp) tg g ∧ PIf (cxC X scope N' s H fp) ifs tc ∧ PE (cxC X scope N' s H fp) elt te)
    (hs : ∀ x, foldedSetIterable iter X.env x = pure x := by intro _; rfl) : PE X (.ListComp elt [⟨tg, iter, ifs, 0⟩] scope pos) (tLC caps wi g tc te) := by
  intro pins s σ H Q I h
  rw [eval_ListComp]
  refine wpAny_comprehension_free (use := none) rfl hs (S.clos I.ok) S.kind S.names (thn (hi pins s σ H _ I h) fun v s1 h1 => thn h1 fun itv s2 h2 => ?_)
  obtain ⟨it, fp, tn, J, H2, e, I2, T, st2, f2, hw⟩ := h2
  subst e
  refine comp_block (RR := fun acc C => compPost (model X.prog X.w) X.A X.xe none (EP X pins σ Q) acc C) hc S hb I2 T st2 f2 hw ?_
  intro D C s' H' I' ns fC q
  obtain ⟨m, hn⟩ := ns
  refine ⟨m, hn, fun h' hsb => ⟨.ref D, H', ?_, rfl, q⟩⟩
  obtain ⟨c0, c1, c2, c3, c4, c5⟩ := fC
  exact I'.turned (t' := s'.toks) (fun b o hb e => (hsb.2 b hb).trans e) c0 c1 c3 c4 c5

/-- y = [elt for tg in iter if ..] -/
theorem ps_setLC {i : Nat} {y : Str} {pos' spos : Pos} (hN : X.N.Nodup) (hiy : X.N[i]? = some y) (hy : Loc X.env.scope y) (hc : X.calm = true) (S : CScope X scope N' caps) (hi : PI X tg iter wi)
    (hb : ∀ (s : Shared) (H : Hp) (fp : List Addr), PG (cxC X scope N' s H fp) tg g ∧ PIf (cxC X scope N' s H fp) ifs tc ∧ PE (cxC X scope N' s H fp) elt te)
    (hsw : swapsWith (.ListComp elt [⟨tg, iter, ifs, 0⟩] scope pos) (some (.Name y pos')) spos.line X.env = pure true := by rfl)
    (hs : ∀ x, foldedSetIterable iter X.env x = pure x := by intro _; rfl)
    (hfn : X.fn y = true ∨ X.env.scope.names.lookup y = some .local := by first | exact .inl rfl | exact .inr rfl | assumption) :
    PS X (.Assign [.Name y pos'] (.ListComp elt [⟨tg, iter, ifs, 0⟩] scope pos) spos) (tAsg (tLC caps wi g tc te) (gName i)) := by
  intro pins s σ H D I h
  rw [exec_Assign_Name_used _ _ _ _ hsw]; refine wpAny_bind (wpAny_standAt (wpAny_bind ?_))
  show wpAny _ X.A (do let _ ← comprehension (.ListComp elt [⟨tg, iter, ifs, 0⟩] scope pos) scope X.env _ (newList []) false (eval iter X.env) (some (assign (.Name y pos') X.env))) _ _ s
  refine wpAny_bind (wpAny_mono (wpAny_comprehension_free (use := some (assign (.Name y pos') X.env)) (Q := fun _ s' => SP X pins D .next s') rfl hs (S.clos I.ok) S.kind S.names
    (thn (hi pins s σ H _ I h) fun v s1 h1 => thn h1 fun itv s2 h2 => ?_)) (fun _ s' hq => wpAny_pure (wpAny_pure hq)) fun _ _ e => e)
  obtain ⟨it, fp, tn, J, H2, e, I2, T, st2, f2, hw⟩ := h2
  subst e
  refine comp_block (RR := fun acc C => compPost (model X.prog X.w) X.A X.xe (some (assign (.Name y pos') X.env)) (fun _ s' => SP X pins D .next s') acc C) hc S hb I2 T st2 f2 hw ?_
  intro Da C s' H' I' ns fC q
  obtain ⟨m, hn⟩ := ns
  obtain ⟨c0, c1, c2, c3, c4, c5⟩ := fC
  refine wpAny_assign_Name (store_ok2 I' hN hiy hy (v := .ref Da) (u := .ref Da) rfl (fun s'' I'' ch => ?_) hfn)
  obtain ⟨a, sb, ha⟩ := ch
  have haC : C ≠ a := by
    rcases ha with z | z
    · rw [z]; exact c1.symm.symm
    · exact (c4 y a z).symm
  refine ⟨m, hn.sameBut sb haC, fun h' hsb => ⟨_, H', ?_, q⟩⟩
  exact I''.turned (t' := s''.toks) (fun b o hb e => (hsb.2 b hb).trans e) c0 c1 c3 c4 c5
end

/-! ### the forms one uses -/
theorem lc_range {lo : Int} {n : Nat} {σ0 : St} {g : TG} {tc : TT} {te : TE} {Q : VK} {H1 : Hp} (Pv : Addr → Nat → List V → Hp → Prop)
    (h0 : ∀ D, H1 D = none → Pv D 0 [] (upd H1 D (.lst [])))
    (hs : ∀ D i acc H2, i < n → Pv D i acc H2 → g (.int (lo + i)) σ0 H2 fun σ4 H4 => CapKeep σ0 σ4 ∧ tc σ4 H4 fun b H5 =>
      if b = true then te σ4 H5 fun y H6 => H6 D = some (.lst acc) ∧ acc.length < sizeLine ∧ Pv D (i + 1) (acc ++ [y]) (upd H6 D (.lst (acc ++ [y]))) else Pv D (i + 1) acc H5)
    (hd : ∀ D acc H2, Pv D n acc H2 → Q (.ref D) H2) : LCw σ0 g tc te Q (Itr lo n) H1 := by
  intro D hD
  refine ⟨fun i m acc H => m = n - i ∧ i ≤ n ∧ Pv D i acc H, ⟨n, by simp, Nat.zero_le _, h0 D hD⟩, ?_⟩
  rintro i m acc H2 ⟨rfl, hi, p⟩
  by_cases hlt : i < n
  · refine .inr ⟨hlt, Pv D (i + 1), fun acc' H' p' => ⟨n - (i + 1), by omega, rfl, hlt, p'⟩, fun x H' y => ?_⟩
    obtain ⟨e, y⟩ := y
    subst e y
    exact hs D i acc _ hlt p
  · have e : i = n := by omega
    subst e
    exact .inl ⟨Nat.le_refl _, hd D acc H2 p⟩
theorem lc_list {K : PySem.W.Frag} {a : Addr} {xs : List V} {σ0 : St} {g : TG} {tc : TT} {te : TE} {Q : VK} {H1 : Hp} (Pv : Addr → Nat → List V → Hp → Prop)
    (h0 : ∀ D, H1 D = none → Pv D 0 [] (upd H1 D (.lst []))) (hl : ∀ D i acc H, i ≤ xs.length → Pv D i acc H → SqL K H a xs)
    (hs : ∀ D i x acc H2, xs[i]? = some x → Pv D i acc H2 → g x σ0 H2 fun σ4 H4 => CapKeep σ0 σ4 ∧ tc σ4 H4 fun b H5 =>
      if b = true then te σ4 H5 fun y H6 => H6 D = some (.lst acc) ∧ acc.length < sizeLine ∧ Pv D (i + 1) (acc ++ [y]) (upd H6 D (.lst (acc ++ [y]))) else Pv D (i + 1) acc H5)
    (hd : ∀ D acc H2, Pv D xs.length acc H2 → Q (.ref D) H2) : LCw σ0 g tc te Q (Itl K a) H1 := by
  intro D hD
  refine ⟨fun i m acc H => m = xs.length - i ∧ i ≤ xs.length ∧ Pv D i acc H, ⟨xs.length, by simp, Nat.zero_le _, h0 D hD⟩, ?_⟩
  rintro i m acc H2 ⟨rfl, hi, p⟩
  have q := hl D i acc H2 hi p
  by_cases hlt : i < xs.length
  · refine .inr ⟨⟨xs, xs[i], q, by simp [hlt]⟩, Pv D (i + 1), fun acc' H' p' => ⟨xs.length - (i + 1), by omega, rfl, hlt, p'⟩, fun x H' y => ?_⟩
    obtain ⟨e, y⟩ := y
    subst e
    exact hs D i x acc _ (y xs q) p
  · have e : i = xs.length := by omega
    subst e
    exact .inl ⟨⟨xs, q, Nat.le_refl _⟩, hd D acc H2 p⟩
end L2

namespace L2
open PySem PySem.Spec PyProof.Rows

/-! ### xs.insert(i, e) -/
theorem Vals.insertAt {x : V} {u : Value} (r : RelV x u) {xs : List V} {us : List Value} (k : Nat) (h : Vals xs us) : Vals (xs.take k ++ x :: xs.drop k) (us.take k ++ u :: us.drop k) :=
  (h.take k).append (.cons r (h.drop k))
section
variable {X : Cx}
def rInsert : V → List V → Hp → VK → Prop := fun x vs H Q => ∃ l xs i y, x = .ref l ∧ vs = [.int i, y] ∧ H l = some (.lst xs) ∧ 0 ≤ i ∧ i ≤ xs.length ∧ xs.length < sizeLine ∧ Q .non (upd H l (.lst (xs.take i.toNat ++ y :: xs.drop i.toNat)))
theorem mt_insert : MtM X "list.insert" rInsert := by
  intro pins s σ H x vs v us Q I rx rv h
  obtain ⟨l, xs, i, y, rfl, rfl, hH, h0, h1, hz, q⟩ := h
  cases rx
  obtain ⟨u, u2, rfl, ru, ru2⟩ := rv.two
  obtain ⟨t, rfl⟩ := ru
  obtain ⟨z, its, n, r, hl, e⟩ := I.lstM hH
  have hn := line63
  refine call_meets F.slot_list_insert ⟨_, e, rfl⟩ F.entry_list_insert (F.args_list_insert_3 _ _ _)
    (AutoSeq1.list_insert_list_int_val_1 l its.toArray n i t u2 (by rw [fitsIndex_both (by omega) (by omega)]; decide) (by rw [List.size_toArray]; omega)) ⟨e, ?_⟩
  refine ⟨.non, _, I.lset (its' := its.take i.toNat ++ u2 :: its.drop i.toNat) hH e ?_ (r.insertAt ru2 i.toNat) ?_, rfl, q⟩
  · have hk : min i.toNat its.toArray.size = i.toNat := by rw [List.size_toArray]; omega
    have hneg : ¬ i < 0 := by omega
    show (its.toArray.extract 0 (if i < 0 then _ else min i.toNat its.toArray.size)).push u2 ++ its.toArray.extract (if i < 0 then _ else min i.toNat its.toArray.size) its.toArray.size = _
    rw [if_neg hneg, hk]
    apply Array.toList_inj.mp
    simp [Array.toList_extract, List.extract_eq_drop_take]
    exact List.take_of_length_le (by rw [List.length_drop]; exact Nat.le_refl _)
  · rw [List.length_append, List.length_cons, List.length_take, List.length_drop]
    omega

/-! ### sorted(xs) of ints -/
def rSorted (K : PySem.W.Frag) : List V → Hp → VK → Prop := fun xs H Q => ∃ (p : Addr) (ns : List Int), xs = [.ref p] ∧ SqL K H p (ns.map V.int) ∧ ns.length < 64 ∧
  ∀ (l : Addr) (ns' : List Int), H l = none → ns'.Perm ns → ns'.Pairwise (· ≤ ·) → Q (.ref l) (upd H l (.lst (ns'.map V.int)))
theorem call_sorted : CallR X (.builtin "sorted") (rSorted X.K) := by
  intro pins s σ H xs us Q I r h
  obtain ⟨p, ns, rfl, hq, h64, q⟩ := h
  obtain ⟨u, rfl, rx⟩ := vals1 r
  cases rx
  obtain ⟨its, r', pl, hz⟩ := I.list hq
  have hlen := r'.length
  rw [List.length_map] at hlen hz
  refine sorted_ints pl.isList (intsAre_of r') (by omega) fun out ns' a1 a2 a3 => ?_
  obtain ⟨e, he⟩ := sortedAll_at s.heap its out
  have hl' : ns'.length = ns.length := a2.length_eq
  refine ⟨.ref (s.heap.objs.size + 1), _, I.laid (t' := s.toks) (fun b o => sortedAll_old) (Nat.le_succ _) (show ObjOk X.prog X.w _ _ _ (.lst (ns'.map V.int)) from ⟨?_, out.toList, e, vals_ints a1, ?_⟩), rfl, q _ _ (I.hok.fresh (Nat.le_succ _)) a2 a3⟩
  · rw [List.length_map]; omega
  · exact he

/-! ### isinstance(x, T), T a built-in type -/
theorem call_isinst : CallR X (.builtin "isinstance") (fun xs H Q => ∃ x t T b, xs = [x, .ty T] ∧ TyOf X.K H x t ∧ PySem.W.kitOne X.K t (.type T) = some b ∧ Q (.bl b) H) := by
  intro pins s σ H xs us Q I r h
  obtain ⟨x, t, T, b, rfl, ty, e, q⟩ := h
  obtain ⟨u, u2, rfl, rx, ry⟩ := vals2 r
  cases ry
  exact isinst_ok I rx ty e fun tk => ⟨.bl b, H, I.tok _, rfl, q⟩

/-! ### == of lists of ints, and of lists of such lists -/
theorem range_all_eq : ∀ (xs ys : List Int), xs.length = ys.length → ((List.range xs.length).all fun j => xs.getD j 0 == ys.getD j 0) = decide (xs = ys) := by
  intro xs ys h
  rw [Bool.eq_iff_iff, List.all_eq_true, decide_eq_true_iff]
  constructor
  · intro q
    apply List.ext_getElem h
    intro i h1 h2
    have := q i (List.mem_range.mpr h1)
    simpa [List.getD_eq_getElem?_getD, List.getElem?_eq_getElem h1, List.getElem?_eq_getElem h2] using this
  · rintro rfl j _
    simp
theorem eqAt_ints {pins : List (Addr × Obj)} {σ : St} {H : Hp} {s : Shared} {A : Around} {a b : Addr} {ns ms : List Int} (I : Inv X pins σ H s) (ha : SqL X.K H a (ns.map V.int)) (hb : SqL X.K H b (ms.map V.int)) (hu : A.units < cLine) :
    SeqAt.RcAt A s (.ref a) (.ref b) (decide (ns = ms)) := by
  obtain ⟨its, r1, p1, z1⟩ := I.list ha
  obtain ⟨its2, r2, p2, z2⟩ := I.list hb
  have l1 := r1.length
  have l2 := r2.length
  rw [List.length_map] at l1 l2
  by_cases hl : ns.length = ms.length
  · have hsz : its.toArray.size = its2.toArray.size := by simp only [List.size_toArray]; omega
    have q := SeqAt.RcAt.lists (A := A) (e := fun j => ns.getD j 0 == ms.getD j 0) p1.isList p2.isList hsz hu (fun j h1 h2 => by
      have h1' : j < its.length := by simpa using h1
      have h2' : j < its2.length := by simpa using h2
      have g1 : (ns.map V.int)[j]? = some (.int (ns.getD j 0)) := by
        rw [List.getElem?_map, List.getElem?_eq_getElem (by omega : j < ns.length)]
        simp [List.getD_eq_getElem?_getD, List.getElem?_eq_getElem (by omega : j < ns.length)]
      have g2 : (ms.map V.int)[j]? = some (.int (ms.getD j 0)) := by
        rw [List.getElem?_map, List.getElem?_eq_getElem (by omega : j < ms.length)]
        simp [List.getD_eq_getElem?_getD, List.getElem?_eq_getElem (by omega : j < ms.length)]
      obtain ⟨u1, e1, t1, rfl⟩ := r1.get g1
      obtain ⟨u2, e2, t2, rfl⟩ := r2.get g2
      have f1 : its.toArray[j] = Value.int (ns.getD j 0) t1 := by
        rw [List.getElem?_eq_getElem h1'] at e1; simpa using e1
      have f2 : its2.toArray[j] = Value.int (ms.getD j 0) t2 := by
        rw [List.getElem?_eq_getElem h2'] at e2; simpa using e2
      rw [f1, f2]
      exact SeqAt.EqAt.int_int _ _ _ _)
    rw [List.size_toArray, ← l1, range_all_eq ns ms hl] at q
    exact q
  · rw [decide_eq_false (fun e => hl (by rw [e]))]
    exact SeqAt.RcAt.lists_lengths p1.isList p2.isList (by simp only [List.size_toArray, bne_iff_ne]; omega) hu
def rEqInts (K : PySem.W.Frag) : R2 := fun x y H Q => ∃ (a b : Addr) (ns ms : List Int), x = .ref a ∧ y = .ref b ∧ SqL K H a (ns.map V.int) ∧ SqL K H b (ms.map V.int) ∧ Q (.bl (decide (ns = ms))) H
theorem op_eq_ints (hu : X.A.units < cLine) : OpR X (compareOp .Eq) (rEqInts X.K) := by
  intro pins s σ H x y v u Q I rx ry h
  obtain ⟨a, b, ns, ms, rfl, rfl, ha, hb, q⟩ := h
  cases rx; cases ry
  exact eqAt_ints I ha hb hu X.prog X.w X.xe _ ⟨.bl _, H, I, rfl, q⟩

/-- a list of lists of ints stands at p: its rows at as -/
def RowsAt (K : PySem.W.Frag) (H : Hp) (as : List Addr) (rows : List (List Int)) : Prop := Paired (fun a (r : List Int) => SqL K H a (r.map V.int)) as rows
theorem RowsAt.length {K : PySem.W.Frag} {H : Hp} {as : List Addr} {rows : List (List Int)} (r : RowsAt K H as rows) : as.length = rows.length := Paired.length r
theorem RowsAt.get {K : PySem.W.Frag} {H : Hp} : ∀ {as : List Addr} {rows : List (List Int)} {i : Nat} {r : List Int}, RowsAt K H as rows → rows[i]? = some r → ∃ a, as[i]? = some a ∧ SqL K H a (r.map V.int)
  | _, _, _, _, .nil, e => by simp at e
  | _, _, 0, _, .cons r _, e => by simp at e; subst e; exact ⟨_, rfl, r⟩
  | _, _, i + 1, x, .cons _ t, e => by
    obtain ⟨u, h1, h2⟩ := RowsAt.get (i := i) (r := x) t (by simpa using e)
    exact ⟨u, by simpa using h1, h2⟩
theorem RowsAt.getA {K : PySem.W.Frag} {H : Hp} : ∀ {as : List Addr} {rows : List (List Int)} {i : Nat} {a : Addr}, RowsAt K H as rows → as[i]? = some a → ∃ r, rows[i]? = some r ∧ SqL K H a (r.map V.int)
  | _, _, _, _, .nil, e => by simp at e
  | _, _, 0, _, .cons r _, e => by simp at e; subst e; exact ⟨_, rfl, r⟩
  | _, _, i + 1, x, .cons _ t, e => by
    obtain ⟨u, h1, h2⟩ := RowsAt.getA (i := i) (a := x) t (by simpa using e)
    exact ⟨u, by simpa using h1, h2⟩
theorem range_all_rows : ∀ (xs ys : List (List Int)), xs.length = ys.length → ((List.range xs.length).all fun j => decide (xs.getD j [] = ys.getD j [])) = decide (xs = ys) := by
  intro xs ys h
  rw [Bool.eq_iff_iff, List.all_eq_true, decide_eq_true_iff]
  constructor
  · intro q
    apply List.ext_getElem h
    intro i h1 h2
    have := q i (List.mem_range.mpr h1)
    simpa [List.getD_eq_getElem?_getD, List.getElem?_eq_getElem h1, List.getElem?_eq_getElem h2] using this
  · rintro rfl j _
    simp
def rEqRows (K : PySem.W.Frag) : R2 := fun x y H Q => ∃ (p q : Addr) (as bs : List Addr) (ns ms : List (List Int)), x = .ref p ∧ y = .ref q ∧ SqL K H p (as.map V.ref) ∧ SqL K H q (bs.map V.ref) ∧ RowsAt K H as ns ∧ RowsAt K H bs ms ∧ Q (.bl (decide (ns = ms))) H
theorem op_eq_rows (hu : X.A.units + 1 < cLine) : OpR X (compareOp .Eq) (rEqRows X.K) := by
  intro pins s σ H x y v u Q I rx ry h
  obtain ⟨p, q, as, bs, ns, ms, rfl, rfl, ha, hb, rn, rm, qq⟩ := h
  cases rx; cases ry
  obtain ⟨its, r1, p1, z1⟩ := I.list ha
  obtain ⟨its2, r2, p2, z2⟩ := I.list hb
  have l1 := r1.length
  have l2 := r2.length
  rw [List.length_map] at l1 l2
  have ln := rn.length
  have lm := rm.length
  have hu1 : X.A.in1.units < cLine := by
    have : X.A.in1.units ≤ X.A.units + 1 := by first | exact Nat.le_refl _ | simp [Around.in1]
    omega
  by_cases hl : ns.length = ms.length
  · have hsz : its.toArray.size = its2.toArray.size := by simp only [List.size_toArray]; omega
    refine SeqAt.eq_listAt (e := fun j => decide (ns.getD j [] = ms.getD j [])) p1.isList p2.isList hsz (by omega) (fun j h1 h2 => ?_) ?_
    · have h1' : j < its.length := by simpa using h1
      have h2' : j < its2.length := by simpa using h2
      obtain ⟨a, ea, sa⟩ := rn.get (i := j) (r := ns.getD j []) (by rw [List.getElem?_eq_getElem (by omega : j < ns.length)]; simp [List.getD_eq_getElem?_getD, List.getElem?_eq_getElem (by omega : j < ns.length)])
      obtain ⟨b, eb, sb⟩ := rm.get (i := j) (r := ms.getD j []) (by rw [List.getElem?_eq_getElem (by omega : j < ms.length)]; simp [List.getD_eq_getElem?_getD, List.getElem?_eq_getElem (by omega : j < ms.length)])
      have g1 : (as.map V.ref)[j]? = some (.ref a) := by rw [List.getElem?_map, ea]; rfl
      have g2 : (bs.map V.ref)[j]? = some (.ref b) := by rw [List.getElem?_map, eb]; rfl
      obtain ⟨u1, e1, q1⟩ := r1.get g1
      obtain ⟨u2, e2, q2⟩ := r2.get g2
      cases q1; cases q2
      have f1 : its.toArray[j] = Value.ref a := by
        rw [List.getElem?_eq_getElem h1'] at e1; simpa using e1
      have f2 : its2.toArray[j] = Value.ref b := by
        rw [List.getElem?_eq_getElem h2'] at e2; simpa using e2
      rw [f1, f2]
      by_cases hab : a = b
      · subst hab
        have hm : (ns.getD j []).map V.int = (ms.getD j []).map V.int := I.list_inj sa sb
        have hm' : ns.getD j [] = ms.getD j [] := (List.map_inj_right (fun x y h => by injection h)).mp hm
        rw [decide_eq_true hm']
        exact SeqAt.EqAt.same _
      · exact SeqAt.EqAt.of_refs hab (eqAt_ints I sa sb hu1)
    · rw [List.size_toArray, ← l1, ln, range_all_rows ns ms hl]
      exact ⟨.bl _, H, I, rfl, qq⟩
  · refine SeqAt.eq_list_lengthsAt p1.isList p2.isList (by simp only [List.size_toArray, bne_iff_ne]; omega) (by omega) ?_
    rw [decide_eq_false (fun e => hl (by rw [e]))] at qq
    exact ⟨.bl _, H, I, rfl, qq⟩

/-! ### for i, x in enumerate(xs) -/
def Ite (K : PySem.W.Frag) (a : Addr) : It :=
  ⟨fun i H => ∃ xs x, SqL K H a xs ∧ xs[i]? = some x, fun i H x H' => ∃ p v, H p = none ∧ x = .ref p ∧ H' = upd H p (.tup [.int i, v]) ∧ ∀ xs, SqL K H a xs → xs[i]? = some v, fun i H => ∃ xs, SqL K H a xs ∧ xs.length ≤ i⟩
theorem turn_enum {P : Program} {w : World} {K : PySem.W.Frag} {es : List Expr} {k : Nat} {pos : Pos} (a e it : Addr) (hne : e ≠ it) : Turn P w K (.Tuple es k pos) (Ite K a) [e, it] e (fun i h => ∃ old, IsEnum h e it i old ∧ h.IsListIter it a i) where
  mem := by simp
  obj := fun i h st b hb => by
    obtain ⟨old, s1, o, s2, c, d⟩ := st
    rcases List.mem_cons.mp hb with rfl | hb
    · exact ⟨_, s1, fun v z => by cases (show Data.fields _ = Data.cell v from z)⟩
    · have e : b = it := by simpa using hb
      subst e
      exact ⟨o, s2, fun v z => by rw [d] at z; cases z⟩
  keep := fun i h h' st kk => by
    obtain ⟨old, s1, s2⟩ := st
    exact ⟨old, kk e (by simp) _ s1, s2.at fun o q => kk it (by simp) o q⟩
  item := by
    intro X hP hw hK hc i pins s σ H E I hf st hg
    subst hP hw hK
    obtain ⟨xs, x, hq, hx⟩ := hg
    obtain ⟨old, s1, s2⟩ := st
    obtain ⟨its, rv, p, hz⟩ := I.list hq
    obtain ⟨u, hu, ru⟩ := rv.get hx
    obtain ⟨f0, f1, f2, f3, f4, f5⟩ := hf e (by simp)
    obtain ⟨g0, g1, g2, g3, g4, g5⟩ := hf it (by simp)
    have elt : e < s.heap.objs.size := Heap.lt_size s1
    refine wpAny_pyNext_enum_item s1 s2 p.isList (x := u) (by simpa using hu) hne fun h1 o1 i1 t1 z1 k1 => ?_
    refine ⟨_, rfl, wpAny_letOwnedTupleGo_enum o1 fun h2 e2 sb => ?_⟩
    replace sb : Heap.SameBut e h1 h2 := sb
    have k2 : ∀ b o, b ≠ e → b ≠ it → s.heap.get? b = some o → h2.get? b = some o := fun b o hb hb2 q => (sb.2 b hb).trans (k1 b o hb hb2 q)
    have nb : ∀ b o, H b = some o → b ≠ e ∧ b ≠ it := fun b o q => And.intro (fun z => by rw [z, f0] at q; cases q) (fun z => by rw [z, g0] at q; cases q)
    have ht : h2.get? s.heap.objs.size = some { cls := .type "tuple", data := .seq #[.int i s.toks, u] } := (sb.2 _ (Nat.ne_of_gt elt)).trans t1
    have hfr : H s.heap.objs.size = none := I.fresh
    have itlt : it < s.heap.objs.size := by obtain ⟨o, q, _⟩ := s2; exact Heap.lt_size q
    have hokH : HOk X.prog X.w (upd H s.heap.objs.size (.tup [.int i, x])) h2 := fun b ob q => by
      by_cases hb : b = s.heap.objs.size
      · subst hb
        rw [upd_same] at q
        cases q
        exact ⟨by show 2 ≤ sizeLine; decide, [.int i s.toks, u], .cons ⟨_, rfl⟩ (.cons ru .nil), ⟨_, ht, rfl, 0, rfl⟩⟩
      · rw [upd_ne hb] at q
        refine (I.hok b ob q).stay (fun c v hcc qq => ?_) (fun c q => by rw [upd_ne (ne_of_none q hfr)]; exact q) fun c ys q => by rw [upd_ne (ne_of_none q hfr)]; exact q
        have hn : c ≠ e ∧ c ≠ it := by
          rcases hcc with z | z
          · rw [z]; exact nb b ob q
          · exact nb c _ z
        exact k2 c v hn.1 hn.2 qq
    have I2 : Inv X pins σ (upd H s.heap.objs.size (.tup [.int i, x])) { s with heap := h2, toks := s.toks + 1 } := by
      refine I.step (g' := s.gens) (d' := s.drawn) (ch := [e, it]) (fun b hb => ?_) (fun b o _ _ hc q _ => k2 b o (fun z => hc (by simp [z])) (fun z => hc (by simp [z])) q) (fun b o _ _ hc q _ => ⟨o.slots, k2 b o (fun z => hc (by simp [z])) (fun z => hc (by simp [z])) q⟩)
        (fun b o _ q n => by rw [upd_ne (Nat.ne_of_lt (Heap.lt_size q))]; exact n)
        (fun b o hc q => ?_) (fun b ys q => by rw [upd_ne (ne_of_none q hfr)]; exact q) (fun b o u q => by rw [upd_ne (ne_of_none q hfr)]; exact q) (fun b ps q => ⟨#[], by rw [upd_ne (ne_of_none q hfr), q]; simp⟩) (fun m hm => ?_) hokH I.bare
      · rcases List.mem_cons.mp hb with rfl | hb
        · exact ⟨f3, f1, f4, f5⟩
        · have q : b = it := by simpa using hb
          subst q
          exact ⟨g3, g1, g4, g5⟩
      · exact ⟨o, k2 b o (fun z => hc (by simp [z])) (fun z => hc (by simp [z])) q⟩
      · obtain ⟨o, es', ep, ho, r⟩ := hm
        exact ⟨o, es', ep, k2 _ o f1.symm g1.symm ho, r⟩
    refine ⟨.ref s.heap.objs.size, _, I2, rfl, ⟨_, x, hfr, rfl, rfl, fun ys hy => by rw [I.list_inj hy hq]; exact hx⟩, ⟨u, ?_, i1.extBut sb.extBut hne.symm⟩, fun b hb => ?_⟩
    · have e3 : IsEnum h2 e it ((i : Int) + 1) u := e2
      show IsEnum h2 e it ((i + 1 : Nat) : Int) u
      rw [Int.natCast_add]
      exact e3
    · rcases List.mem_cons.mp hb with rfl | hb
      · rw [upd_ne (Nat.ne_of_lt elt)]; exact f0
      · have q : b = it := by simpa using hb
        subst q
        rw [upd_ne (Nat.ne_of_lt itlt)]; exact g0
  done := by
    intro X hP hw hK hc i pins s σ H E I hf st hg
    subst hP hw hK
    obtain ⟨xs, hq, hx⟩ := hg
    obtain ⟨old, s1, s2⟩ := st
    obtain ⟨its, rv, p, hz⟩ := I.list hq
    obtain ⟨g0, g1, g2, g3, g4, g5⟩ := hf it (by simp)
    have hl := rv.length
    exact wpAny_pyNext_enum_end (I.ok.hd hc) s1 s2 p.isList (by simp; omega) fun h' eb => ⟨rfl, I.turned (t' := s.toks) (fun b o hb q => eb b o hb q) g0 g1 g3 g4 g5⟩
  self := fun _ _ _ _ _ st h => by
    obtain ⟨old, s1, _⟩ := st
    exact wpAny_pyIter_enum s1 h
def iEnum (K : PySem.W.Frag) (ta : TA) : TI := fun σ H R => ta σ H fun vs H1 => ∃ a, vs = [.ref a] ∧ (∃ xs, SqL K H1 a xs) ∧ R (Ite K a) H1
theorem pi_enum {es : List Expr} {k : Nat} {l : Expr} {ta : TA} {p pos pos' : Pos} (hg : Gl X "enumerate") (hm : X.mg "enumerate" = none) (ha : PA X [l] ta) (hs : starEach [l] X.env = [(false, eval l X.env)] := by rfl) :
    PI X (.Tuple es k pos') (.Call (.Name "enumerate" p) [l] [] pos) (iEnum X.K ta) := by
  intro pins s σ H R I h
  refine Call_ (ld_blt (u := .type "enumerate") I hg hm (by decide +kernel) (PyProof.Rows.callWith_type1 (thn (ha pos pins s σ H _ I h) fun us s1 ⟨vs, H1, I1, r1, q1⟩ => ?_) hs rfl))
  obtain ⟨a, e, ⟨xs, hq⟩, q⟩ := q1
  subst e
  obtain ⟨u, rfl, rx⟩ := vals1 r1
  cases rx
  obtain ⟨its, rv, pl, hz⟩ := I1.list hq
  refine call_enumerate_list pl.isList fun h' he hi hz' kp => wpAny_pyIter_enum he ?_
  refine ⟨s1.heap.objs.size + 1, [s1.heap.objs.size + 1, s1.heap.objs.size], _, _, H1, rfl, I1.kept (t' := s1.toks) kp, turn_enum a _ _ (Nat.succ_ne_self _), ⟨_, he, hi⟩, fun b hb => ?_, q⟩
  rcases List.mem_cons.mp hb with rfl | hb
  · exact I1.fpOk (Nat.le_succ _) (I1.hok.fresh (Nat.le_succ _))
  · have e : b = s1.heap.objs.size := by simpa using hb
    subst e
    exact I1.fpOk (Nat.le_refl _) (I1.hok.fresh (Nat.le_refl _))
/-- over enumerate(a list that the body leaves as it is): each turn a new tuple -/
theorem for_enum {K : PySem.W.Frag} {a : Addr} {xs : List V} {g : TG} {tb : TS} {D : Ends} {σ : St} {H : Hp} (Pv : Nat → St → Hp → Prop) (h0 : Pv 0 σ H) (hl : ∀ i σ H, i ≤ xs.length → Pv i σ H → SqL K H a xs)
    (hs : ∀ i x p σ H, xs[i]? = some x → Pv i σ H → H p = none → g (.ref p) σ (upd H p (.tup [.int i, x])) fun σ2 H2 => tb { D with nx := Pv (i + 1), ct := Pv (i + 1), bk := D.nx } σ2 H2) (hd : ∀ σ H, Pv xs.length σ H → D.nx σ H) :
    ∃ W : Nat → Nat → St → Hp → Prop, (∃ m, W 0 m σ H) ∧ ∀ i m σ H, W i m σ H →
      ((Ite K a).stop i H ∧ D.nx σ H) ∨ ((Ite K a).go i H ∧ ∃ N : St → Hp → Prop, (∀ σ' H', N σ' H' → ∃ m', m' < m ∧ W (i + 1) m' σ' H') ∧ ∀ x H', (Ite K a).yld i H x H' → g x σ H' fun σ2 H2 => tb { D with nx := N, ct := N, bk := D.nx } σ2 H2) := by
  refine ⟨fun i m σ H => m = xs.length - i ∧ i ≤ xs.length ∧ Pv i σ H, ⟨xs.length, by simp, Nat.zero_le _, h0⟩, ?_⟩
  rintro i m σ H ⟨rfl, hi, p⟩
  have q := hl i σ H hi p
  by_cases hlt : i < xs.length
  · refine .inr ⟨⟨xs, xs[i], q, by simp [hlt]⟩, Pv (i + 1), fun σ' H' p' => ⟨xs.length - (i + 1), by omega, rfl, hlt, p'⟩, fun x H' y => ?_⟩
    obtain ⟨pt, v, hn, e1, e2, y⟩ := y
    subst e1 e2
    exact hs i v pt σ _ (y xs q) p hn
  · have e : i = xs.length := by omega
    subst e
    exact .inl ⟨⟨xs, q, Nat.le_refl _⟩, hd σ H p⟩
end
end L2

namespace L2
open PySem PySem.Spec PyProof.Rows

/-! ### a def as its callers see it -/
def Has (P : Program) (w : World) (K : PySem.W.Frag) (mg : Str → Option Value) (base : Heap) (k : Nat) (x : Str) (ps : List Str) (sp : Sp) : Prop :=
  ∃ f fd, FnOk P w K mg base CX0 k f fd ps sp ∧ Binds K fd ps [] ∧ PySem.W.keepIn K (.ref f) = true ∧ mg x = some (.ref f)
section
variable {X : Cx} {k : Nat} {x : Str} {ps : List Str} {sp : Sp} {p pos : Pos} {e : Expr} {es : List Expr} {t : TA}
theorem pe_callH (C : Has X.prog X.w X.K X.mg X.base k x ps sp) (hr : Room k X.A) (hg : Gl X x) (ha : PA X (e :: es) t)
    (hdb : (x == ("__debug__" : Str)) = false := by decide) (he : starEach (e :: es) X.env = (false, eval e X.env) :: starEach es X.env := by rfl) (hpl : (backTo pos (starEach es X.env)).any (·.1) = false := by rfl) :
    PE X (.Call (.Name x p) (e :: es) [] pos) (tCall sp [] E0 t) := by
  obtain ⟨f, fd, F, b, kp, m⟩ := C
  exact pe_call F hr hg m kp b .nil pass0 ha hdb he hpl
end
theorem Has.imp {P : Program} {w : World} {K : PySem.W.Frag} {mg : Str → Option Value} {base : Heap} {k : Nat} {x : Str} {ps : List Str} {sp sp' : Sp} (C : Has P w K mg base k x ps sp) (h : ∀ vs H Q E, sp' vs H Q E → sp vs H Q E) : Has P w K mg base k x ps sp' := by
  obtain ⟨f, fd, F, r⟩ := C
  exact ⟨f, fd, F.imp h, r⟩

/-! ### a comprehension's scope, by a check -/
def csOk (names : List (Str × NameKind)) (kindOf : Str → Option NameKind) (N N' : List Str) (caps : List (Option Nat)) : Bool :=
  decide ((names.map (·.1)).Nodup) && names.all (fun x => !(x.2 == NameKind.free) || (kindOf x.1 == some .cell || kindOf x.1 == some .free)) && (caps.length == N'.length) &&
    (List.range caps.length).all fun j => match caps[j]?, N'[j]? with
      | some (some i), some x => N[i]? == some x && names.any (fun y => y.1 == x && y.2 == NameKind.free)
      | _, _ => true
theorem cscope {X : Cx} {scope : Scope} {N' : List Str} {caps : List (Option Nat)} (hk : scope.kind = .function := by rfl) (h : csOk scope.names X.env.kindOf X.N N' caps = true := by kernel_rfl) : CScope X scope N' caps := by
  unfold csOk at h
  simp only [Bool.and_eq_true, decide_eq_true_eq, List.all_eq_true, beq_iff_eq] at h
  obtain ⟨⟨⟨h1, h2⟩, h3⟩, h4⟩ := h
  refine ⟨hk, h1, fun x hx hf => ?_, h3, fun j i x hc hn => ?_⟩
  · have q := h2 x hx
    rw [hf] at q
    simpa using q
  · have hj : j < caps.length := (List.getElem?_eq_some_iff.mp hc).1
    have q := h4 j (List.mem_range.mpr hj)
    rw [hc, hn] at q
    simp only [Bool.and_eq_true, beq_iff_eq, List.any_eq_true] at q
    obtain ⟨q1, y, hy, q2, q3⟩ := q
    refine ⟨q1, ?_⟩
    obtain ⟨y1, y2⟩ := y
    have e1 : y1 = x := q2
    have e2 : y2 = NameKind.free := q3
    rw [← e1, ← e2]
    exact hy

/-! ### a statement's end, named: what follows is read once -/
def tJoin (t : TS) : TS := fun D σ H => ∃ Mid : St → Hp → Prop, t { D with nx := Mid } σ H ∧ ∀ σ' H', Mid σ' H' → D.nx σ' H'
theorem ps_join {X : Cx} {st : Stmt} {t : TS} (h : PS X st t) : PS X st (tJoin t) := by
  intro pins s σ H D I hw
  obtain ⟨Mid, h1, h2⟩ := hw
  refine thn (h pins s σ H _ I h1) fun f s' q => ?_
  cases f with
  | next =>
    obtain ⟨σ', H', J, m⟩ := q
    exact ⟨σ', H', J, h2 σ' H' m⟩
  | brk => exact q
  | cont => exact q
  | ret u => exact q

/-! ### the rules with the written part named (within comprehensions) -/
section
variable {X : Cx} {K : PySem.W.Frag}
theorem call_len_seqK (hK : X.K = K) : CallR X (.builtin "len") (fun xs H Q => ∃ p ys, xs = [.ref p] ∧ (SqL K H p ys ∨ SqT K H p ys) ∧ Q (.int ys.length) H) := by subst hK; exact call_len_seq
theorem call_list_ofK (hK : X.K = K) : CallR X (.type "list") (fun xs H Q => ∃ p ys, xs = [.ref p] ∧ (SqL K H p ys ∨ SqT K H p ys) ∧ ∀ l, H l = none → Q (.ref l) (upd H l (.lst ys))) := by subst hK; exact call_list_of
theorem call_sortedK (hK : X.K = K) : CallR X (.builtin "sorted") (rSorted K) := by subst hK; exact call_sorted
theorem call_isinstK (hK : X.K = K) : CallR X (.builtin "isinstance") (fun xs H Q => ∃ x t T b, xs = [x, .ty T] ∧ TyOf K H x t ∧ PySem.W.kitOne K t (.type T) = some b ∧ Q (.bl b) H) := by subst hK; exact call_isinst
theorem ix_listK (hK : X.K = K) : IxR X (rIxL K) := by subst hK; exact ix_list
theorem ix_tupK (hK : X.K = K) : IxR X (rIxT K) := by subst hK; exact ix_tup
theorem op_in_seqK (hK : X.K = K) : OpR X (compareOp .In) (rIn K false) := by subst hK; exact op_in_seq
theorem op_notIn_seqK (hK : X.K = K) : OpR X (compareOp .NotIn) (rIn K true) := by subst hK; exact op_notIn_seq
theorem pi_listK {tg l : Expr} {tl : TE} (hK : X.K = K) (hl : PE X l tl) : PI X tg l (iList K tl) := by subst hK; exact pi_list hl
theorem pg_tupK {es : List Expr} {k : Nat} {t : TGs} {n : Nat} {pos : Pos} (hK : X.K = K) (hc : X.calm = true) (h : PGs X es t)
    (hn : (assignEach es X.env).length = n := by rfl) (hst : (assignEach es X.env).findIdx? (·.1) = none := by rfl) : PG X (.Tuple es k pos) (gTup K n t) := by subst hK; exact pg_tup hc h hn hst
theorem sl_listK (hK : X.K = K) : SlR X (rSlL K) := by subst hK; exact sl_list
theorem op_eq_intsK (hK : X.K = K) (hu : X.A.units < cLine) : OpR X (compareOp .Eq) (rEqInts K) := by subst hK; exact op_eq_ints hu
theorem op_eq_rowsK (hK : X.K = K) (hu : X.A.units + 1 < cLine) : OpR X (compareOp .Eq) (rEqRows K) := by subst hK; exact op_eq_rows hu
end


/-- the builtins' names are nobody's -/
structure Blt (mg : Str → Option Value) : Prop where
  len : mg "len" = none
  range : mg "range" = none
  sorted : mg "sorted" = none
  list : mg "list" = none
  isinstance : mg "isinstance" = none
  bool : mg "bool" = none
  int : mg "int" = none
  enumerate : mg "enumerate" = none
  all : mg "all" = none
  sum : mg "sum" = none
  set : mg "set" = none
  max : mg "max" = none
  zip : mg "zip" = none
  str : mg "str" = none
  any : mg "any" = none
  ValueError : mg "ValueError" = none
end L2

namespace KH

/-! ### halls, in plain data -/
def rowAt (rows : List (List Int)) (i : Nat) : List Int := rows.getD i []
def BeatenOk (row : List Int) (p m : Int) : Prop := row.Pairwise (· < ·) ∧ ∀ x ∈ row, 0 ≤ x ∧ x < m ∧ x ≠ p
def OneEach (rows : List (List Int)) : Prop := ∀ i j : Nat, j < i → i < rows.length → (((j : Int) ∈ rowAt rows i) ↔ ¬ ((i : Int) ∈ rowAt rows j))
structure IsHall (rows : List (List Int)) : Prop where
  lo : 1 ≤ rows.length
  hi : rows.length ≤ 12
  beat : ∀ i, i < rows.length → BeatenOk (rowAt rows i) i rows.length
  one : OneEach rows
noncomputable def dec (p : Prop) : Bool := @decide p (Classical.propDecidable p)
theorem dec_true {p : Prop} (h : p) : dec p = true := @decide_eq_true p (Classical.propDecidable p) h
theorem dec_false {p : Prop} (h : ¬ p) : dec p = false := @decide_eq_false p (Classical.propDecidable p) h
theorem dec_iff {p q : Prop} (h : p ↔ q) : dec p = dec q := by rw [propext h]
theorem dec_decide {p : Prop} [d : Decidable p] : dec p = decide p := by
  by_cases h : p
  · rw [dec_true h, decide_eq_true h]
  · rw [dec_false h, decide_eq_false h]

/-! ### a row, number by number -/
def lastD (l : List Int) : Int := l.getLast?.getD (-1)
theorem lastD_snoc (l : List Int) (x : Int) : lastD (l ++ [x]) = x := by simp [lastD]
theorem lastD_mem (l : List Int) : (l = [] ∧ lastD l = -1) ∨ lastD l ∈ l := by
  cases h : l.getLast? with
  | none => left; have : l = [] := by simpa using h
            subst this; exact ⟨rfl, rfl⟩
  | some y => right; unfold lastD; rw [h]; exact List.mem_of_getLast? h
theorem le_lastD : ∀ {l : List Int}, l.Pairwise (· < ·) → ∀ x ∈ l, x ≤ lastD l := by
  intro l h x hx
  obtain ⟨l', y, rfl⟩ : ∃ l' y, l = l' ++ [y] := by
    have hne : l ≠ [] := by rintro rfl; cases hx
    exact ⟨l.dropLast, l.getLast hne, (List.dropLast_concat_getLast hne).symm⟩
  rw [lastD_snoc]
  rw [List.pairwise_append] at h
  rcases List.mem_append.mp hx with q | q
  · exact Int.le_of_lt (h.2.2 x q y (by simp))
  · have : x = y := by simpa using q
    omega
theorem beaten_nil (p m : Int) : BeatenOk [] p m := ⟨List.Pairwise.nil, fun _ h => by cases h⟩
theorem beaten_snoc {l : List Int} {x p m : Int} : BeatenOk (l ++ [x]) p m ↔ BeatenOk l p m ∧ lastD l < x ∧ x < m ∧ x ≠ p := by
  constructor
  · rintro ⟨h1, h2⟩
    rw [List.pairwise_append] at h1
    have hx := h2 x (by simp)
    refine ⟨⟨h1.1, fun y hy => h2 y (List.mem_append_left _ hy)⟩, ?_, hx.2.1, hx.2.2⟩
    rcases lastD_mem l with ⟨_, e⟩ | q
    · omega
    · exact h1.2.2 _ q x (by simp)
  · rintro ⟨⟨h1, h2⟩, h3, h4, h5⟩
    refine ⟨List.pairwise_append.mpr ⟨h1, List.pairwise_singleton _ _, fun y hy z hz => ?_⟩, fun y hy => ?_⟩
    · have e : z = x := by simpa using hz
      have := le_lastD h1 y hy
      omega
    · rcases List.mem_append.mp hy with q | q
      · exact h2 y q
      · have e : y = x := by simpa using q
        subst e
        refine ⟨?_, h4, h5⟩
        rcases lastD_mem l with ⟨_, e⟩ | q
        · omega
        · have := (h2 _ q).1
          omega
theorem beaten_take {l : List Int} {p m : Int} (h : BeatenOk l p m) (i : Nat) : BeatenOk (l.take i) p m :=
  ⟨h.1.sublist (List.take_sublist _ _), fun x hx => h.2 x (List.mem_of_mem_take hx)⟩
theorem take_snoc {α : Type} {l : List α} {i : Nat} {x : α} (h : l[i]? = some x) : l.take (i + 1) = l.take i ++ [x] := by
  rw [List.take_succ, h]; rfl

/-! ### a hall that is drawn: orders -/
def nums (n : Nat) : List Int := (List.range n).map fun (i : Nat) => (i : Int)
theorem nums_succ (n : Nat) : nums (n + 1) = nums n ++ [(n : Int)] := by simp [nums, List.range_succ]
theorem nums_length (n : Nat) : (nums n).length = n := by simp [nums]
theorem mem_nums {n : Nat} {x : Int} : x ∈ nums n ↔ 0 ≤ x ∧ x < n := by
  simp only [nums, List.mem_map, List.mem_range]
  constructor
  · rintro ⟨i, hi, rfl⟩; omega
  · rintro ⟨h0, h1⟩; exact ⟨x.toNat, by omega, by omega⟩
theorem nums_nodup (n : Nat) : (nums n).Nodup := by
  unfold nums
  rw [List.nodup_iff_pairwise_ne, List.pairwise_map]
  exact (List.nodup_iff_pairwise_ne.mp List.nodup_range).imp fun h e => h (by omega)
theorem perm_insert {l m : List Int} {x : Int} (h : l.Perm m) (k : Nat) : (l.take k ++ x :: l.drop k).Perm (m ++ [x]) := by
  have a : (l.take k ++ x :: l.drop k).Perm (x :: (l.take k ++ l.drop k)) := List.perm_middle
  rw [List.take_append_drop] at a
  exact a.trans ((h.cons x).trans (List.perm_append_singleton x m).symm)
structure OrdOk (n : Nat) (ord : List Int) : Prop where
  len : ord.length = n
  rng : ∀ a, a < n → 0 ≤ ord.getD a 0 ∧ ord.getD a 0 < n
  inj : ∀ a b, a < n → b < n → ord.getD a 0 = ord.getD b 0 → a = b
  sur : ∀ u : Int, 0 ≤ u → u < n → ∃ a, a < n ∧ ord.getD a 0 = u
theorem getD_of_lt {α : Type} {l : List α} {a : Nat} {d : α} (h : a < l.length) : l.getD a d = l[a] := by
  rw [List.getD_eq_getElem?_getD, List.getElem?_eq_getElem h]; rfl
theorem ord_of_perm {n : Nat} {ord : List Int} (h : ord.Perm (nums n)) : OrdOk n ord := by
  have hl : ord.length = n := h.length_eq.trans (nums_length n)
  have nd : ord.Nodup := h.nodup_iff.mpr (nums_nodup n)
  refine ⟨hl, fun a ha => ?_, fun a b ha hb e => ?_, fun u h0 h1 => ?_⟩
  · rw [getD_of_lt (by omega)]
    exact mem_nums.mp (h.mem_iff.mp (List.getElem_mem _))
  · rw [getD_of_lt (by omega), getD_of_lt (by omega)] at e
    exact (List.getElem_inj nd).mp e
  · have hm : u ∈ ord := h.mem_iff.mpr (mem_nums.mpr ⟨h0, h1⟩)
    obtain ⟨a, ha, e⟩ := List.mem_iff_getElem.mp hm
    exact ⟨a, by omega, by rw [getD_of_lt ha]; exact e⟩

/-! ### a hall that is drawn: win by win -/
def R (rows : List (List Int)) (u : Int) : List Int := rows.getD u.toNat []
def push (rows : List (List Int)) (u v : Int) : List (List Int) := rows.set u.toNat (R rows u ++ [v])
theorem push_length (rows : List (List Int)) (u v : Int) : (push rows u v).length = rows.length := by simp [push]
theorem R_push {rows : List (List Int)} {u v w : Int} (hu : 0 ≤ u) (h : u.toNat < rows.length) (hw : 0 ≤ w) : R (push rows u v) w = if w = u then R rows u ++ [v] else R rows w := by
  unfold R push
  by_cases e : w = u
  · subst e
    rw [if_pos rfl, List.getD_eq_getElem?_getD, List.getElem?_set_self h]; rfl
  · rw [if_neg e, List.getD_eq_getElem?_getD, List.getElem?_set_ne (by omega), ← List.getD_eq_getElem?_getD]
/-- ahead of the win of the players at places i and j of the order -/
structure Drawn (n : Nat) (ord : List Int) (rows : List (List Int)) (i j : Nat) : Prop where
  len : rows.length = n
  nd : ∀ u : Int, 0 ≤ u → u < n → (R rows u).Nodup
  rng : ∀ u : Int, 0 ≤ u → u < n → ∀ x ∈ R rows u, 0 ≤ x ∧ x < n ∧ x ≠ u
  done : ∀ a b, a < b → b < n → (a < i ∨ (a = i ∧ b < j)) → (ord.getD b 0 ∈ R rows (ord.getD a 0) ↔ ¬ ord.getD a 0 ∈ R rows (ord.getD b 0))
  todo : ∀ a b, a < b → b < n → ¬ (a < i ∨ (a = i ∧ b < j)) → ord.getD b 0 ∉ R rows (ord.getD a 0) ∧ ord.getD a 0 ∉ R rows (ord.getD b 0)
theorem drawn_start {n : Nat} {ord : List Int} (O : OrdOk n ord) : Drawn n ord (List.replicate n []) 0 0 := by
  have e : ∀ u : Int, R (List.replicate n []) u = [] := fun u => by
    unfold R
    rw [List.getD_eq_getElem?_getD, List.getElem?_replicate]
    split <;> rfl
  refine ⟨by simp, fun u _ _ => ?_, fun u _ _ x hx => ?_, fun a b h1 h2 h3 => ?_, fun a b _ _ _ => ?_⟩
  · rw [e]; exact List.nodup_nil
  · rw [e] at hx; cases hx
  · omega
  · rw [e, e]; exact ⟨List.not_mem_nil, List.not_mem_nil⟩
theorem Drawn.next {n : Nat} {ord : List Int} {rows : List (List Int)} {i : Nat} (D : Drawn n ord rows i n) : Drawn n ord rows (i + 1) 0 :=
  ⟨D.len, D.nd, D.rng, fun a b h1 h2 h3 => D.done a b h1 h2 (by omega), fun a b h1 h2 h3 => D.todo a b h1 h2 (by omega)⟩
theorem Drawn.skip {n : Nat} {ord : List Int} {rows : List (List Int)} {i : Nat} (D : Drawn n ord rows i 0) : Drawn n ord rows i (i + 1) :=
  ⟨D.len, D.nd, D.rng, fun a b h1 h2 h3 => D.done a b h1 h2 (by omega), fun a b h1 h2 h3 => D.todo a b h1 h2 (by omega)⟩
/-- one win: u won against v, where {u, v} are the players at the places i and j -/
theorem Drawn.win {n : Nat} {ord : List Int} {rows : List (List Int)} {i j : Nat} (O : OrdOk n ord) (D : Drawn n ord rows i j) (hij : i < j) (hj : j < n) {u v : Int}
    (h : (u = ord.getD i 0 ∧ v = ord.getD j 0) ∨ (u = ord.getD j 0 ∧ v = ord.getD i 0)) : Drawn n ord (push rows u v) i (j + 1) := by
  have hi : i < n := by omega
  have oi := O.rng i hi
  have oj := O.rng j hj
  have hu : 0 ≤ u ∧ u < n := by rcases h with ⟨a, _⟩ | ⟨a, _⟩ <;> rw [a] <;> assumption
  have hv : 0 ≤ v ∧ v < n := by rcases h with ⟨_, a⟩ | ⟨_, a⟩ <;> rw [a] <;> assumption
  have ne : ord.getD i 0 ≠ ord.getD j 0 := fun e => by have := O.inj i j hi hj e; omega
  have huv : v ≠ u := by rcases h with ⟨a, b⟩ | ⟨a, b⟩ <;> rw [a, b]; exact ne.symm; exact ne
  have hlt : u.toNat < rows.length := by rw [D.len]; omega
  have RP : ∀ w : Int, 0 ≤ w → R (push rows u v) w = if w = u then R rows u ++ [v] else R rows w := fun w hw => R_push hu.1 hlt hw
  have fresh : v ∉ R rows u := by
    have q := D.todo i j hij hj (by omega)
    rcases h with ⟨a, b⟩ | ⟨a, b⟩ <;> rw [a, b]
    · exact q.1
    · exact q.2
  have mem : ∀ w x : Int, 0 ≤ w → (x ∈ R (push rows u v) w ↔ x ∈ R rows w ∨ (w = u ∧ x = v)) := fun w x hw => by
    rw [RP w hw]
    split
    · rename_i e; subst e; simp
    · rename_i e; simp [e]
  refine ⟨by rw [push_length]; exact D.len, fun w h0 h1 => ?_, fun w h0 h1 x hx => ?_, fun a b h1 h2 h3 => ?_, fun a b h1 h2 h3 => ?_⟩
  · rw [RP w h0]
    split
    · rw [List.nodup_append]
      refine ⟨D.nd u hu.1 hu.2, by simp, fun x hx y hy e => ?_⟩
      have : y = v := by simpa using hy
      subst this; subst e; exact fresh hx
    · exact D.nd w h0 h1
  · rcases (mem w x h0).mp hx with q | ⟨q1, q2⟩
    · exact D.rng w h0 h1 x q
    · subst q1 q2; exact ⟨hv.1, hv.2, huv⟩
  · have ha : a < n := by omega
    have oa := O.rng a ha
    have ob := O.rng b h2
    rw [mem _ _ oa.1, mem _ _ ob.1]
    by_cases hab : a = i ∧ b = j
    · obtain ⟨rfl, rfl⟩ := hab
      have q := D.todo a b h1 h2 (by omega)
      rcases h with ⟨e1, e2⟩ | ⟨e1, e2⟩
      · rw [e1, e2]
        constructor
        · intro _ z
          rcases z with z | ⟨z, _⟩
          · exact q.2 z
          · exact ne z.symm
        · intro _; exact .inr ⟨rfl, rfl⟩
      · rw [e1, e2]
        constructor
        · intro z
          rcases z with z | ⟨z, _⟩
          · exact absurd z q.1
          · exact absurd z ne
        · intro z; exact absurd (.inr ⟨rfl, rfl⟩) z
    · have q := D.done a b h1 h2 (by omega)
      have n1 : ¬ (ord.getD a 0 = u ∧ ord.getD b 0 = v) := fun ⟨z1, z2⟩ => by
        rcases h with ⟨e1, e2⟩ | ⟨e1, e2⟩
        · exact hab ⟨O.inj a i ha hi (z1.trans e1), O.inj b j h2 hj (z2.trans e2)⟩
        · have := O.inj a j ha hj (z1.trans e1); have := O.inj b i h2 hi (z2.trans e2); omega
      have n2 : ¬ (ord.getD b 0 = u ∧ ord.getD a 0 = v) := fun ⟨z1, z2⟩ => by
        rcases h with ⟨e1, e2⟩ | ⟨e1, e2⟩
        · have := O.inj b i h2 hi (z1.trans e1); have := O.inj a j ha hj (z2.trans e2); omega
        · exact hab ⟨O.inj a i ha hi (z2.trans e2), O.inj b j h2 hj (z1.trans e1)⟩
      simp only [n1, n2, or_false]
      exact q
  · have ha : a < n := by omega
    have oa := O.rng a ha
    have ob := O.rng b h2
    rw [mem _ _ oa.1, mem _ _ ob.1]
    have hab : ¬ (a = i ∧ b = j) := fun ⟨e1, e2⟩ => h3 (by omega)
    have q := D.todo a b h1 h2 (by omega)
    have n1 : ¬ (ord.getD a 0 = u ∧ ord.getD b 0 = v) := fun ⟨z1, z2⟩ => by
      rcases h with ⟨e1, e2⟩ | ⟨e1, e2⟩
      · exact hab ⟨O.inj a i ha hi (z1.trans e1), O.inj b j h2 hj (z2.trans e2)⟩
      · have := O.inj a j ha hj (z1.trans e1); have := O.inj b i h2 hi (z2.trans e2); omega
    have n2 : ¬ (ord.getD b 0 = u ∧ ord.getD a 0 = v) := fun ⟨z1, z2⟩ => by
      rcases h with ⟨e1, e2⟩ | ⟨e1, e2⟩
      · have := O.inj b i h2 hi (z1.trans e1); have := O.inj a j ha hj (z2.trans e2); omega
      · exact hab ⟨O.inj a i ha hi (z2.trans e2), O.inj b j h2 hj (z1.trans e1)⟩
    simp only [n1, n2, or_false]
    exact q
/-- the rows, each sorted, are a hall -/
theorem Drawn.hall {n : Nat} {ord : List Int} {rows rows' : List (List Int)} (O : OrdOk n ord) (D : Drawn n ord rows n 0) (h1 : 1 ≤ n) (h12 : n ≤ 12) (hl : rows'.length = n)
    (hs : ∀ i, i < n → (rowAt rows' i).Perm (rowAt rows i) ∧ (rowAt rows' i).Pairwise (· ≤ ·)) : IsHall rows' := by
  have eR : ∀ i : Nat, R rows (i : Int) = rowAt rows i := fun i => by unfold R rowAt; rw [Int.toNat_natCast]
  have mem : ∀ i : Nat, i < n → ∀ x, x ∈ rowAt rows' i ↔ x ∈ R rows i := fun i hi x => by rw [eR]; exact (hs i hi).1.mem_iff
  refine ⟨by omega, by omega, fun i hi => ?_, fun i j hji hi => ?_⟩
  · rw [hl] at hi
    obtain ⟨hp, hw⟩ := hs i hi
    have nd : (rowAt rows' i).Nodup := hp.nodup_iff.mpr (by rw [← eR]; exact D.nd i (by omega) (by omega))
    refine ⟨?_, fun x hx => ?_⟩
    · have := hw.and (List.nodup_iff_pairwise_ne.mp nd)
      exact this.imp fun ⟨a, b⟩ => by omega
    · rw [hl]; exact D.rng i (by omega) (by omega) x ((mem i hi x).mp hx)
  · rw [hl] at hi
    rw [mem i hi, mem j (by omega)]
    obtain ⟨a, ha, ea⟩ := O.sur i (by omega) (by omega)
    obtain ⟨b, hb, eb⟩ := O.sur j (by omega) (by omega)
    have hab : a ≠ b := by rintro rfl; omega
    rcases Nat.lt_or_gt_of_ne hab with q | q
    · have := D.done a b q hb (by omega)
      rw [ea, eb] at this
      exact this
    · have := D.done b a q ha (by omega)
      rw [ea, eb] at this
      rw [this]
      exact ⟨fun h z => z h, fun h => Classical.byContradiction h⟩
/-- so many numbers below n, none twice -/
theorem few_of_nodup : ∀ (n : Nat) (l : List Int), l.Nodup → (∀ x ∈ l, 0 ≤ x ∧ x < n) → l.length ≤ n
  | 0, l, _, h => by
    cases l with
    | nil => exact Nat.le_refl _
    | cons x r => have := h x List.mem_cons_self; omega
  | n + 1, l, nd, h => by
    by_cases hm : (n : Int) ∈ l
    · have e := List.length_erase_of_mem hm
      have ih := few_of_nodup n (l.erase (n : Int)) (nd.erase _) fun x hx => by
        have := (nd.mem_erase_iff.mp hx)
        have := h x this.2
        omega
      omega
    · have ih := few_of_nodup n l nd fun x hx => by
        have q := h x hx
        have : x ≠ n := fun e => hm (e ▸ hx)
        omega
      omega
theorem Drawn.few {n : Nat} {ord : List Int} {rows : List (List Int)} {i j : Nat} (D : Drawn n ord rows i j) (k : Nat) (hk : k < n) : (rowAt rows k).length ≤ n := by
  have e : rowAt rows k = R rows (k : Int) := by unfold R rowAt; rw [Int.toNat_natCast]
  rw [e]
  exact few_of_nodup n _ (D.nd k (by omega) (by omega)) fun x hx => by
    have := D.rng k (by omega) (by omega) x hx
    omega
theorem IsHall.few {rows : List (List Int)} (h : IsHall rows) (k : Nat) (hk : k < rows.length) : (rowAt rows k).length ≤ rows.length :=
  few_of_nodup _ _ (List.nodup_iff_pairwise_ne.mpr ((h.beat k hk).1.imp fun a e => by omega)) fun x hx => by
    have := (h.beat k hk).2 x hx
    omega
end KH

namespace KH
open PySem L2

/-! ### pairs of lists -/
theorem paired_imp {α β : Type} {F G : α → β → Prop} : ∀ {as : List α} {bs : List β}, Paired F as bs → (∀ a b, a ∈ as → F a b → G a b) → Paired G as bs
  | _, _, .nil, _ => .nil
  | _, _, .cons r t, f => .cons (f _ _ List.mem_cons_self r) (paired_imp t fun a b h => f a b (List.mem_cons_of_mem _ h))
theorem paired_get {α β : Type} {F : α → β → Prop} : ∀ {as : List α} {bs : List β} {i : Nat} {b : β}, Paired F as bs → bs[i]? = some b → ∃ a, as[i]? = some a ∧ F a b
  | _, _, _, _, .nil, e => by simp at e
  | _, _, 0, _, .cons r _, e => by simp at e; subst e; exact ⟨_, rfl, r⟩
  | _, _, i + 1, x, .cons _ t, e => by
    obtain ⟨u, h1, h2⟩ := paired_get (i := i) (b := x) t (by simpa using e)
    exact ⟨u, by simpa using h1, h2⟩
theorem paired_getA {α β : Type} {F : α → β → Prop} : ∀ {as : List α} {bs : List β} {i : Nat} {a : α}, Paired F as bs → as[i]? = some a → ∃ b, bs[i]? = some b ∧ F a b
  | _, _, _, _, .nil, e => by simp at e
  | _, _, 0, _, .cons r _, e => by simp at e; subst e; exact ⟨_, rfl, r⟩
  | _, _, i + 1, x, .cons _ t, e => by
    obtain ⟨u, h1, h2⟩ := paired_getA (i := i) (a := x) t (by simpa using e)
    exact ⟨u, by simpa using h1, h2⟩
theorem paired_set {α β : Type} {F G : α → β → Prop} : ∀ {as : List α} {bs : List β} {i : Nat} {a : α} {b : β}, Paired F as bs → as.Nodup → as[i]? = some a → G a b → (∀ c d, c ≠ a → F c d → G c d) → Paired G as (bs.set i b)
  | _, _, _, _, _, .nil, _, e, _, _ => by simp at e
  | _, _, 0, _, _, .cons r t, nd, e, g, f => by
    simp at e; subst e
    rw [List.nodup_cons] at nd
    exact .cons g (paired_imp t fun c d hc q => f c d (fun z => nd.1 (z ▸ hc)) q)
  | _, _, i + 1, a, _, .cons r t, nd, e, g, f => by
    rw [List.nodup_cons] at nd
    have e' := (by simpa using e : _[i]? = some a)
    refine .cons (f _ _ (fun z => nd.1 (z ▸ List.mem_of_getElem? e')) r) (paired_set t nd.2 e' g f)

/-! ### halls in the heap -/
/-- a list of lists of ints of one's own stands at p, its rows at as -/
structure HallAt (H : Hp) (p : Addr) (as : List Addr) (rows : List (List Int)) : Prop where
  top : H p = some (.lst (as.map V.ref))
  row : Paired (fun a (r : List Int) => H a = some (.lst (r.map V.int))) as rows
  nd : as.Nodup
  ne : p ∉ as
theorem HallAt.len {H : Hp} {p : Addr} {as : List Addr} {rows : List (List Int)} (h : HallAt H p as rows) : as.length = rows.length := Paired.length h.row
theorem HallAt.sq {K : PySem.W.Frag} {H : Hp} {p : Addr} {as : List Addr} {rows : List (List Int)} (h : HallAt H p as rows) : SqL K H p (as.map V.ref) := SqL.of h.top
theorem HallAt.rows {K : PySem.W.Frag} {H : Hp} {p : Addr} {as : List Addr} {rows : List (List Int)} (h : HallAt H p as rows) : RowsAt K H as rows := paired_imp h.row fun _ _ _ q => SqL.of q
theorem HallAt.same {H H' : Hp} {p : Addr} {as : List Addr} {rows : List (List Int)} (h : HallAt H p as rows) (s : Same H H') : HallAt H' p as rows :=
  ⟨s _ _ h.top, paired_imp h.row fun _ _ _ q => s _ _ q, h.nd, h.ne⟩
theorem rows_same {K : PySem.W.Frag} {H H' : Hp} {as : List Addr} {rows : List (List Int)} (h : RowsAt K H as rows) (s : Same H H') : RowsAt K H' as rows := paired_imp h fun _ _ _ q => s.seq q
theorem same_new {H : Hp} {p : Addr} (h : H p = none) (o : HO) : Same H (upd H p o) := fun b u q => by rw [upd_ne (ne_of_none q h)]; exact q
/-- .. which is new since H0 -/
structure NewHall (H0 H : Hp) (p : Addr) (as : List Addr) (rows : List (List Int)) : Prop where
  at_ : HallAt H p as rows
  same : Same H0 H
  np : H0 p = none
  na : ∀ a ∈ as, H0 a = none
theorem NewHall.start {H : Hp} {p : Addr} (h : H p = none) : NewHall H (upd H p (.lst [])) p [] [] :=
  ⟨⟨upd_same, .nil, List.nodup_nil, List.not_mem_nil⟩, same_new h _, h, fun _ z => by cases z⟩
/-- all that was is as it was but for p -/
def SameBut (p : Addr) (H H' : Hp) : Prop := ∀ b o, b ≠ p → H b = some o → H' b = some o
/-- one more row, at a new place b; the heap may have grown besides -/
theorem NewHall.snoc {H0 H H' : Hp} {p b : Addr} {as : List Addr} {rows : List (List Int)} {r : List Int} (h : NewHall H0 H p as rows) (hs : Same H H') (hb : H' b = some (.lst (r.map V.int))) (hn : H b = none) :
    NewHall H0 (upd H' p (.lst ((as ++ [b]).map V.ref))) p (as ++ [b]) (rows ++ [r]) := by
  have hbp : b ≠ p := (ne_of_none h.at_.top hn).symm
  have hba : b ∉ as := fun hm => by
    obtain ⟨i, hi, e⟩ := List.mem_iff_getElem.mp hm
    obtain ⟨r', _, q⟩ := paired_getA h.at_.row (List.getElem?_eq_getElem hi)
    rw [e, hn] at q
    cases q
  refine ⟨⟨upd_same, ?_, ?_, ?_⟩, fun c o q => ?_, h.np, fun a ha => ?_⟩
  · refine Paired.snoc (paired_imp h.at_.row fun a r' ha q => ?_) ?_
    · rw [upd_ne (fun (z : a = p) => h.at_.ne (z ▸ ha))]
      exact hs _ _ q
    · rw [upd_ne hbp]; exact hb
  · rw [List.nodup_append]
    exact ⟨h.at_.nd, by simp, fun x hx y hy e => hba (by rw [show y = b by simpa using hy] at e; exact e ▸ hx)⟩
  · intro hm
    rcases List.mem_append.mp hm with q | q
    · exact h.at_.ne q
    · exact hbp (by simpa using q : p = b).symm
  · rw [upd_ne (fun z => by rw [z, h.np] at q; cases q)]
    exact hs _ _ (h.same _ _ q)
  · rcases List.mem_append.mp ha with q | q
    · exact h.na a q
    · rw [show a = b by simpa using q]
      exact h.same.free hn
theorem NewHall.snoc' {H0 H H' : Hp} {p b : Addr} {as : List Addr} {rows : List (List Int)} {r : List Int} (h : NewHall H0 H p as rows) (hs : Same H H') (hb : H' b = some (.lst (r.map V.int))) (hn : H b = none) :
    NewHall H0 (upd H' p (.lst (as.map V.ref ++ [.ref b]))) p (as ++ [b]) (rows ++ [r]) := by
  have q := h.snoc hs hb hn
  rw [List.map_append] at q
  exact q
theorem NewHall.grow {H0 H H' : Hp} {p : Addr} {as : List Addr} {rows : List (List Int)} (h : NewHall H0 H p as rows) (s : Same H H') : NewHall H0 H' p as rows :=
  ⟨h.at_.same s, h.same.trans s, h.np, h.na⟩
theorem NewHall.base {H0 H1 H : Hp} {p : Addr} {as : List Addr} {rows : List (List Int)} (s : Same H0 H1) (h : NewHall H1 H p as rows) : NewHall H0 H p as rows :=
  ⟨h.at_, s.trans h.same, s.free h.np, fun a ha => s.free (h.na a ha)⟩
/-- a row is changed -/
theorem NewHall.put {H0 H : Hp} {p a : Addr} {as : List Addr} {rows : List (List Int)} {i : Nat} {r' : List Int} (h : NewHall H0 H p as rows) (ha : as[i]? = some a) :
    NewHall H0 (upd H a (.lst (r'.map V.int))) p as (rows.set i r') := by
  have hm := List.mem_of_getElem? ha
  refine ⟨⟨?_, ?_, h.at_.nd, h.at_.ne⟩, fun b o q => ?_, h.np, h.na⟩
  · rw [upd_ne (fun (z : p = a) => h.at_.ne (z ▸ hm))]; exact h.at_.top
  · exact paired_set h.at_.row h.at_.nd ha upd_same fun c d hc q => by rw [upd_ne hc]; exact q
  · rw [upd_ne (fun z => by rw [z, h.na a hm] at q; cases q)]
    exact h.same _ _ q

theorem paired_erase {α β : Type} {F : α → β → Prop} : ∀ {as : List α} {bs : List β} (i : Nat), Paired F as bs → Paired F (as.eraseIdx i) (bs.eraseIdx i)
  | _, _, _, .nil => .nil
  | _, _, 0, .cons _ t => t
  | _, _, i + 1, .cons r t => .cons r (paired_erase i t)
theorem paired_insert {α β : Type} {F : α → β → Prop} {a : α} {b : β} (r : F a b) : ∀ {as : List α} {bs : List β} (i : Nat), Paired F as bs → Paired F (as.take i ++ a :: as.drop i) (bs.take i ++ b :: bs.drop i)
  | _, _, _, .nil => by simpa using Paired.cons r .nil
  | _, _, 0, .cons q t => .cons r (.cons q t)
  | _, _, i + 1, .cons q t => .cons q (paired_insert r i t)
/-- a row is dropped -/
theorem NewHall.erase {H0 H : Hp} {p : Addr} {as : List Addr} {rows : List (List Int)} (h : NewHall H0 H p as rows) (i : Nat) :
    NewHall H0 (upd H p (.lst ((as.eraseIdx i).map V.ref))) p (as.eraseIdx i) (rows.eraseIdx i) := by
  have sub : ∀ a ∈ as.eraseIdx i, a ∈ as := fun a ha => List.mem_of_mem_eraseIdx ha
  refine ⟨⟨upd_same, paired_imp (paired_erase i h.at_.row) fun a r ha q => ?_, h.at_.nd.sublist (List.eraseIdx_sublist _ _), fun z => h.at_.ne (sub _ z)⟩, fun b o q => ?_, h.np, fun a ha => h.na a (sub a ha)⟩
  · rw [upd_ne (fun (z : a = p) => h.at_.ne (z ▸ sub a ha))]; exact q
  · rw [upd_ne (fun z => by rw [z, h.np] at q; cases q)]
    exact h.same _ _ q
/-- a new row is put in -/
theorem NewHall.insert {H0 H H' : Hp} {p b : Addr} {as : List Addr} {rows : List (List Int)} {r : List Int} (h : NewHall H0 H p as rows) (hs : Same H H') (hb : H' b = some (.lst (r.map V.int))) (hn : H b = none) (i : Nat) :
    NewHall H0 (upd H' p (.lst ((as.take i ++ b :: as.drop i).map V.ref))) p (as.take i ++ b :: as.drop i) (rows.take i ++ r :: rows.drop i) := by
  have hbp : b ≠ p := (ne_of_none h.at_.top hn).symm
  have hba : b ∉ as := fun hm => by
    obtain ⟨i, hi, e⟩ := List.mem_iff_getElem.mp hm
    obtain ⟨r', _, q⟩ := paired_getA h.at_.row (List.getElem?_eq_getElem hi)
    rw [e, hn] at q
    cases q
  have perm : (as.take i ++ b :: as.drop i).Perm (b :: as) := by
    have a : (as.take i ++ b :: as.drop i).Perm (b :: (as.take i ++ as.drop i)) := List.perm_middle
    rw [List.take_append_drop] at a
    exact a
  have mem : ∀ a ∈ as.take i ++ b :: as.drop i, a = b ∨ a ∈ as := fun a ha => List.mem_cons.mp (perm.mem_iff.mp ha)
  refine ⟨⟨upd_same, paired_imp (paired_insert (a := b) (b := r) hb i (paired_imp h.at_.row fun a r' _ q => hs _ _ q)) fun a r' ha q => ?_, perm.nodup_iff.mpr (List.nodup_cons.mpr ⟨hba, h.at_.nd⟩), fun z => ?_⟩, fun c o q => ?_, h.np, fun a ha => ?_⟩
  · rw [upd_ne (fun z => ?_)]
    · exact q
    · rcases mem a ha with e | e
      · exact hbp (e.symm.trans z)
      · exact h.at_.ne (z ▸ e)
  · rcases mem p z with e | e
    · exact hbp e.symm
    · exact h.at_.ne e
  · rw [upd_ne (fun z => by rw [z, h.np] at q; cases q)]
    exact hs _ _ (h.same _ _ q)
  · rcases mem a ha with e | e
    · rw [e]; exact h.same.free hn
    · exact h.na a e

/-! ### how long rows are -/
def Lens (c : Nat) (rows : List (List Int)) : Prop := ∀ r ∈ rows, r.length ≤ c
theorem Lens.at_ {c : Nat} {rows : List (List Int)} (h : Lens c rows) (i : Nat) : (rowAt rows i).length ≤ c := by
  unfold rowAt
  by_cases hi : i < rows.length
  · rw [getD_of_lt hi]; exact h _ (List.getElem_mem _)
  · rw [List.getD_eq_getElem?_getD, List.getElem?_eq_none (by omega)]; exact Nat.zero_le _
theorem Lens.mono {c d : Nat} {rows : List (List Int)} (h : Lens c rows) (hcd : c ≤ d) : Lens d rows := fun r hr => Nat.le_trans (h r hr) hcd
theorem Lens.set {c : Nat} {rows : List (List Int)} {r : List Int} (h : Lens c rows) (hr : r.length ≤ c) (i : Nat) : Lens c (rows.set i r) := fun x hx => by
  rcases List.mem_or_eq_of_mem_set hx with q | q
  · exact h x q
  · rw [q]; exact hr
theorem Lens.snoc {c : Nat} {rows : List (List Int)} {r : List Int} (h : Lens c rows) (hr : r.length ≤ c) : Lens c (rows ++ [r]) := fun x hx => by
  rcases List.mem_append.mp hx with q | q
  · exact h x q
  · rw [show x = r by simpa using q]; exact hr
theorem Lens.erase {c : Nat} {rows : List (List Int)} (h : Lens c rows) (i : Nat) : Lens c (rows.eraseIdx i) := fun x hx => h x (List.mem_of_mem_eraseIdx hx)
theorem Lens.insert {c : Nat} {rows : List (List Int)} {r : List Int} (h : Lens c rows) (hr : r.length ≤ c) (i : Nat) : Lens c (rows.take i ++ r :: rows.drop i) := fun x hx => by
  rcases List.mem_append.mp hx with q | q
  · exact h x (List.mem_of_mem_take q)
  · rcases List.mem_cons.mp q with q | q
    · rw [q]; exact hr
    · exact h x (List.mem_of_mem_drop q)
theorem IsHall.lens {rows : List (List Int)} (h : IsHall rows) : Lens 12 rows := fun r hr => by
  obtain ⟨i, hi, e⟩ := List.mem_iff_getElem.mp hr
  have := h.few i hi
  have hh := h.hi
  have e2 : rowAt rows i = r := by unfold rowAt; rw [getD_of_lt hi]; exact e
  rw [e2] at this
  omega

/-! ### items by place -/
theorem at_int {ns : List Int} {k : Int} (h0 : 0 ≤ k) (h : k < ns.length) : atI (ns.map V.int) k = some (.int (ns.getD k.toNat 0)) := by
  have hk : k.toNat < ns.length := by omega
  have ek : k = ((k.toNat : Nat) : Int) := by omega
  have q : atI (ns.map V.int) ((k.toNat : Nat) : Int) = some (.int ns[k.toNat]) := atI_nat (by rw [List.getElem?_map, List.getElem?_eq_getElem hk]; rfl)
  rw [← ek] at q
  rw [q, getD_of_lt hk]
theorem at_ref {as : List Addr} {k : Int} {a : Addr} (h0 : 0 ≤ k) (h : as[k.toNat]? = some a) : atI (as.map V.ref) k = some (.ref a) := by
  have ek : k = ((k.toNat : Nat) : Int) := by omega
  have q : atI (as.map V.ref) ((k.toNat : Nat) : Int) = some (.ref a) := atI_nat (by rw [List.getElem?_map, h]; rfl)
  rw [← ek] at q
  exact q
/-- the row at place k of a list of rows -/
theorem rows_at {K : PySem.W.Frag} {H : Hp} {as : List Addr} {rows : List (List Int)} {k : Int} (R : RowsAt K H as rows) (h0 : 0 ≤ k) (h : k < rows.length) :
    ∃ a, atI (as.map V.ref) k = some (.ref a) ∧ as[k.toNat]? = some a ∧ SqL K H a ((rowAt rows k.toNat).map V.int) := by
  have hk : k.toNat < rows.length := by omega
  obtain ⟨a, ea, sa⟩ := RowsAt.get R (i := k.toNat) (r := rowAt rows k.toNat) (by rw [List.getElem?_eq_getElem hk]; unfold rowAt; rw [getD_of_lt hk])
  exact ⟨a, at_ref h0 ea, ea, sa⟩
theorem flat_ints (ns : List Int) : (ns.map V.int).all flatV = true := by
  rw [List.all_eq_true]
  intro x hx
  obtain ⟨i, _, rfl⟩ := List.mem_map.mp hx
  rfl
theorem inV_int (x : Int) (ns : List Int) : inV (.int x) (ns.map V.int) = decide (x ∈ ns) := by
  unfold inV
  rw [Bool.eq_iff_iff, List.any_eq_true, decide_eq_true_iff]
  constructor
  · rintro ⟨y, hy, e⟩
    obtain ⟨i, hi, rfl⟩ := List.mem_map.mp hy
    have : i = x := by simpa [eqV] using e
    rw [← this]; exact hi
  · intro h
    exact ⟨.int x, List.mem_map.mpr ⟨x, h, rfl⟩, by simp [eqV]⟩
theorem small {n : Nat} (h : n ≤ 1000) : n ≤ sizeLine := Nat.le_of_lt (small1000 h)
theorem smallL {n : Nat} (h : n ≤ 1000) : n < sizeLine := small1000 h
end KH

namespace KH
/-! ### pairs -/
/-- the pairs of players below n, in their order -/
def rowP (n i : Nat) : List (Nat × Nat) := (List.range (n - 1 - i)).map fun t => (i, i + 1 + t)
def plTo (n i : Nat) : List (Nat × Nat) := (List.range i).flatMap fun k => rowP n k
theorem plTo_succ (n i : Nat) : plTo n (i + 1) = plTo n i ++ rowP n i := by
  unfold plTo
  rw [List.range_succ, List.flatMap_append]
  simp
theorem rowP_len (n i : Nat) : (rowP n i).length = n - 1 - i := by unfold rowP; rw [List.length_map, List.length_range]
theorem rowP_get {n i t : Nat} (h : t < n - 1 - i) : (rowP n i)[t]? = some (i, i + 1 + t) := by
  unfold rowP
  rw [List.getElem?_map, List.getElem?_range h]
  rfl
theorem plTo_len (n : Nat) : ∀ i, (plTo n i).length ≤ n * i
  | 0 => by simp [plTo]
  | i + 1 => by
    rw [plTo_succ, List.length_append, rowP_len, Nat.mul_succ]
    have := plTo_len n i
    omega
theorem plTo_mem {n : Nat} {q : Nat × Nat} : ∀ {i : Nat}, i ≤ n → (q ∈ plTo n i ↔ q.1 < i ∧ q.1 < q.2 ∧ q.2 < n)
  | 0, _ => by simp [plTo]
  | i + 1, h => by
    rw [plTo_succ, List.mem_append, plTo_mem (i := i) (by omega)]
    unfold rowP
    rw [List.mem_map]
    constructor
    · rintro (z | ⟨t, ht, rfl⟩)
      · omega
      · have := List.mem_range.mp ht
        show i < i + 1 ∧ i < i + 1 + t ∧ i + 1 + t < n
        omega
    · rintro ⟨a, b, c⟩
      by_cases e : q.1 < i
      · exact .inl ⟨e, b, c⟩
      · refine .inr ⟨q.2 - (i + 1), List.mem_range.mpr (by omega), ?_⟩
        have : q.1 = i := by omega
        have e2 : i + 1 + (q.2 - (i + 1)) = q.2 := by omega
        rw [e2, ← this]
end KH

namespace KH
open PySem L2
/-! ### a list of pairs in the heap -/
structure Pairs (H H' : Hp) (L : Addr) (ps : List Addr) (pl : List (Nat × Nat)) : Prop where
  same : Same H H'
  new : H L = none
  top : H' L = some (.lst (ps.map V.ref))
  el : Paired (fun p (q : Nat × Nat) => H' p = some (.tup [.int (q.1 : Int), .int (q.2 : Int)])) ps pl
theorem Pairs.len {H H' : Hp} {L : Addr} {ps : List Addr} {pl : List (Nat × Nat)} (h : Pairs H H' L ps pl) : ps.length = pl.length := Paired.length h.el
theorem Pairs.keep {H H' H2 : Hp} {L : Addr} {ps : List Addr} {pl : List (Nat × Nat)} (h : Pairs H H' L ps pl) (s : Same H' H2) : Pairs H H2 L ps pl :=
  ⟨h.same.trans s, h.new, s _ _ h.top, paired_imp h.el fun _ _ _ q => s _ _ q⟩
theorem Pairs.start {H : Hp} {L : Addr} (h : H L = none) : Pairs H (upd H L (.lst [])) L [] [] := ⟨same_new h _, h, upd_same, .nil⟩
/-- one more pair -/
theorem Pairs.add {H H' : Hp} {L t : Addr} {ps : List Addr} {pl : List (Nat × Nat)} (h : Pairs H H' L ps pl) (ht : H' t = none) (i j : Nat) :
    Pairs H (upd (upd H' t (.tup [.int (i : Int), .int (j : Int)])) L (.lst (ps.map V.ref ++ [.ref t]))) L (ps ++ [t]) (pl ++ [(i, j)]) := by
  have nL : L ≠ t := ne_of_none h.top ht
  have s1 := same_new ht (.tup [.int (i : Int), .int (j : Int)])
  refine ⟨fun b o e => ?_, h.new, by rw [upd_same]; simp, Paired.snoc (paired_imp h.el fun a q _ e => ?_) ?_⟩
  · rw [upd_ne (fun q => by have := h.new; rw [← q, e] at this; cases this)]; exact s1 _ _ (h.same _ _ e)
  · rw [upd_ne (fun q => by have := h.top; rw [← q, e] at this; cases this)]; exact s1 _ _ e
  · rw [upd_ne nL.symm, upd_same]
end KH

namespace KH
open PySem L2
/-! ### a hall as a text -/
/-- the sign for two players -/
def sgn (rows : List (List Int)) (i j : Nat) : Nat := if (j : Int) ∈ rowAt rows i then 62 else 60
/-- the signs of player i and the next m -/
def rowS (rows : List (List Int)) (i m : Nat) : List Nat := (List.range m).map fun t => sgn rows i (i + 1 + t)
/-- the signs of the players below i -/
def sgTo (rows : List (List Int)) (n i : Nat) : List Nat := (List.range i).flatMap fun k => rowS rows k (n - 1 - k)
/-- a text with code points behind it -/
def upTo (h : Str) (l : List Nat) : Str := h ++ (⟨l.toArray⟩ : Str)
theorem rowS_succ (rows : List (List Int)) (i m : Nat) : rowS rows i (m + 1) = rowS rows i m ++ [sgn rows i (i + 1 + m)] := by
  unfold rowS
  rw [List.range_succ, List.map_append]
  rfl
theorem sgTo_succ (rows : List (List Int)) (n i : Nat) : sgTo rows n (i + 1) = sgTo rows n i ++ rowS rows i (n - 1 - i) := by
  unfold sgTo
  rw [List.range_succ, List.flatMap_append]
  simp
theorem rowS_zero (rows : List (List Int)) (i : Nat) : rowS rows i 0 = [] := rfl
theorem rowS_len (rows : List (List Int)) (i m : Nat) : (rowS rows i m).length = m := by unfold rowS; rw [List.length_map, List.length_range]
theorem sgTo_len (rows : List (List Int)) (n : Nat) : ∀ i, (sgTo rows n i).length ≤ n * i
  | 0 => by simp [sgTo]
  | i + 1 => by
    rw [sgTo_succ, List.length_append, rowS_len, Nat.mul_succ]
    have := sgTo_len rows n i
    omega
theorem upTo_nil (h : Str) : upTo h [] = h := by
  unfold upTo
  cases h
  show (⟨_ ++ #[]⟩ : Str) = _
  simp
theorem upTo_one (h : Str) (l : List Nat) (c : Nat) : upTo h l ++ (⟨#[c]⟩ : Str) = upTo h (l ++ [c]) := by
  unfold upTo
  cases h with
  | mk a =>
    show (⟨(a ++ l.toArray) ++ #[c]⟩ : Str) = ⟨a ++ (l ++ [c]).toArray⟩
    simp
theorem upTo_len (h : Str) (l : List Nat) : (upTo h l).length = h.length + l.length := by
  cases h with
  | mk a =>
    show (a ++ l.toArray).size = a.size + l.length
    simp
/-- the number and the colon -/
def headS (n : Nat) : Str := (toString (n : Int) : String) ++ ((":" : String) : Str)
def note (rows : List (List Int)) : Str := upTo (headS rows.length) (sgTo rows rows.length rows.length)
end KH

namespace KH
/-! ### rows of wins that can be -/
/-- k times k less 1, halved -/
def tri (k : Nat) : Int := (k : Int) * ((k : Int) - 1) / 2
theorem sorted_uniq : ∀ {l m : List Int}, l.Perm m → l.Pairwise (· ≤ ·) → m.Pairwise (· ≤ ·) → l = m
  | [], m, h, _, _ => by simpa using h.symm.eq_nil.symm
  | a :: l, m, h, h1, h2 => by
    cases m with
    | nil => exact absurd h.eq_nil (by simp)
    | cons b m =>
      rw [List.pairwise_cons] at h1 h2
      have e : a = b := by
        have ha : a ∈ b :: m := h.mem_iff.mp (by simp)
        have hb : b ∈ a :: l := h.mem_iff.mpr (by simp)
        have x : b ≤ a := by
          rcases List.mem_cons.mp ha with z | z
          · omega
          · exact h2.1 a z
        have y : a ≤ b := by
          rcases List.mem_cons.mp hb with z | z
          · omega
          · exact h1.1 b z
        omega
      subst e
      rw [sorted_uniq (List.Perm.cons_inv h) h1.2 h2.2]
/-- its sums are such that it can be -/
structure SumsOk (ns : List Int) : Prop where
  lo : 1 ≤ ns.length
  hi : ns.length ≤ 12
  all : ns.sum = tri ns.length
  least : ∀ ms : List Int, ms.Perm ns → ms.Pairwise (· ≤ ·) → ∀ k, 1 ≤ k → k ≤ ns.length → tri k ≤ (ms.take k).sum
theorem sums_of {ns ms : List Int} (hp : ms.Perm ns) (hs : ms.Pairwise (· ≤ ·)) (lo : 1 ≤ ns.length) (hi : ns.length ≤ 12) (all : ns.sum = tri ns.length) (h : ∀ k, 1 ≤ k → k ≤ ns.length → tri k ≤ (ms.take k).sum) : SumsOk ns :=
  ⟨lo, hi, all, fun m2 hp2 hs2 k h1 h2 => by rw [sorted_uniq (hp2.trans hp.symm) hs2 hs]; exact h k h1 h2⟩
theorem SumsOk.no {ns ms : List Int} (hp : ms.Perm ns) (hs : ms.Pairwise (· ≤ ·)) {k : Nat} (h1 : 1 ≤ k) (h2 : k ≤ ns.length) (h : (ms.take k).sum < tri k) : ¬ SumsOk ns := fun S => by
  have := S.least ms hp hs k h1 h2
  omega
end KH

namespace KH
/-! ### lines -/
/-- each beat the next -/
def Path (rows : List (List Int)) (l : List Int) : Prop := ∀ k, k + 1 < l.length → l.getD (k + 1) 0 ∈ R rows (l.getD k 0)
theorem path_nil (rows : List (List Int)) : Path rows [] := fun k h => by simp at h
theorem getD_insert {l : List Int} {x : Int} {k i : Nat} (hk : k ≤ l.length) : (l.take k ++ x :: l.drop k).getD i 0 = if i < k then l.getD i 0 else if i = k then x else l.getD (i - 1) 0 := by
  simp only [List.getD_eq_getElem?_getD]
  have ht : (l.take k).length = k := by rw [List.length_take]; omega
  by_cases h1 : i < k
  · rw [if_pos h1, List.getElem?_append_left (by omega), List.getElem?_take_of_lt h1]
  · rw [if_neg h1, List.getElem?_append_right (by omega), ht]
    by_cases h2 : i = k
    · rw [if_pos h2, h2]; simp
    · rw [if_neg h2]
      obtain ⟨j, hj⟩ : ∃ j, i - k = j + 1 := ⟨i - k - 1, by omega⟩
      rw [hj, List.getElem?_cons_succ, List.getElem?_drop]
      congr 2
      omega
theorem path_insert {rows : List (List Int)} {l : List Int} {x : Int} {k : Nat} (hk : k ≤ l.length) (P : Path rows l) (h1 : ∀ i, i < k → x ∈ R rows (l.getD i 0)) (h2 : k < l.length → l.getD k 0 ∈ R rows x) :
    Path rows (l.take k ++ x :: l.drop k) := by
  intro i hi
  have hlen : (l.take k ++ x :: l.drop k).length = l.length + 1 := by simp; omega
  rw [hlen] at hi
  rw [getD_insert hk, getD_insert hk]
  by_cases a : i + 1 < k
  · rw [if_pos a, if_pos (by omega)]
    exact P i (by omega)
  · rw [if_neg a]
    by_cases b : i + 1 = k
    · rw [if_pos b, if_pos (by omega)]
      exact h1 i (by omega)
    · rw [if_neg b]
      by_cases c : i = k
      · rw [if_neg (by omega), if_pos c, show i + 1 - 1 = k by omega]
        exact h2 (by omega)
      · rw [if_neg (by omega), if_neg c, show i + 1 - 1 = (i - 1) + 1 by omega]
        exact P (i - 1) (by omega)
/-- of two players of a hall just one won -/
theorem IsHall.other {rows : List (List Int)} (h : IsHall rows) {u v : Int} (hu : 0 ≤ u ∧ u < rows.length) (hv : 0 ≤ v ∧ v < rows.length) (ne : u ≠ v) : u ∈ R rows v ↔ ¬ v ∈ R rows u := by
  have eR : ∀ i : Nat, R rows (i : Int) = rowAt rows i := fun i => by unfold R rowAt; rw [Int.toNat_natCast]
  obtain ⟨i, rfl⟩ : ∃ i : Nat, u = i := ⟨u.toNat, by omega⟩
  obtain ⟨j, rfl⟩ : ∃ j : Nat, v = j := ⟨v.toNat, by omega⟩
  rw [eR, eR]
  rcases Nat.lt_or_gt_of_ne (show i ≠ j by omega) with q | q
  · exact h.one j i q (by omega)
  · have := h.one i j q (by omega)
    constructor
    · intro a b; exact this.mp b a
    · intro a; exact Classical.byContradiction fun b => a (this.mpr b)
/-- what place_in tells -/
structure PlaceOk (line row : List Int) (k : Nat) : Prop where
  le : k ≤ line.length
  no : ∀ i, i < k → line.getD i 0 ∉ row
  yes : k < line.length → line.getD k 0 ∈ row
/-- a line of the players below i, one more player put in -/
theorem line_step {rows : List (List Int)} {line : List Int} {i k : Nat} (h : IsHall rows) (hi : i < rows.length) (hp : line.Perm (nums i)) (P : Path rows line) (pl : PlaceOk line (rowAt rows i) k) :
    (line.take k ++ (i : Int) :: line.drop k).Perm (nums (i + 1)) ∧ Path rows (line.take k ++ (i : Int) :: line.drop k) := by
  refine ⟨by rw [nums_succ]; exact perm_insert hp k, path_insert pl.le P (fun j hj => ?_) (fun hk => ?_)⟩
  · have hjl : j < line.length := by have := pl.le; omega
    have hm : line.getD j 0 ∈ nums i := hp.mem_iff.mp (by rw [getD_of_lt hjl]; exact List.getElem_mem _)
    have hr := mem_nums.mp hm
    have := pl.no j hj
    have eR : R rows (i : Int) = rowAt rows i := by unfold R rowAt; rw [Int.toNat_natCast]
    rw [← eR] at this
    exact (h.other (u := (i : Int)) (v := line.getD j 0) ⟨by omega, by omega⟩ ⟨by omega, by omega⟩ (by omega)).mpr this
  · have eR : R rows (i : Int) = rowAt rows i := by unfold R rowAt; rw [Int.toNat_natCast]
    rw [eR]; exact pl.yes hk
end KH

namespace KH
/-! ### kings -/
def Within (rows : List (List Int)) (p q : Int) : Prop := q ∈ R rows p ∨ ∃ b ∈ R rows p, q ∈ R rows b
def King (rows : List (List Int)) (p : Int) : Prop := ∀ q : Int, 0 ≤ q → q < rows.length → q ≠ p → Within rows p q
noncomputable def kingsL (rows : List (List Int)) : List Int := (nums rows.length).filter fun p => dec (King rows p)
theorem sub_len : ∀ {l m : List Int}, l.Nodup → (∀ x ∈ l, x ∈ m) → l.length ≤ m.length
  | [], m, _, _ => Nat.zero_le _
  | x :: r, m, nd, h => by
    have hx := h x List.mem_cons_self
    rw [List.nodup_cons] at nd
    have h1 : r.length ≤ (m.erase x).length := sub_len nd.2 fun y hy => (List.mem_erase_of_ne (fun (e : y = x) => nd.1 (e ▸ hy))).mpr (h y (List.mem_cons_of_mem _ hy))
    rw [List.length_erase_of_mem hx] at h1
    have := List.length_pos_of_mem hx
    simp only [List.length_cons]
    omega
theorem most_of (f : Int → Nat) : ∀ {l : List Int}, l ≠ [] → ∃ p ∈ l, ∀ q ∈ l, f q ≤ f p
  | [], h => absurd rfl h
  | [x], _ => ⟨x, by simp, fun q hq => by simp at hq; rw [hq]; exact Nat.le_refl _⟩
  | x :: y :: r, _ => by
    obtain ⟨p, hp, h⟩ := most_of f (l := y :: r) (by simp)
    by_cases c : f x ≤ f p
    · exact ⟨p, List.mem_cons_of_mem _ hp, fun q hq => by
        rcases List.mem_cons.mp hq with e | e
        · rw [e]; exact c
        · exact h q e⟩
    · exact ⟨x, by simp, fun q hq => by
        rcases List.mem_cons.mp hq with e | e
        · rw [e]; exact Nat.le_refl _
        · have := h q e
          omega⟩
theorem eR (rows : List (List Int)) (i : Nat) : R rows (i : Int) = rowAt rows i := by unfold R rowAt; rw [Int.toNat_natCast]
theorem eRx {rows : List (List Int)} {x : Int} (h : 0 ≤ x) : R rows x = rowAt rows x.toNat := by unfold R rowAt; rfl
theorem IsHall.rng {rows : List (List Int)} (h : IsHall rows) {u x : Int} (hu : 0 ≤ u ∧ u < rows.length) (hx : x ∈ R rows u) : (0 ≤ x ∧ x < rows.length) ∧ x ≠ u := by
  obtain ⟨i, rfl⟩ : ∃ i : Nat, u = i := ⟨u.toNat, by omega⟩
  rw [eR] at hx
  have := (h.beat i (by omega)).2 x hx
  exact ⟨⟨this.1, this.2.1⟩, this.2.2⟩
theorem IsHall.nod {rows : List (List Int)} (h : IsHall rows) {u : Int} (hu : 0 ≤ u ∧ u < rows.length) : (R rows u).Nodup := by
  obtain ⟨i, rfl⟩ : ∃ i : Nat, u = i := ⟨u.toNat, by omega⟩
  rw [eR, List.nodup_iff_pairwise_ne]
  exact (h.beat i (by omega)).1.imp fun h => by omega
/-- whoever beat most of some beat all of them within two -/
theorem most_within {rows : List (List Int)} (h : IsHall rows) {S : List Int} (hS : ∀ x ∈ S, 0 ≤ x ∧ x < rows.length) {p : Int} (hp : p ∈ S)
    (hm : ∀ q ∈ S, ((R rows q).filter fun x => decide (x ∈ S)).length ≤ ((R rows p).filter fun x => decide (x ∈ S)).length) : ∀ q ∈ S, q ≠ p → q ∈ R rows p ∨ ∃ b ∈ R rows p, b ∈ S ∧ q ∈ R rows b := by
  intro q hq ne
  refine Classical.byContradiction fun c => ?_
  have c1 : q ∉ R rows p := fun x => c (.inl x)
  have c2 : ∀ b ∈ R rows p, b ∈ S → q ∉ R rows b := fun b x y z => c (.inr ⟨b, x, y, z⟩)
  have pq : p ∈ R rows q := (h.other (hS p hp) (hS q hq) ne.symm).mpr c1
  have hpp : p ∉ R rows p := fun x => (h.rng (hS p hp) x).2 rfl
  have key : (p :: (R rows p).filter fun x => decide (x ∈ S)).length ≤ ((R rows q).filter fun x => decide (x ∈ S)).length := by
    refine sub_len (List.nodup_cons.mpr ⟨fun x => hpp (List.mem_filter.mp x).1, (h.nod (hS p hp)).filter _⟩) fun x hx => ?_
    rcases List.mem_cons.mp hx with e | e
    · rw [e]; exact List.mem_filter.mpr ⟨pq, decide_eq_true hp⟩
    · obtain ⟨x1, x2⟩ := List.mem_filter.mp e
      have x2 := of_decide_eq_true x2
      have xq : x ≠ q := fun z => c1 (z ▸ x1)
      exact List.mem_filter.mpr ⟨(h.other (hS x x2) (hS q hq) xq).mpr (c2 x x1 x2), decide_eq_true x2⟩
  have := hm q hq
  simp only [List.length_cons] at key
  omega
theorem filter_all {l S : List Int} (h : ∀ x ∈ l, x ∈ S) : (l.filter fun x => decide (x ∈ S)) = l := List.filter_eq_self.mpr fun x hx => decide_eq_true (h x hx)
/-- the most wins: a king -/
theorem most_king {rows : List (List Int)} (h : IsHall rows) {p : Int} (hp : 0 ≤ p ∧ p < rows.length) (hm : ∀ q : Int, 0 ≤ q → q < rows.length → (R rows q).length ≤ (R rows p).length) : King rows p := by
  have hall : ∀ u : Int, 0 ≤ u ∧ u < rows.length → ((R rows u).filter fun x => decide (x ∈ nums rows.length)) = R rows u := fun u hu => filter_all fun x hx => mem_nums.mpr (h.rng hu hx).1
  intro q h0 h1 ne
  rcases most_within h (S := nums rows.length) (fun x hx => mem_nums.mp hx) (mem_nums.mpr hp) (fun q hq => by rw [hall p hp, hall q (mem_nums.mp hq)]; exact hm q (mem_nums.mp hq).1 (mem_nums.mp hq).2) q (mem_nums.mpr ⟨h0, h1⟩) ne with a | ⟨b, x, _, z⟩
  · exact .inl a
  · exact .inr ⟨b, x, z⟩
theorem king_is {rows : List (List Int)} (h : IsHall rows) : ∃ p : Int, (0 ≤ p ∧ p < rows.length) ∧ King rows p := by
  have lo := h.lo
  obtain ⟨p, hp, hm⟩ := most_of (fun p => (R rows p).length) (l := nums rows.length) (fun e => by have := nums_length rows.length; rw [e] at this; simp at this; omega)
  exact ⟨p, mem_nums.mp hp, most_king h (mem_nums.mp hp) fun q a b => hm q (mem_nums.mpr ⟨a, b⟩)⟩
/-- whoever was beaten was beaten by a king -/
theorem king_over {rows : List (List Int)} (h : IsHall rows) {x y : Int} (hx : 0 ≤ x ∧ x < rows.length) (hy : 0 ≤ y ∧ y < rows.length) (hxy : x ∈ R rows y) : ∃ p : Int, (0 ≤ p ∧ p < rows.length) ∧ x ∈ R rows p ∧ King rows p := by
  let S := (nums rows.length).filter fun q => decide (x ∈ R rows q)
  have mS : ∀ q, q ∈ S ↔ (0 ≤ q ∧ q < rows.length) ∧ x ∈ R rows q := fun q => by
    show q ∈ (nums rows.length).filter _ ↔ _
    rw [List.mem_filter, mem_nums, decide_eq_true_iff]
  obtain ⟨p, hp, hm⟩ := most_of (fun p => ((R rows p).filter fun x => decide (x ∈ S)).length) (l := S) (fun e => by
    have := (mS y).mpr ⟨hy, hxy⟩
    rw [e] at this
    cases this)
  have hpS := (mS p).mp hp
  refine ⟨p, hpS.1, hpS.2, fun q h0 h1 ne => ?_⟩
  by_cases c : x ∈ R rows q
  · rcases most_within h (S := S) (fun z hz => ((mS z).mp hz).1) hp hm q ((mS q).mpr ⟨⟨h0, h1⟩, c⟩) ne with a | ⟨b, a, _, z⟩
    · exact .inl a
    · exact .inr ⟨b, a, z⟩
  · by_cases e : q = x
    · rw [e]; exact .inl hpS.2
    · exact .inr ⟨x, hpS.2, (h.other ⟨h0, h1⟩ hx e).mpr c⟩
theorem mem_kingsL {rows : List (List Int)} {p : Int} : p ∈ kingsL rows ↔ (0 ≤ p ∧ p < rows.length) ∧ King rows p := by
  unfold kingsL
  rw [List.mem_filter, mem_nums]
  constructor
  · rintro ⟨a, b⟩
    exact ⟨a, Classical.byContradiction fun c => by rw [dec_false c] at b; cases b⟩
  · rintro ⟨a, b⟩
    exact ⟨a, dec_true b⟩
theorem kings_no0 {rows : List (List Int)} (h : IsHall rows) : (kingsL rows).length ≠ 0 := by
  obtain ⟨p, hp, k⟩ := king_is h
  have := List.length_pos_of_mem (mem_kingsL.mpr ⟨hp, k⟩)
  omega
theorem kings_no2 {rows : List (List Int)} (h : IsHall rows) : (kingsL rows).length ≠ 2 := by
  intro e
  obtain ⟨a, b, eab⟩ : ∃ a b, kingsL rows = [a, b] := by
    match hh : kingsL rows, e with
    | [a, b], _ => exact ⟨a, b, rfl⟩
  have nd : (kingsL rows).Nodup := (nums_nodup _).filter _
  have hm : ∀ x : Int, (0 ≤ x ∧ x < rows.length) ∧ King rows x ↔ x = a ∨ x = b := fun x => by rw [← mem_kingsL, eab]; simp
  have nab : a ≠ b := by rw [eab] at nd; simp at nd; exact nd
  have no : ∀ p q : Int, p ≠ q → (∀ x : Int, (0 ≤ x ∧ x < rows.length) ∧ King rows x ↔ x = p ∨ x = q) → q ∈ R rows p → False := fun p q ne hm hpq => by
    obtain ⟨hp, kp⟩ := (hm p).mpr (.inl rfl)
    obtain ⟨hq, kq⟩ := (hm q).mpr (.inr rfl)
    have nobody : ∀ y : Int, 0 ≤ y ∧ y < rows.length → p ∉ R rows y := fun y hy hpy => by
      obtain ⟨r, hr, rp, kr⟩ := king_over h hp hy hpy
      rcases (hm r).mp ⟨hr, kr⟩ with z | z
      · rw [z] at rp; exact (h.rng hp rp).2 rfl
      · rw [z] at rp; exact (h.other hp hq ne).mp rp hpq
    rcases kq p hp.1 hp.2 ne with z | ⟨y, hy, z⟩
    · exact nobody q hq z
    · exact nobody y (h.rng hq hy).1 z
  obtain ⟨ha, _⟩ := (hm a).mpr (.inl rfl)
  obtain ⟨hb, _⟩ := (hm b).mpr (.inr rfl)
  by_cases c : b ∈ R rows a
  · exact no a b nab hm c
  · exact no b a nab.symm (fun x => (hm x).trans Or.comm) ((h.other ha hb nab).mpr c)
end KH

namespace KH
/-! ### ways, and groups -/
/-- a way leads, in so many steps -/
def Steps (rows : List (List Int)) (p : Int) : Nat → Int → Prop
  | 0, q => q = p
  | k + 1, q => ∃ r, Steps rows p k r ∧ q ∈ R rows r
def Reach (rows : List (List Int)) (p q : Int) : Prop := ∃ k, Steps rows p k q
theorem Reach.refl {rows : List (List Int)} {p : Int} : Reach rows p p := ⟨0, rfl⟩
theorem Reach.step {rows : List (List Int)} {p q r : Int} (h : Reach rows p q) (hr : r ∈ R rows q) : Reach rows p r := by
  obtain ⟨k, hk⟩ := h
  exact ⟨k + 1, q, hk, hr⟩
theorem steps_rng {rows : List (List Int)} (h : IsHall rows) {p : Int} (hp : 0 ≤ p ∧ p < rows.length) : ∀ {k : Nat} {q : Int}, Steps rows p k q → 0 ≤ q ∧ q < rows.length
  | 0, q, e => by rw [show q = p from e]; exact hp
  | k + 1, q, ⟨r, hr, hq⟩ => (h.rng (steps_rng h hp hr) hq).1
theorem Reach.rng {rows : List (List Int)} (h : IsHall rows) {p q : Int} (hp : 0 ≤ p ∧ p < rows.length) (hq : Reach rows p q) : 0 ≤ q ∧ q < rows.length := by
  obtain ⟨k, hk⟩ := hq
  exact steps_rng h hp hk
theorem Reach.trans {rows : List (List Int)} {p q : Int} (h : Reach rows p q) : ∀ {r : Int}, Reach rows q r → Reach rows p r := by
  rintro r ⟨k, hk⟩
  induction k generalizing r with
  | zero => rw [show r = q from hk]; exact h
  | succ k ih => obtain ⟨t, ht, e⟩ := hk; exact (ih ht).step e
/-- those whom ways reach: closed -/
theorem reach_in {rows : List (List Int)} {p : Int} {S : Int → Prop} (hp : S p) (hc : ∀ x, S x → ∀ y ∈ R rows x, S y) {q : Int} (h : Reach rows p q) : S q := by
  obtain ⟨k, hk⟩ := h
  induction k generalizing q with
  | zero => rw [show q = p from hk]; exact hp
  | succ k ih => obtain ⟨t, ht, e⟩ := hk; exact hc t (ih ht) q e
/-- whoever stands ahead of place m beat all from there on -/
def Cut (rows : List (List Int)) (ord : List Int) (m : Nat) : Prop := ∀ x ∈ ord.take m, ∀ y ∈ ord.drop m, y ∈ R rows x
/-- by falling wins -/
def Falling (rows : List (List Int)) (ord : List Int) : Prop := ord.Pairwise fun x y => (R rows y).length ≤ (R rows x).length
theorem least_of (P : Nat → Prop) : ∀ n, P n → ∃ m, m ≤ n ∧ P m ∧ ∀ k, k < m → ¬ P k
  | 0, h => ⟨0, Nat.le_refl _, h, fun k hk => by omega⟩
  | n + 1, h => by
    by_cases c : ∃ k, k ≤ n ∧ P k
    · obtain ⟨k, hk, pk⟩ := c
      obtain ⟨m, a, b, d⟩ := least_of P k pk
      exact ⟨m, by omega, b, d⟩
    · exact ⟨n + 1, Nat.le_refl _, h, fun k hk pk => c ⟨k, by omega, pk⟩⟩
/-- within what lies between cuts ways lead from each to each -/
theorem reach_of_cut {rows : List (List Int)} (h : IsHall rows) {ord : List Int} (hp : ord.Perm (nums rows.length)) (hf : Falling rows ord) {i j : Nat} (hi : i < ord.length) (hj : j < ord.length)
    (hc : ∀ m, m ≤ i → Cut rows ord m → m ≤ j) : Reach rows ord[i] ord[j] := by
  have rng : ∀ x ∈ ord, 0 ≤ x ∧ x < rows.length := fun x hx => mem_nums.mp (hp.mem_iff.mp hx)
  have hx := rng _ (List.getElem_mem hi)
  let T : Int → Prop := fun q => Reach rows ord[i] q
  have big : ∀ u t : Int, (0 ≤ u ∧ u < rows.length) → (0 ≤ t ∧ t < rows.length) → ¬ T u → T t → (R rows t).length < (R rows u).length := fun u t hu ht nu tt => by
    have a : (t :: R rows t).length ≤ (R rows u).length := by
      refine sub_len (List.nodup_cons.mpr ⟨fun q => (h.rng ht q).2 rfl, h.nod ht⟩) fun q hq => ?_
      have tq : T q := by
        rcases List.mem_cons.mp hq with e | e
        · rw [e]; exact tt
        · exact Reach.step tt e
      have hqr := Reach.rng h hx tq
      have ne : q ≠ u := fun e => nu (e ▸ tq)
      exact (h.other hqr hu ne).mpr fun z => nu (Reach.step tq z)
    simp only [List.length_cons] at a
    omega
  have up : ∀ k k' : Nat, (hk : k < ord.length) → (hk' : k' < ord.length) → k < k' → T ord[k] → T ord[k'] := fun k k' hk hk' lt tk => by
    refine Classical.byContradiction fun no => ?_
    have a := big _ _ (rng _ (List.getElem_mem hk')) (rng _ (List.getElem_mem hk)) no tk
    have b := List.pairwise_iff_getElem.mp hf k k' hk hk' lt
    omega
  obtain ⟨m, hm, ⟨hml, tm⟩, no⟩ := least_of (fun k => ∃ hk : k < ord.length, T ord[k]) i ⟨hi, Reach.refl⟩
  have cut : Cut rows ord m := fun x hxm y hym => by
    obtain ⟨a, ha, ea⟩ := List.mem_iff_getElem.mp hxm
    obtain ⟨b, hb, eb⟩ := List.mem_iff_getElem.mp hym
    rw [List.length_take] at ha
    rw [List.length_drop] at hb
    rw [List.getElem_take] at ea
    rw [List.getElem_drop] at eb
    have nx : ¬ T x := fun t => no a (by omega) ⟨by omega, by rw [ea]; exact t⟩
    have ty : T y := by
      by_cases e : b = 0
      · subst e; rw [← eb]; exact tm
      · rw [← eb]; exact up m (m + b) hml (by omega) (by omega) tm
    have hxr : 0 ≤ x ∧ x < rows.length := rng x (List.mem_of_mem_take hxm)
    have hyr := Reach.rng h hx ty
    have ne : y ≠ x := fun e => nx (e ▸ ty)
    exact (h.other hyr hxr ne).mpr fun z => nx (Reach.step ty z)
  have hmj := hc m hm cut
  by_cases e : m = j
  · subst e; exact tm
  · exact up m j hml hj (by omega) tm
/-! ### how often one to come won against one who came -/
def against (rows : List (List Int)) (came rest : List Int) : Nat := (came.map fun d => (rest.filter fun y => decide (d ∈ R rows y)).length).sum
theorem against_nil (rows : List (List Int)) (rest : List Int) : against rows [] rest = 0 := rfl
theorem sum_zero : ∀ {l : List Nat}, l.sum = 0 ↔ ∀ x ∈ l, x = 0
  | [] => by simp
  | a :: r => by simp [sum_zero (l := r)]
theorem against_zero {rows : List (List Int)} (h : IsHall rows) {came rest : List Int} (hr : ∀ x ∈ came ++ rest, 0 ≤ x ∧ x < rows.length) (nd : (came ++ rest).Nodup) : against rows came rest = 0 ↔ ∀ x ∈ came, ∀ y ∈ rest, y ∈ R rows x := by
  unfold against
  rw [sum_zero]
  have dis : ∀ x ∈ came, ∀ y ∈ rest, y ≠ x := fun x hx y hy e => by
    rw [List.nodup_append] at nd
    exact nd.2.2 x hx y hy e.symm
  constructor
  · intro z x hx y hy
    have := z _ (List.mem_map.mpr ⟨x, hx, rfl⟩)
    have := List.filter_eq_nil_iff.mp (List.length_eq_zero_iff.mp this) y hy
    have no : x ∉ R rows y := fun q => this (decide_eq_true q)
    exact (h.other (hr y (by simp [hy])) (hr x (by simp [hx])) (dis x hx y hy)).mpr no
  · intro z v hv
    obtain ⟨x, hx, rfl⟩ := List.mem_map.mp hv
    refine List.length_eq_zero_iff.mpr (List.filter_eq_nil_iff.mpr fun y hy q => ?_)
    exact (h.other (hr y (by simp [hy])) (hr x (by simp [hx])) (dis x hx y hy)).mp (z x hx y hy) (of_decide_eq_true q)
theorem sum_add (f g : Int → Nat) : ∀ l : List Int, (l.map fun d => f d + g d).sum = (l.map f).sum + (l.map g).sum
  | [] => rfl
  | a :: r => by simp only [List.map_cons, List.sum_cons, sum_add f g r]; omega
theorem sum_ite (p : Int → Bool) : ∀ l : List Int, (l.map fun d => if p d = true then 1 else 0).sum = (l.filter p).length
  | [] => rfl
  | a :: r => by
    simp only [List.map_cons, List.sum_cons, sum_ite p r, List.filter_cons]
    by_cases c : p a = true
    · rw [if_pos c, if_pos c, List.length_cons]; omega
    · rw [if_neg c, if_neg c]; omega
theorem len_perm_filter {l m : List Int} (hl : l.Nodup) (hm : m.Nodup) (h : ∀ x ∈ l, x ∈ m) : (m.filter fun x => decide (x ∈ l)).length = l.length := by
  refine Nat.le_antisymm (sub_len (hm.filter _) fun x hx => of_decide_eq_true (List.mem_filter.mp hx).2) (sub_len hl fun x hx => List.mem_filter.mpr ⟨h x hx, decide_eq_true hx⟩)
theorem filter_split (p : Int → Bool) : ∀ l : List Int, (l.filter p).length + (l.filter fun x => !p x).length = l.length
  | [] => rfl
  | a :: r => by
    have := filter_split p r
    simp only [List.filter_cons, List.length_cons]
    cases p a <;> simp <;> omega
theorem against_step {rows : List (List Int)} (h : IsHall rows) {came rest : List Int} {x : Int} (hp : (came ++ x :: rest).Perm (nums rows.length)) :
    (against rows (came ++ [x]) rest : Int) = (against rows came (x :: rest) : Int) + ((rest.length : Int) - (R rows x).length) := by
  have hr : ∀ y ∈ came ++ x :: rest, 0 ≤ y ∧ y < rows.length := fun y hy => mem_nums.mp (hp.mem_iff.mp hy)
  have nd : (came ++ x :: rest).Nodup := hp.nodup_iff.mpr (nums_nodup _)
  have hxr := hr x (by simp)
  -- the wins of x
  have e1 := len_perm_filter (h.nod hxr) nd (fun y hy => hp.mem_iff.mpr (mem_nums.mpr (h.rng hxr hy).1))
  have nxx : ¬ x ∈ R rows x := fun q => (h.rng hxr q).2 rfl
  rw [List.filter_append, List.filter_cons, if_neg (by rw [decide_eq_true_iff]; exact nxx), List.length_append] at e1
  have e2 := filter_split (fun y => decide (y ∈ R rows x)) rest
  have nd' := nd
  rw [List.nodup_append, List.nodup_cons] at nd'
  have e3 : (rest.filter fun y => !decide (y ∈ R rows x)) = rest.filter fun y => decide (x ∈ R rows y) := by
    refine List.filter_congr fun y hy => ?_
    have ne : x ≠ y := fun e => nd'.2.1.1 (e ▸ hy)
    have := h.other hxr (hr y (by simp [hy])) ne
    by_cases c : y ∈ R rows x
    · rw [decide_eq_true c, decide_eq_false (fun q => this.mp q c)]; rfl
    · rw [decide_eq_false c, decide_eq_true (this.mpr c)]; rfl
  rw [e3] at e2
  -- the sums
  have e4 : against rows (came ++ [x]) rest = against rows came rest + (rest.filter fun y => decide (x ∈ R rows y)).length := by unfold against; simp
  have e5 : against rows came (x :: rest) = (came.filter fun d => decide (d ∈ R rows x)).length + against rows came rest := by
    unfold against
    rw [← sum_ite, ← sum_add]
    congr 1
    refine List.map_congr_left fun d hd => ?_
    rw [List.filter_cons]
    by_cases c : d ∈ R rows x
    · rw [decide_eq_true c, if_pos rfl, List.length_cons, if_pos rfl]; omega
    · rw [decide_eq_false c]; simp
  rw [e4, e5]
  omega
end KH

namespace KH
/-! ### how far -/
structure Dist (rows : List (List Int)) (p q : Int) (d : Nat) : Prop where
  is : Steps rows p d q
  no : ∀ k, k < d → ¬ Steps rows p k q
theorem Dist.uniq {rows : List (List Int)} {p q : Int} {d e : Nat} (a : Dist rows p q d) (b : Dist rows p q e) : d = e := by
  rcases Nat.lt_trichotomy d e with h | h | h
  · exact absurd a.is (b.no d h)
  · exact h
  · exact absurd b.is (a.no e h)
theorem Dist.le {rows : List (List Int)} {p q : Int} {d k : Nat} (a : Dist rows p q d) (h : Steps rows p k q) : d ≤ k := by
  rcases Nat.lt_or_ge k d with c | c
  · exact absurd h (a.no k c)
  · exact c
theorem dist_of {rows : List (List Int)} {p q : Int} {k : Nat} (h : Steps rows p k q) : ∃ d, d ≤ k ∧ Dist rows p q d := by
  obtain ⟨m, a, b, c⟩ := least_of (fun d => Steps rows p d q) k h
  exact ⟨m, a, b, c⟩
/-- whoever is at a distance has one ahead of it at one less -/
theorem Dist.pred {rows : List (List Int)} {p q : Int} {d : Nat} (a : Dist rows p q (d + 1)) : ∃ r, Dist rows p r d ∧ q ∈ R rows r := by
  obtain ⟨r, hr, hq⟩ := a.is
  refine ⟨r, ⟨hr, fun k hk hs => ?_⟩, hq⟩
  exact a.no (k + 1) (by omega) ⟨r, hs, hq⟩
/-- none at a distance: none further -/
theorem no_further {rows : List (List Int)} {p : Int} {d : Nat} (h : ∀ q, ¬ Dist rows p q d) : ∀ {k : Nat} {q : Int}, Steps rows p k q → ∃ j, j < d ∧ Steps rows p j q := by
  intro k q hk
  obtain ⟨m, _, hm⟩ := dist_of hk
  refine ⟨m, ?_, hm.is⟩
  rcases Nat.lt_or_ge m d with c | c
  · exact c
  · exfalso
    have : ∀ e q, Dist rows p q (d + e) → False := by
      intro e
      induction e with
      | zero => intro q hq; exact h q hq
      | succ e ih => intro q hq; obtain ⟨r, hr, _⟩ := Dist.pred (d := d + e) hq; exact ih r hr
    exact this (m - d) q (by rw [show d + (m - d) = m by omega]; exact hm)
theorem dist_list {rows : List (List Int)} {p : Int} : ∀ {d : Nat} {q : Int}, Dist rows p q d → ∃ L : List Int, L.Nodup ∧ L.length = d + 1 ∧ ∀ x ∈ L, ∃ k, k ≤ d ∧ Dist rows p x k
  | 0, q, h => by
    refine ⟨[q], by simp, rfl, fun x hx => ⟨0, Nat.le_refl _, ?_⟩⟩
    have : x = q := by simpa using hx
    rw [this]; exact h
  | d + 1, q, h => by
    obtain ⟨r, hr, _⟩ := h.pred
    obtain ⟨L, a, b, c⟩ := dist_list hr
    refine ⟨q :: L, List.nodup_cons.mpr ⟨fun hq => ?_, a⟩, by simp [b], fun x hx => ?_⟩
    · obtain ⟨k, hk, e⟩ := c q hq
      have := h.uniq e
      omega
    · rcases List.mem_cons.mp hx with e | e
      · rw [e]; exact ⟨d + 1, Nat.le_refl _, h⟩
      · obtain ⟨k, hk, z⟩ := c x e
        exact ⟨k, by omega, z⟩
theorem dist_lt {rows : List (List Int)} (h : IsHall rows) {p q : Int} {d : Nat} (hp : 0 ≤ p ∧ p < rows.length) (hd : Dist rows p q d) : d < rows.length := by
  obtain ⟨L, a, b, c⟩ := dist_list hd
  have := few_of_nodup rows.length L a fun x hx => by
    obtain ⟨k, _, e⟩ := c x hx
    exact steps_rng h hp e.is
  omega
/-! ### a walk by a line of those met, in the order of their distance -/
structure Walk (rows : List (List Int)) (p : Int) (l : List Int) (f : List Nat) (at_ : Nat) (pre : List Int) : Prop where
  len : f.length = l.length
  nd : l.Nodup
  fst : l.getD 0 0 = p ∧ 0 < l.length
  dist : ∀ i, i < l.length → Dist rows p (l.getD i 0) (f.getD i 0)
  mono : ∀ i j, i ≤ j → j < l.length → f.getD i 0 ≤ f.getD j 0
  done : ∀ i, i < at_ → i < l.length → ∀ y ∈ R rows (l.getD i 0), y ∈ l
  cur : at_ < l.length → ∀ y ∈ pre, y ∈ l
  top : ∀ i j, i < l.length → j < l.length → at_ ≤ i → f.getD j 0 ≤ f.getD i 0 + 1
theorem walk_start (rows : List (List Int)) (p : Int) : Walk rows p [p] [0] 0 [] where
  len := rfl
  nd := by simp
  fst := ⟨rfl, by simp⟩
  dist := fun i hi => by
    have : i = 0 := by simpa using hi
    subst this
    exact ⟨rfl, fun k hk => by simp at hk⟩
  mono := fun i j hij hj => by
    have : j = 0 := by simpa using hj
    subst this
    have : i = 0 := by omega
    subst this
    exact Nat.le_refl _
  done := fun i hi => by omega
  cur := fun _ y hy => by cases hy
  top := fun i j hi hj _ => by
    have : j = 0 := by simpa using hj
    subst this
    simp
theorem getD_mem' {l : List Int} {i : Nat} (h : i < l.length) : l.getD i 0 ∈ l := by rw [getD_of_lt h]; exact List.getElem_mem h
theorem mem_getD' {l : List Int} {x : Int} (h : x ∈ l) : ∃ i, i < l.length ∧ l.getD i 0 = x := by
  obtain ⟨i, hi, e⟩ := List.mem_iff_getElem.mp h
  exact ⟨i, hi, by rw [getD_of_lt hi]; exact e⟩
/-- those nearer than the one whose turn it is have had their turn -/
theorem Walk.near {rows : List (List Int)} {p : Int} {l : List Int} {f : List Nat} {a : Nat} {pre : List Int} (W : Walk rows p l f a pre) (ha : a < l.length) :
    ∀ {j : Nat} {r : Int}, Steps rows p j r → j < f.getD a 0 → ∃ i, i < a ∧ l.getD i 0 = r
  | 0, r, e, hj => by
    have e' : r = p := e
    refine ⟨0, ?_, W.fst.1.trans e'.symm⟩
    rcases Nat.eq_zero_or_pos a with z | z
    · subst z
      have d0 := W.dist 0 ha
      rw [W.fst.1] at d0
      have : f.getD 0 0 = 0 := d0.uniq ⟨rfl, fun k hk => by omega⟩
      omega
    · exact z
  | j + 1, r, ⟨r', hr', hr⟩, hj => by
    obtain ⟨i, hi, ei⟩ := W.near ha hr' (by omega)
    have hm : r ∈ l := W.done i hi (by omega) r (by rw [ei]; exact hr)
    obtain ⟨m, hm, em⟩ := mem_getD' hm
    refine ⟨m, ?_, em⟩
    have dm := W.dist m hm
    rw [em] at dm
    have := dm.le (k := j + 1) ⟨r', hr', hr⟩
    rcases Nat.lt_or_ge m a with c | c
    · exact c
    · have := W.mono a m c hm
      omega
theorem getD_snoc_lt {α : Type} {l : List α} {x d : α} {i : Nat} (h : i < l.length) : (l ++ [x]).getD i d = l.getD i d := by
  rw [List.getD_eq_getElem?_getD, List.getElem?_append_left h, ← List.getD_eq_getElem?_getD]
theorem getD_snoc_eq {α : Type} {l : List α} {x d : α} : (l ++ [x]).getD l.length d = x := by
  rw [List.getD_eq_getElem?_getD, List.getElem?_append_right (Nat.le_refl _)]; simp
/-- one more is met -/
theorem Walk.meet {rows : List (List Int)} {p y : Int} {l : List Int} {f : List Nat} {a : Nat} {pre : List Int} (W : Walk rows p l f a pre) (ha : a < l.length) (hy : y ∈ R rows (l.getD a 0)) (ny : y ∉ l) :
    Dist rows p y (f.getD a 0 + 1) ∧ Walk rows p (l ++ [y]) (f ++ [f.getD a 0 + 1]) a (pre ++ [y]) := by
  have dy : Dist rows p y (f.getD a 0 + 1) := by
    refine ⟨⟨_, (W.dist a ha).is, hy⟩, fun k hk hs => ?_⟩
    cases k with
    | zero =>
      have e : y = p := hs
      exact ny (by rw [e, ← W.fst.1]; exact getD_mem' W.fst.2)
    | succ k =>
      obtain ⟨r, hr, hyr⟩ := hs
      obtain ⟨i, hi, ei⟩ := W.near ha hr (by omega)
      exact ny (W.done i hi (by omega) y (by rw [ei]; exact hyr))
  have ll : (l ++ [y]).length = l.length + 1 := by simp
  have fl : f.length = l.length := W.len
  have fa : ∀ i, i < l.length → (f ++ [f.getD a 0 + 1]).getD i 0 = f.getD i 0 := fun i hi => getD_snoc_lt (by omega)
  have fn : (f ++ [f.getD a 0 + 1]).getD l.length 0 = f.getD a 0 + 1 := by rw [← fl]; exact getD_snoc_eq
  have tp : ∀ j, j < l.length → f.getD j 0 ≤ f.getD a 0 + 1 := fun j hj => W.top a j ha hj (by omega)
  refine ⟨dy, ⟨by simp [fl], ?_, ⟨by rw [getD_snoc_lt W.fst.2]; exact W.fst.1, by omega⟩, fun i hi => ?_, fun i j hij hj => ?_, fun i hi hil z hz => ?_, fun _ z hz => ?_, fun i j hi hj hai => ?_⟩⟩
  · rw [List.nodup_append]
    exact ⟨W.nd, by simp, fun u hu v hv e => ny (by have : v = y := by simpa using hv
                                                    rw [← this, ← e]; exact hu)⟩
  · rcases Nat.lt_or_ge i l.length with c | c
    · rw [getD_snoc_lt c, fa i c]; exact W.dist i c
    · have : i = l.length := by omega
      subst this
      rw [getD_snoc_eq, fn]; exact dy
  · rcases Nat.lt_or_ge j l.length with c | c
    · rw [fa i (by omega), fa j c]; exact W.mono i j hij c
    · have : j = l.length := by omega
      subst this
      rw [fn]
      rcases Nat.lt_or_ge i l.length with d | d
      · rw [fa i d]; exact tp i d
      · have : i = l.length := by omega
        subst this; rw [fn]; exact Nat.le_refl _
  · have c : i < l.length := by omega
    rw [getD_snoc_lt c] at hz
    exact List.mem_append_left _ (W.done i hi c z hz)
  · rcases List.mem_append.mp hz with q | q
    · exact List.mem_append_left _ (W.cur ha z q)
    · exact List.mem_append_right _ q
  · have key : (f ++ [f.getD a 0 + 1]).getD j 0 ≤ f.getD a 0 + 1 := by
      rcases Nat.lt_or_ge j l.length with c | c
      · rw [fa j c]; exact tp j c
      · have : j = l.length := by omega
        subst this; rw [fn]; exact Nat.le_refl _
    rcases Nat.lt_or_ge i l.length with c | c
    · rw [fa i c]
      have := W.mono a i hai c
      omega
    · have : i = l.length := by omega
      subst this
      rw [fn]; omega
/-- one who was met already -/
theorem Walk.skip {rows : List (List Int)} {p y : Int} {l : List Int} {f : List Nat} {a : Nat} {pre : List Int} (W : Walk rows p l f a pre) (hy : y ∈ l) : Walk rows p l f a (pre ++ [y]) :=
  ⟨W.len, W.nd, W.fst, W.dist, W.mono, W.done, fun ha z hz => by
    rcases List.mem_append.mp hz with q | q
    · exact W.cur ha z q
    · have : z = y := by simpa using q
      rw [this]; exact hy, W.top⟩
/-- the turn of the next -/
theorem Walk.next {rows : List (List Int)} {p : Int} {l : List Int} {f : List Nat} {a : Nat} (W : Walk rows p l f a (R rows (l.getD a 0))) : Walk rows p l f (a + 1) [] :=
  ⟨W.len, W.nd, W.fst, W.dist, W.mono, fun i hi hil y hy => by
    by_cases e : i = a
    · subst e; exact W.cur hil y hy
    · exact W.done i (by omega) hil y hy, fun _ z hz => (by cases hz), fun i j hi hj h => W.top i j hi hj (by omega)⟩
theorem Walk.over {rows : List (List Int)} {p : Int} {l : List Int} {f : List Nat} {a : Nat} (W : Walk rows p l f a []) (h : l.length ≤ a) : Walk rows p l f (a + 1) [] :=
  ⟨W.len, W.nd, W.fst, W.dist, W.mono, fun i hi hil y hy => W.done i (by omega) hil y hy, fun _ z hz => (by cases hz), fun i j hi hj h => W.top i j hi hj (by omega)⟩
theorem Walk.rng {rows : List (List Int)} (h : IsHall rows) {p : Int} (hp : 0 ≤ p ∧ p < rows.length) {l : List Int} {f : List Nat} {a : Nat} {pre : List Int} (W : Walk rows p l f a pre) : ∀ x ∈ l, 0 ≤ x ∧ x < rows.length := fun x hx => by
  obtain ⟨i, hi, e⟩ := mem_getD' hx
  have := steps_rng h hp (W.dist i hi).is
  rw [e] at this
  exact this
theorem Walk.few {rows : List (List Int)} (h : IsHall rows) {p : Int} (hp : 0 ≤ p ∧ p < rows.length) {l : List Int} {f : List Nat} {a : Nat} {pre : List Int} (W : Walk rows p l f a pre) : l.length ≤ rows.length :=
  few_of_nodup rows.length l W.nd (W.rng h hp)
/-- at the end: those whom ways reach, with their distance -/
theorem Walk.all {rows : List (List Int)} (h : IsHall rows) {p : Int} (hp : 0 ≤ p ∧ p < rows.length) {l : List Int} {f : List Nat} (W : Walk rows p l f rows.length []) {q : Int} : q ∈ l ↔ Reach rows p q := by
  have few := W.few h hp
  constructor
  · intro hq
    obtain ⟨i, hi, e⟩ := mem_getD' hq
    have := (W.dist i hi).is
    rw [e] at this
    exact ⟨_, this⟩
  · intro hr
    refine reach_in (S := fun x => x ∈ l) (by have := getD_mem' W.fst.2; rw [W.fst.1] at this; exact this) (fun x hx y hy => ?_) hr
    obtain ⟨i, hi, e⟩ := mem_getD' hx
    exact W.done i (by omega) hi y (by rw [e]; exact hy)
/-! ### rounds: those at one distance after the other -/
structure Round (rows : List (List Int)) (p : Int) (d : Nat) (S N : List Int) : Prop where
  nd : S.Nodup
  all : ∀ q, q ∈ S ↔ ∃ k, k ≤ d ∧ Steps rows p k q
  new : ∀ q, q ∈ N ↔ Dist rows p q d
theorem round_start (rows : List (List Int)) (p : Int) : Round rows p 0 [p] [p] where
  nd := by simp
  all := fun q => ⟨fun h => ⟨0, Nat.le_refl _, show q = p by simpa using h⟩, fun ⟨k, hk, hs⟩ => by
    have : k = 0 := by omega
    subst this
    have e : q = p := hs
    simp [e]⟩
  new := fun q => ⟨fun h => ⟨show q = p by simpa using h, fun k hk => by omega⟩, fun h => by
    have e : q = p := h.is
    simp [e]⟩
/-- within a round: of the newest some had their turn, and of the wins of the one whose turn it is some -/
structure InRound (rows : List (List Int)) (p : Int) (d : Nat) (S N S' N' came pre : List Int) : Prop where
  r : Round rows p d S N
  nd : S'.Nodup
  all : ∀ q, q ∈ S' ↔ q ∈ S ∨ q ∈ N'
  new : ∀ q ∈ N', Dist rows p q (d + 1)
  done : ∀ x ∈ came, ∀ y ∈ R rows x, y ∈ S'
  cur : ∀ y ∈ pre, y ∈ S'
theorem Round.begin {rows : List (List Int)} {p : Int} {d : Nat} {S N : List Int} (r : Round rows p d S N) : InRound rows p d S N S [] [] [] :=
  ⟨r, r.nd, fun q => (by simp), fun q h => (by cases h), fun q h => (by cases h), fun q h => (by cases h)⟩
theorem InRound.turn {rows : List (List Int)} {p x : Int} {d : Nat} {S N S' N' came : List Int} (I : InRound rows p d S N S' N' came (R rows x)) : InRound rows p d S N S' N' (came ++ [x]) [] :=
  ⟨I.r, I.nd, I.all, I.new, fun u hu y hy => by
    rcases List.mem_append.mp hu with q | q
    · exact I.done u q y hy
    · have : u = x := by simpa using q
      rw [this] at hy
      exact I.cur y hy, fun y h => by cases h⟩
theorem InRound.old {rows : List (List Int)} {p y : Int} {d : Nat} {S N S' N' came pre : List Int} (I : InRound rows p d S N S' N' came pre) (hy : y ∈ S') : InRound rows p d S N S' N' came (pre ++ [y]) :=
  ⟨I.r, I.nd, I.all, I.new, I.done, fun z hz => by
    rcases List.mem_append.mp hz with q | q
    · exact I.cur z q
    · have : z = y := by simpa using q
      rw [this]; exact hy⟩
theorem InRound.meet {rows : List (List Int)} {p x y : Int} {d : Nat} {S N S' N' came pre : List Int} (I : InRound rows p d S N S' N' came pre) (hx : x ∈ N) (hy : y ∈ R rows x) (ny : y ∉ S') :
    InRound rows p d S N (S' ++ [y]) (N' ++ [y]) came (pre ++ [y]) where
  r := I.r
  nd := by
    rw [List.nodup_append]
    exact ⟨I.nd, by simp, fun u hu v hv e => ny (by have : v = y := by simpa using hv
                                                    rw [← this, ← e]; exact hu)⟩
  all := fun q => by
    simp only [List.mem_append, List.mem_singleton, I.all q]
    constructor
    · rintro ((a | a) | a)
      · exact .inl a
      · exact .inr (.inl a)
      · exact .inr (.inr a)
    · rintro (a | a | a)
      · exact .inl (.inl a)
      · exact .inl (.inr a)
      · exact .inr a
  new := fun q hq => by
    rcases List.mem_append.mp hq with a | a
    · exact I.new q a
    · have : q = y := by simpa using a
      subst this
      refine ⟨⟨x, ((I.r.new x).mp hx).is, hy⟩, fun k hk hs => ny ((I.all q).mpr (.inl ((I.r.all q).mpr ⟨k, by omega, hs⟩)))⟩
  done := fun u hu z hz => List.mem_append_left _ (I.done u hu z hz)
  cur := fun z hz => by
    rcases List.mem_append.mp hz with q | q
    · exact List.mem_append_left _ (I.cur z q)
    · exact List.mem_append_right _ q
theorem InRound.end_ {rows : List (List Int)} {p : Int} {d : Nat} {S N S' N' : List Int} (I : InRound rows p d S N S' N' N []) : Round rows p (d + 1) S' N' where
  nd := I.nd
  all := fun q => by
    rw [I.all]
    constructor
    · rintro (a | a)
      · obtain ⟨k, hk, hs⟩ := (I.r.all q).mp a
        exact ⟨k, by omega, hs⟩
      · exact ⟨d + 1, Nat.le_refl _, (I.new q a).is⟩
    · rintro ⟨k, hk, hs⟩
      obtain ⟨m, hm, hd⟩ := dist_of hs
      by_cases c : m ≤ d
      · exact .inl ((I.r.all q).mpr ⟨m, c, hd.is⟩)
      · have : m = d + 1 := by omega
        subst this
        obtain ⟨r, hr, hq⟩ := hd.pred
        exact (I.all q).mp (I.done r ((I.r.new r).mpr hr) q hq)
  new := fun q => by
    constructor
    · exact I.new q
    · intro hd
      obtain ⟨r, hr, hq⟩ := hd.pred
      rcases (I.all q).mp (I.done r ((I.r.new r).mpr hr) q hq) with a | a
      · obtain ⟨k, hk, hs⟩ := (I.r.all q).mp a
        exact absurd hs (hd.no k (by omega))
      · exact a
theorem Round.reach {rows : List (List Int)} {p : Int} {d : Nat} {S : List Int} (r : Round rows p d S []) {q : Int} : q ∈ S ↔ Reach rows p q := by
  rw [r.all]
  constructor
  · rintro ⟨k, _, h⟩; exact ⟨k, h⟩
  · rintro ⟨k, h⟩
    obtain ⟨j, hj, hs⟩ := no_further (fun q hq => by have := (r.new q).mpr hq; cases this) h
    exact ⟨j, by omega, hs⟩
/-- a way that is as short as can be -/
structure Way (rows : List (List Int)) (p q : Int) (d : Nat) (l : List Int) : Prop where
  len : l.length = d + 1
  fst : l.getD 0 0 = p
  lst : l.getD d 0 = q
  path : Path rows l
theorem way_one (rows : List (List Int)) (p : Int) : Way rows p p 0 [p] := ⟨rfl, rfl, rfl, fun k hk => by simp at hk⟩
theorem Way.snoc {rows : List (List Int)} {p q y : Int} {d : Nat} {l : List Int} (w : Way rows p q d l) (hy : y ∈ R rows q) : Way rows p y (d + 1) (l ++ [y]) := by
  have hl := w.len
  refine ⟨by simp [hl], by rw [getD_snoc_lt (by omega)]; exact w.fst, by rw [← hl]; exact getD_snoc_eq, fun k hk => ?_⟩
  rw [List.length_append, List.length_singleton] at hk
  by_cases c : k + 1 < l.length
  · rw [getD_snoc_lt c, getD_snoc_lt (by omega)]; exact w.path k c
  · have e : k + 1 = l.length := by omega
    have e2 : k = d := by omega
    rw [e, getD_snoc_eq, getD_snoc_lt (by omega), e2, w.lst]
    exact hy
end KH
namespace KH
theorem way_rng {rows : List (List Int)} (h : IsHall rows) {p q : Int} {d : Nat} {l : List Int} (hp : 0 ≤ p ∧ p < rows.length) (w : Way rows p q d l) : ∀ {i : Nat}, i < l.length → 0 ≤ l.getD i 0 ∧ l.getD i 0 < rows.length
  | 0, _ => by rw [w.fst]; exact hp
  | i + 1, hi => (h.rng (way_rng h hp w (by omega)) (w.path i hi)).1
end KH

namespace KH
/-! ### groups, cut by cut -/
def Beats (rows : List (List Int)) (g h : List Int) : Prop := ∀ x ∈ g, ∀ y ∈ h, y ∈ R rows x
structure GroupOk (rows : List (List Int)) (g : List Int) : Prop where
  ne : g ≠ []
  up : g.Pairwise (· ≤ ·)
  conn : ∀ x ∈ g, ∀ y ∈ g, Reach rows x y
structure GInv (rows : List (List Int)) (ord : List Int) (i : Nat) (gs : List (List Int)) (cur : List Int) (c : Nat) : Prop where
  ci : c ≤ i
  perm : gs.flatten.Perm (ord.take c)
  cur : cur = (ord.take i).drop c
  cut : Cut rows ord c
  last : ∀ m, m ≤ i → Cut rows ord m → m ≤ c
  beat : gs.Pairwise (Beats rows)
  ok : ∀ g ∈ gs, GroupOk rows g
theorem cut_zero (rows : List (List Int)) (ord : List Int) : Cut rows ord 0 := fun x hx => by simp at hx
theorem cut_all (rows : List (List Int)) (ord : List Int) : Cut rows ord ord.length := fun x _ y hy => by simp at hy
theorem ginv_start (rows : List (List Int)) (ord : List Int) : GInv rows ord 0 [] [] 0 :=
  ⟨Nat.le_refl _, by simp, by simp, cut_zero rows ord, fun m hm _ => hm, List.Pairwise.nil, fun g hg => by cases hg⟩
theorem take_drop_snoc {ord : List Int} {i c : Nat} (hi : i < ord.length) (hc : c ≤ i) : (ord.take (i + 1)).drop c = (ord.take i).drop c ++ [ord[i]] := by
  rw [take_snoc (List.getElem?_eq_getElem hi), List.drop_append_of_le_length]
  rw [List.length_take]; omega
theorem GInv.stay {rows : List (List Int)} {ord : List Int} {i c : Nat} {gs : List (List Int)} {cur : List Int} (G : GInv rows ord i gs cur c) (hi : i < ord.length) (nc : ¬ Cut rows ord (i + 1)) : GInv rows ord (i + 1) gs (cur ++ [ord[i]]) c :=
  ⟨by have := G.ci; omega, G.perm, by rw [G.cur, take_drop_snoc hi G.ci], G.cut, fun m hm hcut => by
    by_cases e : m = i + 1
    · subst e; exact absurd hcut nc
    · exact G.last m (by omega) hcut, G.beat, G.ok⟩
theorem GInv.close {rows : List (List Int)} (h : IsHall rows) {ord : List Int} {i c : Nat} {gs : List (List Int)} {cur g : List Int} (hp : ord.Perm (nums rows.length)) (hf : Falling rows ord) (G : GInv rows ord i gs cur c) (hi : i < ord.length)
    (yc : Cut rows ord (i + 1)) (hg : g.Perm (cur ++ [ord[i]])) (hs : g.Pairwise (· ≤ ·)) : GInv rows ord (i + 1) (gs ++ [g]) [] (i + 1) := by
  have ci := G.ci
  have e : cur ++ [ord[i]] = (ord.take (i + 1)).drop c := by rw [G.cur, take_drop_snoc hi G.ci]
  have hmem : ∀ x ∈ g, ∃ k, ∃ hk : k < ord.length, c ≤ k ∧ k ≤ i ∧ ord[k] = x := fun x hx => by
    have hx' := hg.mem_iff.mp hx
    rw [e] at hx'
    obtain ⟨j, hj, ej⟩ := List.mem_iff_getElem.mp hx'
    rw [List.length_drop, List.length_take] at hj
    rw [List.getElem_drop, List.getElem_take] at ej
    exact ⟨c + j, by omega, by omega, by omega, ej⟩
  refine ⟨Nat.le_refl _, ?_, by simp, yc, fun m hm _ => hm, ?_, fun g' hg' => ?_⟩
  · rw [List.flatten_append]
    simp only [List.flatten_cons, List.flatten_nil, List.append_nil]
    refine (G.perm.append hg).trans ?_
    rw [e]
    have := List.take_append_drop c (ord.take (i + 1))
    rw [List.take_take, Nat.min_eq_left (by omega)] at this
    rw [this]
  · rw [List.pairwise_append]
    refine ⟨G.beat, List.pairwise_singleton _ _, fun g' hg' h' hh' => ?_⟩
    have : h' = g := by simpa using hh'
    subst this
    intro x hx y hy
    have hx' : x ∈ ord.take c := G.perm.mem_iff.mp (List.mem_flatten.mpr ⟨g', hg', hx⟩)
    obtain ⟨k, hk, h1, h2, ek⟩ := hmem y hy
    refine G.cut x hx' y ?_
    rw [← ek, List.mem_iff_getElem]
    exact ⟨k - c, by rw [List.length_drop]; omega, by rw [List.getElem_drop]; congr 1; omega⟩
  · rcases List.mem_append.mp hg' with q | q
    · exact G.ok g' q
    · have : g' = g := by simpa using q
      subst this
      refine ⟨fun z => ?_, hs, fun x hx y hy => ?_⟩
      · have := hg.length_eq
        rw [z] at this
        simp at this
      · obtain ⟨k, hk, a1, a2, rfl⟩ := hmem x hx
        obtain ⟨l, hl, b1, b2, rfl⟩ := hmem y hy
        exact reach_of_cut h hp hf hk hl fun m hm hcut => Nat.le_trans (G.last m (by omega) hcut) b1
/-- what is told of a hall's groups -/
structure GroupsOk (rows : List (List Int)) (gs : List (List Int)) : Prop where
  perm : gs.flatten.Perm (nums rows.length)
  beat : gs.Pairwise (Beats rows)
  ok : ∀ g ∈ gs, GroupOk rows g
theorem GInv.end_ {rows : List (List Int)} {ord : List Int} {gs : List (List Int)} {cur : List Int} {c : Nat} (hp : ord.Perm (nums rows.length)) (G : GInv rows ord ord.length gs cur c) : GroupsOk rows gs := by
  have e : c = ord.length := Nat.le_antisymm G.ci (G.last _ (Nat.le_refl _) (cut_all rows ord))
  have := G.perm
  rw [e, List.take_length] at this
  exact ⟨this.trans hp, G.beat, G.ok⟩
theorem GroupsOk.nodup {rows : List (List Int)} {gs : List (List Int)} (G : GroupsOk rows gs) : gs.flatten.Nodup := G.perm.nodup_iff.mpr (nums_nodup _)
theorem GroupsOk.rng {rows : List (List Int)} {gs : List (List Int)} (G : GroupsOk rows gs) {g : List Int} (hg : g ∈ gs) {x : Int} (hx : x ∈ g) : 0 ≤ x ∧ x < rows.length := mem_nums.mp (G.perm.mem_iff.mp (List.mem_flatten.mpr ⟨g, hg, hx⟩))
theorem GroupsOk.has {rows : List (List Int)} {gs : List (List Int)} (G : GroupsOk rows gs) {x : Int} (hx : 0 ≤ x ∧ x < rows.length) : ∃ g ∈ gs, x ∈ g := List.mem_flatten.mp (G.perm.mem_iff.mpr (mem_nums.mpr hx))
/-- no way back from a later group -/
theorem no_back {rows : List (List Int)} (h : IsHall rows) {gs : List (List Int)} (G : GroupsOk rows gs) {a b : List (List Int)} (e : gs = a ++ b) {x y : Int} (hx : x ∈ a.flatten) (hy : y ∈ b.flatten) : ¬ Reach rows y x := by
  intro hr
  have nd := G.nodup
  rw [e, List.flatten_append, List.nodup_append] at nd
  have : x ∈ b.flatten := reach_in (S := fun z => z ∈ b.flatten) hy (fun u hu v hv => ?_) hr
  · exact nd.2.2 x hx x this rfl
  · have hur : 0 ≤ u ∧ u < rows.length := mem_nums.mp (G.perm.mem_iff.mp (by rw [e, List.flatten_append]; exact List.mem_append_right _ hu))
    have hvr := (h.rng hur hv).1
    have hm : v ∈ gs.flatten := G.perm.mem_iff.mpr (mem_nums.mpr hvr)
    rw [e, List.flatten_append] at hm
    rcases List.mem_append.mp hm with q | q
    · exfalso
      obtain ⟨g1, hg1, v1⟩ := List.mem_flatten.mp q
      obtain ⟨g2, hg2, u2⟩ := List.mem_flatten.mp hu
      have B := G.beat
      rw [e, List.pairwise_append] at B
      have uv := B.2.2 g1 hg1 g2 hg2 v v1 u u2
      have ne := (h.rng hur hv).2
      exact (h.other hvr hur ne).mp hv uv
    · exact q
/-- a group: those from whom and to whom ways lead -/
theorem GroupsOk.mutual {rows : List (List Int)} (h : IsHall rows) {gs : List (List Int)} (G : GroupsOk rows gs) {g : List Int} (hg : g ∈ gs) {x : Int} (hx : x ∈ g) {q : Int} : q ∈ g ↔ Reach rows x q ∧ Reach rows q x := by
  constructor
  · intro hq; exact ⟨(G.ok g hg).conn x hx q hq, (G.ok g hg).conn q hq x hx⟩
  · rintro ⟨r1, r2⟩
    have hq := Reach.rng h (G.rng hg hx) r1
    obtain ⟨g', hg', q'⟩ := G.has hq
    obtain ⟨a, b, e⟩ := List.append_of_mem hg
    rw [e] at hg'
    rcases List.mem_append.mp hg' with z | z
    · exact absurd r1 (no_back h G (a := a) (b := g :: b) e (List.mem_flatten.mpr ⟨g', z, q'⟩) (List.mem_flatten.mpr ⟨g, List.mem_cons_self, hx⟩))
    · rcases List.mem_cons.mp z with z | z
      · rw [← z]; exact q'
      · exact absurd r2 (no_back h G (a := a ++ [g]) (b := b) (by rw [e]; simp) (List.mem_flatten.mpr ⟨g, by simp, hx⟩) (List.mem_flatten.mpr ⟨g', z, q'⟩))
end KH

namespace KH
/-! ### rings -/
/-- a set of players from each of whom ways lead to each, with all who stand so to them -/
structure Conn (rows : List (List Int)) (g : List Int) : Prop where
  rng : ∀ x ∈ g, 0 ≤ x ∧ x < rows.length
  nd : g.Nodup
  conn : ∀ x ∈ g, ∀ y ∈ g, Reach rows x y
  all : ∀ x ∈ g, ∀ q, Reach rows x q → Reach rows q x → q ∈ g
theorem nodup_part {gs : List (List Int)} (h : gs.flatten.Nodup) {g : List Int} (hg : g ∈ gs) : g.Nodup := by
  obtain ⟨a, b, e⟩ := List.append_of_mem hg
  rw [e, List.flatten_append, List.flatten_cons] at h
  exact ((List.nodup_append.mp (List.nodup_append.mp h).2.1)).1
theorem GroupsOk.conn {rows : List (List Int)} (h : IsHall rows) {gs : List (List Int)} (G : GroupsOk rows gs) {g : List Int} (hg : g ∈ gs) : Conn rows g :=
  ⟨fun x hx => G.rng hg hx, nodup_part G.nodup hg, (G.ok g hg).conn, fun x hx q a b => (G.mutual h hg hx).mpr ⟨a, b⟩⟩
/-- player, second, third: each beat the next, and the last the first -/
def Three (rows : List (List Int)) (p s t : Int) : Prop := s ∈ R rows p ∧ t ∈ R rows s ∧ p ∈ R rows t
theorem Three.mem {rows : List (List Int)} {g : List Int} (C : Conn rows g) {p s t : Int} (hp : p ∈ g) (h : Three rows p s t) : s ∈ g ∧ t ∈ g := by
  have ps : Reach rows p s := Reach.step Reach.refl h.1
  have pt : Reach rows p t := ps.step h.2.1
  have tp : Reach rows t p := Reach.step Reach.refl h.2.2
  have st : Reach rows s t := Reach.step Reach.refl h.2.1
  exact ⟨C.all p hp s ps (st.trans tp), C.all p hp t pt tp⟩
theorem three_is {rows : List (List Int)} (h : IsHall rows) {g : List Int} (C : Conn rows g) {p q : Int} (hp : p ∈ g) (hq : q ∈ g) (ne : q ≠ p) : ∃ s t, Three rows p s t := by
  refine Classical.byContradiction fun no => ?_
  have hpr := C.rng p hp
  have closed : ∀ z, z ∈ R rows p → ∀ y ∈ R rows z, y ∈ R rows p := fun z hz y hy => by
    have hzr := (h.rng hpr hz)
    have hyr := h.rng hzr.1 hy
    have nyp : y ≠ p := fun e => by
      rw [e] at hy
      exact (h.other hpr hzr.1 hzr.2.symm).mp hy hz
    refine (h.other hyr.1 hpr nyp).mpr fun hpy => no ⟨z, y, hz, hy, hpy⟩
  have q1 : q = p ∨ q ∈ R rows p := reach_in (S := fun z => z = p ∨ z ∈ R rows p) (.inl rfl) (fun x hx y hy => by
    rcases hx with e | e
    · rw [e] at hy; exact .inr hy
    · exact .inr (closed x e y hy)) (C.conn p hp q hq)
  have q2 := q1.resolve_left ne
  have : p ∈ R rows p := reach_in (S := fun z => z ∈ R rows p) q2 closed (C.conn q hq p hp)
  exact (h.rng hpr this).2 rfl
/-- a ring of players of g, from p -/
structure Ring (rows : List (List Int)) (g : List Int) (p : Int) (l : List Int) : Prop where
  three : 3 ≤ l.length
  nd : l.Nodup
  sub : ∀ x ∈ l, x ∈ g
  fst : l.getD 0 0 = p
  next : ∀ k, k + 1 < l.length → l.getD (k + 1) 0 ∈ R rows (l.getD k 0)
  back : l.getD 0 0 ∈ R rows (l.getD (l.length - 1) 0)
theorem ring_three {rows : List (List Int)} (h : IsHall rows) {g : List Int} (C : Conn rows g) {p s t : Int} (hp : p ∈ g) (hT : Three rows p s t) : Ring rows g p [p, s, t] := by
  obtain ⟨ms, mt⟩ := hT.mem C hp
  have pr := C.rng p hp
  have sr := C.rng s ms
  have a := (h.rng pr hT.1).2
  have b := (h.rng sr hT.2.1).2
  have c := (h.rng (C.rng t mt) hT.2.2).2
  refine ⟨by simp, ?_, fun x hx => ?_, rfl, fun k hk => ?_, hT.2.2⟩
  · simp only [List.nodup_cons, List.mem_cons, List.not_mem_nil, or_false, not_or, List.nodup_nil, and_true, not_false_eq_true]
    exact ⟨⟨fun e => a e.symm, c⟩, fun e => b e.symm⟩
  · simp only [List.mem_cons, List.not_mem_nil, or_false] at hx
    rcases hx with e | e | e <;> rw [e] <;> assumption
  · match k, hk with
    | 0, _ => exact hT.1
    | 1, _ => exact hT.2.1
theorem Ring.few {rows : List (List Int)} {g l : List Int} {p : Int} (r : Ring rows g p l) : l.length ≤ g.length := sub_len r.nd r.sub
theorem Ring.pin {rows : List (List Int)} {g l : List Int} {p : Int} (r : Ring rows g p l) : p ∈ l := by
  have := r.three
  have := getD_mem' (l := l) (i := 0) (by omega)
  rw [r.fst] at this
  exact this
/-- where another one fits in -/
structure Fits (rows : List (List Int)) (l : List Int) (z : Int) (k : Nat) : Prop where
  lo : 1 ≤ k
  hi : k ≤ l.length
  won : z ∈ R rows (l.getD (k - 1) 0)
  lost : (if k = l.length then l.getD 0 0 else l.getD k 0) ∈ R rows z
theorem ring_insert {rows : List (List Int)} {g l : List Int} {p z : Int} {k : Nat} (r : Ring rows g p l) (hz : z ∈ g) (nz : z ∉ l) (F : Fits rows l z k) : Ring rows g p (l.take k ++ z :: l.drop k) := by
  have h3 := r.three
  have lo := F.lo
  have hi := F.hi
  have hlen : (l.take k ++ z :: l.drop k).length = l.length + 1 := by simp; omega
  have gd : ∀ i, (l.take k ++ z :: l.drop k).getD i 0 = if i < k then l.getD i 0 else if i = k then z else l.getD (i - 1) 0 := fun i => getD_insert hi
  refine ⟨by omega, ?_, fun x hx => ?_, ?_, fun i hi' => ?_, ?_⟩
  · have pm : (l.take k ++ z :: l.drop k).Perm (z :: l) := by
      have a : (l.take k ++ z :: l.drop k).Perm (z :: (l.take k ++ l.drop k)) := List.perm_middle
      rw [List.take_append_drop] at a
      exact a
    exact pm.nodup_iff.mpr (List.nodup_cons.mpr ⟨nz, r.nd⟩)
  · rcases List.mem_append.mp hx with q | q
    · exact r.sub x (List.mem_of_mem_take q)
    · rcases List.mem_cons.mp q with e | e
      · rw [e]; exact hz
      · exact r.sub x (List.mem_of_mem_drop e)
  · rw [gd, if_pos (by omega)]; exact r.fst
  · rw [hlen] at hi'
    rw [gd, gd]
    by_cases a : i + 1 < k
    · rw [if_pos a, if_pos (by omega)]; exact r.next i (by omega)
    · rw [if_neg a]
      by_cases b : i + 1 = k
      · rw [if_pos b, if_pos (by omega)]
        have := F.won
        rw [show k - 1 = i by omega] at this
        exact this
      · rw [if_neg b]
        by_cases c : i = k
        · rw [if_neg (by omega), if_pos c, show i + 1 - 1 = k by omega]
          have := F.lost
          rw [if_neg (by omega)] at this
          exact this
        · rw [if_neg (by omega), if_neg c, show i + 1 - 1 = (i - 1) + 1 by omega]
          exact r.next (i - 1) (by omega)
  · have e0 : (l.take k ++ z :: l.drop k).getD 0 0 = l.getD 0 0 := by rw [gd, if_pos (by omega)]
    have e1 : (l.take k ++ z :: l.drop k).getD l.length 0 = if k = l.length then z else l.getD (l.length - 1) 0 := by
      rw [gd, if_neg (by omega)]
      by_cases c : k = l.length
      · rw [if_pos c.symm, if_pos c]
      · rw [if_neg (fun e => c e.symm), if_neg c]
    rw [hlen, e0, show l.length + 1 - 1 = l.length by omega, e1]
    by_cases c : k = l.length
    · rw [if_pos c]
      have := F.lost
      rw [if_pos c] at this
      exact this
    · rw [if_neg c]; exact r.back
/-- none fits in: each other one lost to all, or won against all -/
theorem all_or_none {rows : List (List Int)} (h : IsHall rows) {g l : List Int} {p z : Int} (C : Conn rows g) (r : Ring rows g p l) (hz : z ∈ g) (nz : z ∉ l) (nf : ∀ k, ¬ Fits rows l z k) :
    (∀ x ∈ l, z ∈ R rows x) ∨ (∀ x ∈ l, x ∈ R rows z) := by
  have h3 := r.three
  have zr := C.rng z hz
  have go : ∀ x ∈ l, z ∉ R rows x → x ∈ R rows z := fun x hx no => (h.other (C.rng x (r.sub x hx)) zr (fun e => nz (e ▸ hx))).mpr no
  have stp : ∀ k, k + 1 < l.length → z ∈ R rows (l.getD k 0) → z ∈ R rows (l.getD (k + 1) 0) := fun k hk w => Classical.byContradiction fun no =>
    nf (k + 1) ⟨by omega, by omega, w, by rw [if_neg (by omega)]; exact go _ (getD_mem' hk) no⟩
  have wrap : z ∈ R rows (l.getD (l.length - 1) 0) → z ∈ R rows (l.getD 0 0) := fun w => Classical.byContradiction fun no =>
    nf l.length ⟨by omega, Nat.le_refl _, w, by rw [if_pos rfl]; exact go _ (getD_mem' (by omega)) no⟩
  have up : ∀ j k, k + j < l.length → z ∈ R rows (l.getD k 0) → z ∈ R rows (l.getD (k + j) 0) := by
    intro j
    induction j with
    | zero => intro k _ w; exact w
    | succ j ih => intro k hk w; exact stp (k + j) (by omega) (ih k (by omega) w)
  by_cases c : ∃ x ∈ l, z ∈ R rows x
  · left
    obtain ⟨x, hx, w⟩ := c
    obtain ⟨k, hk, e⟩ := mem_getD' hx
    rw [← e] at w
    have w1 := up (l.length - 1 - k) k (by omega) w
    rw [show k + (l.length - 1 - k) = l.length - 1 by omega] at w1
    have w0 := wrap w1
    intro y hy
    obtain ⟨m, hm, em⟩ := mem_getD' hy
    have := up m 0 (by omega) w0
    rw [Nat.zero_add, em] at this
    exact this
  · right
    intro x hx
    exact go x hx fun w => c ⟨x, hx, w⟩
/-- none fits in: one who lost and one who won fit in together -/
theorem two_fit {rows : List (List Int)} (h : IsHall rows) {g l : List Int} {p : Int} (C : Conn rows g) (r : Ring rows g p l) (more : l.length < g.length) (nf : ∀ z ∈ g, z ∉ l → ∀ k, ¬ Fits rows l z k) :
    ∃ s ∈ g, s ∉ l ∧ ∃ t, Three rows p s t := by
  have h3 := r.three
  have kind : ∀ z ∈ g, z ∉ l → (∀ x ∈ l, z ∈ R rows x) ∨ (∀ x ∈ l, x ∈ R rows z) := fun z hz nz => all_or_none h C r hz nz (nf z hz nz)
  obtain ⟨o, ho, no⟩ : ∃ o ∈ g, o ∉ l := Classical.byContradiction fun c => by
    have := sub_len C.nd (m := l) fun x hx => Classical.byContradiction fun n => c ⟨x, hx, n⟩
    omega
  have hpl := r.pin
  have hp := r.sub p hpl
  -- what lies outside is left for good
  have out : ∀ z0 ∈ g, ∀ u, u ∉ g → Reach rows z0 u → ∀ v ∈ R rows u, v ∉ g ∧ Reach rows z0 v := fun z0 h0 u hu ru v hv => by
    refine ⟨fun vg => hu (C.all z0 h0 u ru ?_), ru.step hv⟩
    exact Reach.trans (Reach.step Reach.refl hv) (C.conn v vg z0 h0)
  -- one who lost
  obtain ⟨lo, hlo, nlo, llo⟩ : ∃ z ∈ g, z ∉ l ∧ ∀ x ∈ l, z ∈ R rows x := Classical.byContradiction fun c => by
    have win : ∀ z ∈ g, z ∉ l → ∀ x ∈ l, x ∈ R rows z := fun z hz nz => (kind z hz nz).resolve_left fun q => c ⟨z, hz, nz, q⟩
    have := reach_in (S := fun u => u ∈ l ∨ u ∉ g ∧ Reach rows p u) (.inl hpl) (fun u hu v hv => ?_) (C.conn p hp o ho)
    · rcases this with q | q
      · exact no q
      · exact q.1 ho
    · rcases hu with q | q
      · by_cases vg : v ∈ g
        · by_cases vl : v ∈ l
          · exact .inl vl
          · exfalso
            have ug := r.sub u q
            have := win v vg vl u q
            exact (h.other (C.rng v vg) (C.rng u ug) (fun e => vl (e ▸ q))).mp hv this
        · exact .inr ⟨vg, (C.conn p hp u (r.sub u q)).step hv⟩
      · exact .inr (out p hp u q.1 q.2 v hv)
  -- from one who lost to one who won
  refine Classical.byContradiction fun c => ?_
  have noedge : ∀ s ∈ g, s ∉ l → (∀ x ∈ l, s ∈ R rows x) → ∀ t ∈ R rows s, p ∉ R rows t := fun s hs ns ls t ht hpt => c ⟨s, hs, ns, t, ls p hpl, ht, hpt⟩
  have := reach_in (S := fun u => (u ∈ g ∧ u ∉ l ∧ ∀ x ∈ l, u ∈ R rows x) ∨ u ∉ g ∧ Reach rows lo u) (.inl ⟨hlo, nlo, llo⟩) (fun u hu v hv => ?_) (C.conn lo hlo p hp)
  · rcases this with q | q
    · exact q.2.1 hpl
    · exact q.1 hp
  · rcases hu with ⟨ug, un, ul⟩ | q
    · by_cases vg : v ∈ g
      · have vl : v ∉ l := fun q => by
          have := ul v q
          exact (h.other (C.rng u ug) (C.rng v vg) (fun e => un (e ▸ q))).mp this hv
        rcases kind v vg vl with q | q
        · exact .inl ⟨vg, vl, q⟩
        · exact absurd (q p hpl) (noedge u ug un ul v hv)
      · exact .inr ⟨vg, (C.conn lo hlo u ug).step hv⟩
    · exact .inr (out lo hlo u q.1 q.2 v hv)
theorem ring_two {rows : List (List Int)} (h : IsHall rows) {g l : List Int} {p s t : Int} (C : Conn rows g) (r : Ring rows g p l) (nf : ∀ z ∈ g, z ∉ l → ∀ k, ¬ Fits rows l z k) (hs : s ∈ g) (ns : s ∉ l) (hT : Three rows p s t) :
    Ring rows g p ([p, s, t] ++ l.drop 2) := by
  have h3 := r.three
  have hpl := r.pin
  have hp := r.sub p hpl
  obtain ⟨_, ht⟩ := hT.mem C hp
  have lost : ∀ x ∈ l, s ∈ R rows x := (all_or_none h C r hs ns (nf s hs ns)).resolve_right fun q =>
    (h.other (C.rng p hp) (C.rng s hs) (fun e => ns (e ▸ hpl))).mp (q p hpl) hT.1
  have nt : t ∉ l := fun q => (h.other (C.rng s hs) (C.rng t ht) (fun e => ns (e ▸ q))).mp (lost t q) hT.2.1
  have won : ∀ x ∈ l, x ∈ R rows t := (all_or_none h C r ht nt (nf t ht nt)).resolve_left fun q =>
    (h.other (C.rng p hp) (C.rng t ht) (fun e => nt (e ▸ hpl))).mp hT.2.2 (q p hpl)
  have nst : t ≠ s := (h.rng (C.rng s hs) hT.2.1).2
  obtain ⟨a, b, m, rfl⟩ : ∃ a b m, l = a :: b :: m := by
    match l, h3 with
    | a :: b :: c :: m, _ => exact ⟨a, b, c :: m, rfl⟩
  have ea : a = p := r.fst
  subst ea
  have nd := r.nd
  rw [List.nodup_cons, List.nodup_cons] at nd
  simp only [List.mem_cons, not_or] at ns nt nd
  have hm : m ≠ [] := fun e => by rw [e] at h3; simp at h3
  have hml : 0 < m.length := List.length_pos_iff.mpr hm
  show Ring rows g a (a :: s :: t :: m)
  refine ⟨by simp, ?_, fun x hx => ?_, rfl, fun k hk => ?_, ?_⟩
  · simp only [List.nodup_cons, List.mem_cons, not_or]
    exact ⟨⟨fun e => ns.1 e.symm, fun e => nt.1 e.symm, nd.1.2⟩, ⟨nst.symm, ns.2.2⟩, nt.2.2, nd.2.2⟩
  · simp only [List.mem_cons] at hx
    rcases hx with e | e | e | e
    · rw [e]; exact hp
    · rw [e]; exact hs
    · rw [e]; exact ht
    · exact r.sub x (by simp [e])
  · match k, hk with
    | 0, _ => exact hT.1
    | 1, _ => exact hT.2.1
    | 2, _ =>
      refine won _ ?_
      show m.getD 0 0 ∈ _
      have := getD_mem' hml
      simp only [List.mem_cons]
      exact .inr (.inr this)
    | k + 3, hk =>
      have := r.next (k + 2) (by simp only [List.length_cons] at hk ⊢; omega)
      exact this
  · have := r.back
    simp only [List.length_cons] at this ⊢
    rw [show m.length + 1 + 1 - 1 = (m.length - 1) + 2 by omega] at this
    rw [show m.length + 1 + 1 + 1 - 1 = (m.length - 1) + 3 by omega]
    exact this
end KH

namespace KH
/-! ### rings turned -/
theorem rowAt_nodup {rows : List (List Int)} (h : IsHall rows) {i : Nat} (hi : i < rows.length) : (rowAt rows i).Nodup :=
  List.nodup_iff_pairwise_ne.mpr ((h.beat i hi).1.imp fun a e => by omega)
/-- halls of as many players with the same wins of each against each are the same -/
theorem hall_ext {rows rows' : List (List Int)} (h : IsHall rows) (h' : IsHall rows') (hl : rows.length = rows'.length) (he : ∀ i : Nat, i < rows.length → ∀ x, x ∈ rowAt rows i ↔ x ∈ rowAt rows' i) : rows = rows' := by
  refine List.ext_getElem hl fun i h1 h2 => ?_
  have e1 : rowAt rows i = rows[i] := by unfold rowAt; simp [List.getD_eq_getElem?_getD, h1]
  have e2 : rowAt rows' i = rows'[i] := by unfold rowAt; simp [List.getD_eq_getElem?_getD, h2]
  rw [← e1, ← e2]
  refine sorted_uniq ?_ ((h.beat i h1).1.imp fun a => by omega) ((h'.beat i h2).1.imp fun a => by omega)
  exact (List.perm_ext_iff_of_nodup (rowAt_nodup h h1) (rowAt_nodup h' h2)).mpr (he i h1)
/-- x against y is one of the ring's three -/
def OnRing (a b c x y : Int) : Prop := (x = a ∧ y = b) ∨ (x = b ∧ y = c) ∨ (x = c ∧ y = a)
/-- rows' is rows with the ring a, b, c turned -/
structure TurnedBy (rows rows' : List (List Int)) (a b c : Int) : Prop where
  hall : IsHall rows'
  len : rows'.length = rows.length
  rel : ∀ x : Int, 0 ≤ x → x < rows.length → ∀ y : Int, y ∈ R rows' x ↔ (¬ OnRing a b c x y ∧ (OnRing a b c y x ∨ y ∈ R rows x))
theorem turned_uniq {rows r1 r2 : List (List Int)} {a b c : Int} (h1 : TurnedBy rows r1 a b c) (h2 : TurnedBy rows r2 a b c) : r1 = r2 := by
  refine hall_ext h1.hall h2.hall (h1.len.trans h2.len.symm) fun i hi x => ?_
  have l1 := h1.len
  have e1 : ∀ r : List (List Int), R r (i : Int) = rowAt r i := fun r => by unfold R rowAt; rw [Int.toNat_natCast]
  have q1 := h1.rel (i : Int) (by omega) (by omega) x
  have q2 := h2.rel (i : Int) (by omega) (by omega) x
  rw [e1] at q1 q2
  exact q1.trans q2.symm
theorem turned_back {rows rows' : List (List Int)} {a b c : Int} (h : IsHall rows) (T : TurnedBy rows rows' a b c) (T3 : Three rows a b c) (ra : 0 ≤ a ∧ a < rows.length) (rb : 0 ≤ b ∧ b < rows.length) (rc : 0 ≤ c ∧ c < rows.length) : TurnedBy rows' rows c b a := by
  obtain ⟨t1, t2, t3⟩ := T3
  have nab := (h.rng ra t1).2
  have nbc := (h.rng rb t2).2
  have nca := (h.rng rc t3).2
  have n1 : a ∉ R rows b := fun z => (h.other rb ra nab).mp t1 z
  have n2 : b ∉ R rows c := fun z => (h.other rc rb nbc).mp t2 z
  have n3 : c ∉ R rows a := fun z => (h.other ra rc nca).mp t3 z
  refine ⟨h, T.len.symm, fun x hx0 hx1 y => ?_⟩
  rw [T.len] at hx1
  have q := T.rel x hx0 hx1 y
  rw [q]
  unfold OnRing
  constructor
  · intro hy
    refine ⟨?_, ?_⟩
    · rintro (⟨rfl, rfl⟩ | ⟨rfl, rfl⟩ | ⟨rfl, rfl⟩)
      · exact n2 hy
      · exact n1 hy
      · exact n3 hy
    · by_cases o : (x = a ∧ y = b) ∨ (x = b ∧ y = c) ∨ (x = c ∧ y = a)
      · left
        rcases o with ⟨rfl, rfl⟩ | ⟨rfl, rfl⟩ | ⟨rfl, rfl⟩
        · exact .inr (.inl ⟨rfl, rfl⟩)
        · exact .inl ⟨rfl, rfl⟩
        · exact .inr (.inr ⟨rfl, rfl⟩)
      · exact .inr ⟨o, .inr hy⟩
  · rintro ⟨ho, hy⟩
    rcases hy with (⟨rfl, rfl⟩ | ⟨rfl, rfl⟩ | ⟨rfl, rfl⟩) | ⟨no, hy⟩
    · exact t2
    · exact t1
    · exact t3
    · rcases hy with (⟨rfl, rfl⟩ | ⟨rfl, rfl⟩ | ⟨rfl, rfl⟩) | hy
      · exact absurd (.inr (.inl ⟨rfl, rfl⟩)) ho
      · exact absurd (.inl ⟨rfl, rfl⟩) ho
      · exact absurd (.inr (.inr ⟨rfl, rfl⟩)) ho
      · exact hy
end KH

namespace KH
/-! ### one win turned -/
theorem R_nat' (rows : List (List Int)) (i : Nat) : R rows (i : Int) = rowAt rows i := by unfold R rowAt; rw [Int.toNat_natCast]
theorem rm_mem' : ∀ {ns : List Int} {k : Int}, k ∈ ns → ∃ j, ns[j]? = some k ∧ (∀ i, i < j → ns[i]? ≠ some k) ∧ ns.eraseIdx j = ns.erase k
  | x :: ns, k, h => by
    by_cases e : x = k
    · exact ⟨0, by rw [e]; rfl, fun i hi => by omega, by rw [e, List.erase_cons_head]; rfl⟩
    · have h' : k ∈ ns := by
        rcases List.mem_cons.mp h with q | q
        · exact absurd q.symm e
        · exact q
      obtain ⟨j, a, b, c⟩ := rm_mem' h'
      refine ⟨j + 1, by simpa using a, fun i hi => ?_, ?_⟩
      · cases i with
        | zero => intro z; exact e (by simpa using z)
        | succ i => simpa using b i (by omega)
      · rw [List.eraseIdx_cons_succ, c, List.erase_cons_tail (by simpa using e)]
theorem rowAt_set' {rows : List (List Int)} {i j : Nat} {r : List Int} (h : i < rows.length) : rowAt (rows.set i r) j = if j = i then r else rowAt rows j := by
  unfold rowAt
  rw [List.getD_eq_getElem?_getD, List.getD_eq_getElem?_getD, List.getElem?_set]
  by_cases e : j = i
  · subst e; rw [if_pos rfl, if_pos h, if_pos rfl]; rfl
  · rw [if_neg (Ne.symm e), if_neg e]
theorem turn_hall' {rows : List (List Int)} (h : IsHall rows) {a b : Nat} (ha : a < rows.length) (hb : b < rows.length) (hm : (b : Int) ∈ rowAt rows a) {ns : List Int} (hp : ns.Perm (rowAt rows b ++ [(a : Int)])) (hs : ns.Pairwise (· ≤ ·)) :
    IsHall ((rows.set a ((rowAt rows a).erase (b : Int))).set b ns) := by
  have ne : a ≠ b := fun z => ((h.beat a ha).2 _ hm).2.2 (by rw [z])
  have hnb : (a : Int) ∉ rowAt rows b := fun m => by
    have := (h.other (u := (a : Int)) (v := (b : Int)) ⟨by omega, by omega⟩ ⟨by omega, by omega⟩ (by omega)).mp (by rw [R_nat']; exact m)
    rw [R_nat'] at this
    exact this hm
  obtain ⟨A1, A2⟩ := h.beat a ha
  obtain ⟨B1, B2⟩ := h.beat b hb
  have ndA : (rowAt rows a).Nodup := List.nodup_iff_pairwise_ne.mpr (A1.imp fun h e => by omega)
  have ndB : (rowAt rows b).Nodup := List.nodup_iff_pairwise_ne.mpr (B1.imp fun h e => by omega)
  have len : ((rows.set a ((rowAt rows a).erase (b : Int))).set b ns).length = rows.length := by rw [List.length_set, List.length_set]
  have row : ∀ i, rowAt ((rows.set a ((rowAt rows a).erase (b : Int))).set b ns) i = if i = b then ns else if i = a then (rowAt rows a).erase (b : Int) else rowAt rows i := fun i => by
    rw [rowAt_set' (by rw [List.length_set]; exact hb), rowAt_set' ha]
  have mns : ∀ x, x ∈ ns ↔ x ∈ rowAt rows b ∨ x = (a : Int) := fun x => by rw [hp.mem_iff, List.mem_append]; simp
  refine ⟨by rw [len]; exact h.lo, by rw [len]; exact h.hi, fun i hi => ?_, fun i j hji hi => ?_⟩
  · rw [len] at hi
    rw [len, row]
    by_cases c : i = b
    · rw [if_pos c, c]
      have nd : ns.Nodup := hp.nodup_iff.mpr (by
        rw [List.nodup_append]
        exact ⟨ndB, by simp, fun x hx y hy e => hnb (by rw [show y = (a : Int) by simpa using hy] at e; exact e ▸ hx)⟩)
      refine ⟨?_, fun x hx => ?_⟩
      · refine List.Pairwise.imp ?_ (hs.and (List.nodup_iff_pairwise_ne.mp nd))
        rintro x y ⟨q1, q2⟩
        omega
      · rcases (mns x).mp hx with q | q
        · exact B2 x q
        · rw [q]; exact ⟨by omega, by omega, by omega⟩
    · rw [if_neg c]
      by_cases d : i = a
      · rw [if_pos d, d]
        exact ⟨A1.sublist List.erase_sublist, fun x hx => A2 x (List.mem_of_mem_erase hx)⟩
      · rw [if_neg d]; exact h.beat i hi
  · rw [len] at hi
    have o := h.one i j hji hi
    rw [row, row]
    have mE : ∀ x : Int, x ∈ (rowAt rows a).erase (b : Int) ↔ x ≠ (b : Int) ∧ x ∈ rowAt rows a := fun x => List.Nodup.mem_erase_iff ndA
    by_cases c1 : i = b
    · subst c1
      rw [if_pos rfl, if_neg (by omega), mns]
      by_cases c2 : j = a
      · subst c2
        rw [if_pos rfl, mE]
        exact ⟨fun _ z => z.1 rfl, fun _ => .inr rfl⟩
      · rw [if_neg c2, ← o]
        exact ⟨fun q => q.elim id (fun q => by omega), .inl⟩
    · rw [if_neg c1]
      by_cases c2 : j = b
      · subst c2
        rw [if_pos rfl, mns]
        by_cases c3 : i = a
        · subst c3
          rw [if_pos rfl, mE]
          exact ⟨fun q => absurd rfl q.1, fun q => absurd (.inr rfl) q⟩
        · rw [if_neg c3, o]
          exact ⟨fun q z => z.elim q (fun z => by omega), fun q z => q (.inl z)⟩
      · rw [if_neg c2]
        by_cases c3 : i = a
        · subst c3
          rw [if_pos rfl, if_neg (by omega), mE, ← o]
          exact ⟨fun q => q.2, fun q => ⟨by omega, q⟩⟩
        · rw [if_neg c3]
          by_cases c4 : j = a
          · subst c4
            rw [if_pos rfl, mE, o]
            exact ⟨fun q z => q z.2, fun q z => q ⟨by omega, z⟩⟩
          · rw [if_neg c4]; exact o

/-- rows' is rows with the win of x against y turned -/
structure FlipBy (rows rows' : List (List Int)) (x y : Int) : Prop where
  hall : IsHall rows'
  len : rows'.length = rows.length
  rel : ∀ u : Int, 0 ≤ u → u < rows.length → ∀ v : Int, v ∈ R rows' u ↔ (¬ (u = x ∧ v = y) ∧ ((u = y ∧ v = x) ∨ v ∈ R rows u))
theorem flip_of {rows : List (List Int)} (h : IsHall rows) {a b : Nat} (ha : a < rows.length) (hb : b < rows.length) (hm : (b : Int) ∈ rowAt rows a) {ns : List Int} (hp : ns.Perm (rowAt rows b ++ [(a : Int)])) (hs : ns.Pairwise (· ≤ ·)) :
    FlipBy rows ((rows.set a ((rowAt rows a).erase (b : Int))).set b ns) (a : Int) (b : Int) := by
  have len : ((rows.set a ((rowAt rows a).erase (b : Int))).set b ns).length = rows.length := by rw [List.length_set, List.length_set]
  refine ⟨turn_hall' h ha hb hm hp hs, len, fun u u0 u1 v => ?_⟩
  obtain ⟨i, rfl⟩ : ∃ i : Nat, u = (i : Int) := ⟨u.toNat, by omega⟩
  have ne : a ≠ b := fun z => ((h.beat a ha).2 _ hm).2.2 (by rw [z])
  rw [R_nat', R_nat', rowAt_set' (by rw [List.length_set]; exact hb), rowAt_set' ha]
  have ndA := rowAt_nodup h ha
  by_cases c : i = b
  · subst c
    rw [if_pos rfl, hp.mem_iff, List.mem_append]
    constructor
    · rintro (q | q)
      · exact ⟨fun z => by omega, .inr q⟩
      · exact ⟨fun z => by omega, .inl ⟨rfl, by simpa using q⟩⟩
    · rintro ⟨_, q | q⟩
      · exact .inr (by simp [q.2])
      · exact .inl q
  · rw [if_neg c]
    by_cases d : i = a
    · subst d
      rw [if_pos rfl, List.Nodup.mem_erase_iff ndA]
      constructor
      · rintro ⟨q1, q2⟩
        exact ⟨fun z => q1 z.2, .inr q2⟩
      · rintro ⟨q1, q2 | q2⟩
        · omega
        · exact ⟨fun z => q1 ⟨rfl, z⟩, q2⟩
    · rw [if_neg d]
      constructor
      · exact fun q => ⟨fun z => by omega, .inr q⟩
      · rintro ⟨_, q | q⟩
        · omega
        · exact q
/-- the three wins of a ring turned, one behind the other -/
theorem flips_turn {r0 r1 r2 r3 : List (List Int)} {a b c : Int} (h : IsHall r0) (T3 : Three r0 a b c) (ra : 0 ≤ a ∧ a < r0.length) (rb : 0 ≤ b ∧ b < r0.length) (rc : 0 ≤ c ∧ c < r0.length) (f1 : FlipBy r0 r1 a b) (f2 : FlipBy r1 r2 b c) (f3 : FlipBy r2 r3 c a) : TurnedBy r0 r3 a b c := by
  obtain ⟨t1, t2, t3⟩ := T3
  have nab := (h.rng ra t1).2
  have nbc := (h.rng rb t2).2
  have nca := (h.rng rc t3).2
  have l1 := f1.len
  have l2 := f2.len
  have l3 := f3.len
  refine ⟨f3.hall, by omega, fun u u0 u1 v => ?_⟩
  rw [f3.rel u u0 (by omega) v, f2.rel u u0 (by omega) v, f1.rel u u0 u1 v]
  unfold OnRing
  constructor
  · rintro ⟨x1, x2 | ⟨x2, x3 | ⟨x3, x4 | x4⟩⟩⟩
    · refine ⟨?_, .inl (.inr (.inr ⟨x2.2, x2.1⟩))⟩
      omega
    · refine ⟨?_, .inl (.inr (.inl ⟨x3.2, x3.1⟩))⟩
      omega
    · refine ⟨?_, .inl (.inl ⟨x4.2, x4.1⟩)⟩
      omega
    · refine ⟨?_, .inr x4⟩
      omega
  · rintro ⟨x1, (x2 | x2 | x2) | x2⟩
    · exact ⟨by omega, .inr ⟨by omega, .inr ⟨by omega, .inl ⟨x2.2, x2.1⟩⟩⟩⟩
    · exact ⟨by omega, .inr ⟨by omega, .inl ⟨x2.2, x2.1⟩⟩⟩
    · exact ⟨by omega, .inl ⟨x2.2, x2.1⟩⟩
    · exact ⟨by omega, .inr ⟨by omega, .inr ⟨by omega, .inr x2⟩⟩⟩
end KH

namespace KH
open PySem L2
/-! ### texts of halls, read -/
theorem perm_of_nd {l m : List Int} (h1 : l.Nodup) (h2 : m.Nodup) (h : ∀ x, x ∈ l ↔ x ∈ m) : l.Perm m := (List.perm_ext_iff_of_nodup h1 h2).mpr h
def headN (n : Nat) : List Nat := (headS n).cps.toList
theorem head_few : ∀ n : Nat, n ≤ 12 → (headN n).length ≤ 3 ∧ 1 ≤ (headN n).length := by decide +kernel
theorem head_asc : ∀ n : Nat, n ≤ 12 → ∀ c ∈ headN n, c < 128 := by decide +kernel
theorem head_one : ∀ n : Nat, n ≤ 12 → ∀ m : Nat, m ≤ 12 → (headN n).isPrefixOf (headN m) = true → n = m := by decide +kernel
theorem head_uniq {n m : Nat} {l : List Nat} (hn : n ≤ 12) (hm : m ≤ 12) (h1 : (headN n).isPrefixOf l = true) (h2 : (headN m).isPrefixOf l = true) : n = m := by
  rw [List.isPrefixOf_iff_prefix] at h1 h2
  rcases Nat.le_total (headN n).length (headN m).length with c | c
  · exact head_one n hn m hm (List.isPrefixOf_iff_prefix.mpr (List.prefix_of_prefix_length_le h1 h2 c))
  · exact (head_one m hm n hn (List.isPrefixOf_iff_prefix.mpr (List.prefix_of_prefix_length_le h2 h1 c))).symm
def IsSigns (sg : List Nat) : Prop := ∀ c ∈ sg, c = 60 ∨ c = 62
/-- the text l writes the number n and the signs sg -/
structure Wr (l : List Nat) (n : Nat) (sg : List Nat) : Prop where
  lo : 1 ≤ n
  hi : n ≤ 12
  eq : l = headN n ++ sg
  len : sg.length = (plTo n n).length
  ok : IsSigns sg
theorem sg_count : ∀ sg : List Nat, sg.countP (· == 62) + sg.countP (· == 60) ≤ sg.length ∧ (sg.countP (· == 62) + sg.countP (· == 60) = sg.length ↔ IsSigns sg)
  | [] => ⟨by simp, by simp [IsSigns]⟩
  | c :: r => by
    obtain ⟨a, b⟩ := sg_count r
    rw [List.countP_cons, List.countP_cons, List.length_cons]
    by_cases h2 : c = 62
    · subst h2
      refine ⟨by simp; omega, ?_⟩
      constructor
      · intro e d hd
        rcases List.mem_cons.mp hd with z | z
        · exact .inr z
        · exact b.mp (by simp at e; omega) d z
      · intro e
        have := b.mpr fun d hd => e d (by simp [hd])
        simp
        omega
    · by_cases h0 : c = 60
      · subst h0
        refine ⟨by simp; omega, ?_⟩
        constructor
        · intro e d hd
          rcases List.mem_cons.mp hd with z | z
          · exact .inl z
          · exact b.mp (by simp at e; omega) d z
        · intro e
          have := b.mpr fun d hd => e d (by simp [hd])
          simp
          omega
      · refine ⟨by simp [h0, h2]; omega, ?_⟩
        constructor
        · intro e
          simp [h0, h2] at e
          omega
        · intro e
          rcases e c (by simp) with z | z
          · exact absurd z h0
          · exact absurd z h2
theorem pl_nodup : ∀ n : Nat, n ≤ 12 → (plTo n n).Nodup := by decide +kernel
theorem pl_few : ∀ n : Nat, n ≤ 12 → (plTo n n).length ≤ 66 ∧ 2 * (plTo n n).length = n * (n - 1) := by decide +kernel
/-- the wins that the first k signs tell -/
structure Fil (n : Nat) (sg : List Nat) (k : Nat) (rs : List (List Int)) : Prop where
  len : rs.length = n
  nd : ∀ i, i < n → (rowAt rs i).Nodup
  mem : ∀ i, i < n → ∀ x : Int, x ∈ rowAt rs i ↔ ∃ t j : Nat, t < k ∧ x = (j : Int) ∧ ((plTo n n)[t]? = some (i, j) ∧ sg.getD t 0 = 62 ∨ (plTo n n)[t]? = some (j, i) ∧ sg.getD t 0 ≠ 62)
theorem Fil.start (n : Nat) (sg : List Nat) : Fil n sg 0 (List.replicate n []) := by
  have e : ∀ i, i < n → rowAt (List.replicate n ([] : List Int)) i = [] := fun i hi => by unfold rowAt; rw [getD_of_lt (by simpa using hi)]; simp
  refine ⟨by simp, fun i hi => by rw [e i hi]; exact List.nodup_nil, fun i hi x => ?_⟩
  rw [e i hi]
  constructor
  · intro h; cases h
  · rintro ⟨t, j, ht, _⟩; omega
theorem Fil.few {n : Nat} {sg : List Nat} {k : Nat} {rs : List (List Int)} (h : Fil n sg k rs) (i : Nat) : (rowAt rs i).length ≤ n := by
  by_cases hi : i < n
  · refine few_of_nodup n _ (h.nd i hi) fun x hx => ?_
    obtain ⟨t, j, _, rfl, z⟩ := (h.mem i hi x).mp hx
    rcases z with ⟨z, _⟩ | ⟨z, _⟩
    · have := (plTo_mem (Nat.le_refl n)).mp (List.mem_of_getElem? z); simp at this; omega
    · have := (plTo_mem (Nat.le_refl n)).mp (List.mem_of_getElem? z); simp at this; omega
  · unfold rowAt
    rw [List.getD_eq_getElem?_getD, List.getElem?_eq_none (by rw [h.len]; omega)]
    simp
/-- one sign more: u won against v -/
theorem Fil.next {n : Nat} {sg : List Nat} {k : Nat} {rs : List (List Int)} (h12 : n ≤ 12) (h : Fil n sg k rs) {u v : Nat} (hp : (plTo n n)[k]? = some (u, v) ∧ sg.getD k 0 = 62 ∨ (plTo n n)[k]? = some (v, u) ∧ sg.getD k 0 ≠ 62) : Fil n sg (k + 1) (rs.set u (rowAt rs u ++ [(v : Int)])) := by
  have huv : u < n ∧ v < n ∧ u ≠ v := by
    rcases hp with ⟨z, _⟩ | ⟨z, _⟩
    · have := (plTo_mem (Nat.le_refl n)).mp (List.mem_of_getElem? z); simp at this; omega
    · have := (plTo_mem (Nat.le_refl n)).mp (List.mem_of_getElem? z); simp at this; omega
  obtain ⟨hu, hv, ne⟩ := huv
  have inj : ∀ {a b : Nat} {q : Nat × Nat}, (plTo n n)[a]? = some q → (plTo n n)[b]? = some q → a = b := fun {a b q} ha hb => by
    obtain ⟨ha1, ha2⟩ := List.getElem?_eq_some_iff.mp ha
    obtain ⟨hb1, hb2⟩ := List.getElem?_eq_some_iff.mp hb
    exact (List.getElem_inj (pl_nodup n h12)).mp (ha2.trans hb2.symm)
  have row : ∀ i, rowAt (rs.set u (rowAt rs u ++ [(v : Int)])) i = if i = u then rowAt rs u ++ [(v : Int)] else rowAt rs i := fun i => rowAt_set' (by rw [h.len]; exact hu)
  have fresh : (v : Int) ∉ rowAt rs u := fun m => by
    obtain ⟨t, j, ht, e, z⟩ := (h.mem u hu v).mp m
    have ej : j = v := by omega
    subst ej
    rcases hp with ⟨p1, p2⟩ | ⟨p1, p2⟩ <;> rcases z with ⟨z1, z2⟩ | ⟨z1, z2⟩
    · have := inj p1 z1; omega
    · have a := (plTo_mem (Nat.le_refl n)).mp (List.mem_of_getElem? p1)
      have b := (plTo_mem (Nat.le_refl n)).mp (List.mem_of_getElem? z1)
      simp at a b; omega
    · have a := (plTo_mem (Nat.le_refl n)).mp (List.mem_of_getElem? p1)
      have b := (plTo_mem (Nat.le_refl n)).mp (List.mem_of_getElem? z1)
      simp at a b; omega
    · have := inj p1 z1; omega
  refine ⟨by rw [List.length_set]; exact h.len, fun i hi => ?_, fun i hi x => ?_⟩
  · rw [row]
    split
    · rw [List.nodup_append]
      exact ⟨h.nd u hu, by simp, fun a ha b hb e => fresh (by have : b = (v : Int) := by simpa using hb
                                                              rw [← this, ← e]; exact ha)⟩
    · exact h.nd i hi
  · rw [row]
    by_cases c : i = u
    · subst c
      rw [if_pos rfl, List.mem_append, h.mem i hi x]
      constructor
      · rintro (⟨t, j, ht, r⟩ | z)
        · exact ⟨t, j, by omega, r⟩
        · exact ⟨k, v, by omega, by simpa using z, hp⟩
      · rintro ⟨t, j, ht, e, r⟩
        by_cases d : t = k
        · subst d
          right
          rcases hp with ⟨p1, p2⟩ | ⟨p1, p2⟩ <;> rcases r with ⟨z1, z2⟩ | ⟨z1, z2⟩
          · rw [p1] at z1; simp at z1; simp [e, z1]
          · exact absurd p2 z2
          · exact absurd z2 p2
          · rw [p1] at z1; simp at z1; simp [e, z1]
        · exact .inl ⟨t, j, by omega, e, r⟩
    · rw [if_neg c, h.mem i hi x]
      constructor
      · rintro ⟨t, j, ht, r⟩; exact ⟨t, j, by omega, r⟩
      · rintro ⟨t, j, ht, e, r⟩
        by_cases d : t = k
        · subst d
          rcases hp with ⟨p1, p2⟩ | ⟨p1, p2⟩ <;> rcases r with ⟨z1, z2⟩ | ⟨z1, z2⟩
          · rw [p1] at z1; simp at z1; exact absurd z1.1.symm c
          · exact absurd p2 z2
          · exact absurd z2 p2
          · rw [p1] at z1; simp at z1; exact absurd z1.2.symm c
        · exact ⟨t, j, by omega, e, r⟩
/-- the hall that the signs write, each row rising -/
def Srt (n : Nat) (sg : List Nat) (r : List (List Int)) : Prop := ∃ rs, Fil n sg (plTo n n).length rs ∧ r.length = n ∧ ∀ i, i < n → (rowAt r i).Perm (rowAt rs i) ∧ (rowAt r i).Pairwise (· ≤ ·)
theorem Srt.uniq {n : Nat} {sg : List Nat} {r1 r2 : List (List Int)} (h1 : Srt n sg r1) (h2 : Srt n sg r2) : r1 = r2 := by
  obtain ⟨s1, F1, l1, p1⟩ := h1
  obtain ⟨s2, F2, l2, p2⟩ := h2
  refine List.ext_getElem (by rw [l1, l2]) fun i a b => ?_
  have hi : i < n := by omega
  have pp : (rowAt s1 i).Perm (rowAt s2 i) := perm_of_nd (F1.nd i hi) (F2.nd i hi) fun x => by rw [F1.mem i hi, F2.mem i hi]
  have e := sorted_uniq ((p1 i hi).1.trans (pp.trans (p2 i hi).1.symm)) (p1 i hi).2 (p2 i hi).2
  unfold rowAt at e
  rw [getD_of_lt a, getD_of_lt b] at e
  exact e
theorem sgTo_map (rows : List (List Int)) (n : Nat) : ∀ i, sgTo rows n i = (plTo n i).map fun q => sgn rows q.1 q.2
  | 0 => rfl
  | i + 1 => by
    rw [sgTo_succ, plTo_succ, List.map_append, sgTo_map rows n i]
    congr 1
    unfold rowS rowP
    rw [List.map_map]
    rfl
theorem hall_srt {rows : List (List Int)} (h : IsHall rows) : Srt rows.length (sgTo rows rows.length rows.length) rows := by
  have get : ∀ {t : Nat} {q : Nat × Nat}, (plTo rows.length rows.length)[t]? = some q → (sgTo rows rows.length rows.length).getD t 0 = sgn rows q.1 q.2 := fun {t q} e => by
    rw [sgTo_map, List.getD_eq_getElem?_getD, List.getElem?_map, e]
    rfl
  refine ⟨rows, ⟨rfl, fun i hi => rowAt_nodup h hi, fun i hi x => ?_⟩, rfl, fun i hi => ⟨.refl _, ((h.beat i hi).1).imp fun z => by omega⟩⟩
  constructor
  · intro hx
    obtain ⟨x0, x1, x2⟩ := (h.beat i hi).2 x hx
    obtain ⟨j, rfl⟩ : ∃ j : Nat, x = (j : Int) := ⟨x.toNat, by omega⟩
    by_cases c : i < j
    · obtain ⟨t, ht⟩ := List.getElem?_of_mem ((plTo_mem (n := rows.length) (q := (i, j)) (Nat.le_refl _)).mpr ⟨hi, c, by show j < _; omega⟩)
      refine ⟨t, j, (List.getElem?_eq_some_iff.mp ht).1, rfl, .inl ⟨ht, ?_⟩⟩
      rw [get ht]
      unfold sgn
      rw [if_pos hx]
    · have c' : j < i := by omega
      obtain ⟨t, ht⟩ := List.getElem?_of_mem ((plTo_mem (n := rows.length) (q := (j, i)) (Nat.le_refl _)).mpr ⟨by show j < _; omega, c', hi⟩)
      refine ⟨t, j, (List.getElem?_eq_some_iff.mp ht).1, rfl, .inr ⟨ht, ?_⟩⟩
      rw [get ht]
      unfold sgn
      rw [if_neg ((h.one i j c' hi).mp hx)]
      decide
  · rintro ⟨t, j, ht, rfl, z | z⟩
    · obtain ⟨z1, z2⟩ := z
      rw [get z1] at z2
      unfold sgn at z2
      by_cases c : (j : Int) ∈ rowAt rows i
      · exact c
      · rw [if_neg c] at z2; cases z2
    · obtain ⟨z1, z2⟩ := z
      have m := (plTo_mem (Nat.le_refl _)).mp (List.mem_of_getElem? z1)
      simp at m
      rw [get z1] at z2
      unfold sgn at z2
      by_cases c : (i : Int) ∈ rowAt rows j
      · rw [if_pos c] at z2; exact absurd rfl z2
      · exact (h.one i j m.2.1 hi).mpr c
theorem note_wr {rows : List (List Int)} (h : IsHall rows) : Wr (note rows).cps.toList rows.length (sgTo rows rows.length rows.length) := by
  refine ⟨h.lo, h.hi, ?_, by rw [sgTo_map, List.length_map], fun c hc => ?_⟩
  · unfold note upTo headN
    cases headS rows.length with
    | mk a =>
      show (a ++ (sgTo rows rows.length rows.length).toArray).toList = _
      simp
  · rw [sgTo_map] at hc
    obtain ⟨q, _, rfl⟩ := List.mem_map.mp hc
    unfold sgn
    split
    · exact .inr rfl
    · exact .inl rfl
end KH

namespace L2
open PySem PySem.Spec PyProof.Rows

/-! ### which built-in type is which -/
theorem kit_int_bool (K : PySem.W.Frag) : PySem.W.kitOne K (.type "int") (.type "bool") = some false := by kernel_rfl
theorem kit_bool_int (K : PySem.W.Frag) : PySem.W.kitOne K (.type "bool") (.type "int") = some true := by kernel_rfl
theorem kit_int_int (K : PySem.W.Frag) : PySem.W.kitOne K (.type "int") (.type "int") = some true := by kernel_rfl
theorem kit_list_list (K : PySem.W.Frag) : PySem.W.kitOne K (.type "list") (.type "list") = some true := by kernel_rfl
theorem kit_bool_bool (K : PySem.W.Frag) : PySem.W.kitOne K (.type "bool") (.type "bool") = some true := by kernel_rfl
theorem kit_tuple_tuple (K : PySem.W.Frag) : PySem.W.kitOne K (.type "tuple") (.type "tuple") = some true := by kernel_rfl
theorem kit_str_str (K : PySem.W.Frag) : PySem.W.kitOne K (.type "str") (.type "str") = some true := by kernel_rfl

/-! ### all(xs) of bools, sum(xs) of ints -/
theorem all_range (bs : List Bool) : ((List.range bs.length).all fun i => (bs[i]?).getD true) = bs.all id := by
  rw [Bool.eq_iff_iff, List.all_eq_true, List.all_eq_true]
  constructor
  · intro h x hx
    obtain ⟨i, hi, e⟩ := List.mem_iff_getElem.mp hx
    have q := h i (List.mem_range.mpr hi)
    rw [List.getElem?_eq_getElem hi] at q
    rw [← e]; exact q
  · intro h i hi
    have hi' := List.mem_range.mp hi
    rw [List.getElem?_eq_getElem hi']
    exact h _ (List.getElem_mem _)
section
variable {X : Cx}
theorem call_all (hc : X.calm = true) : CallR X (.builtin "all") (fun xs H Q => ∃ (p : Addr) (bs : List Bool), xs = [.ref p] ∧ SqL X.K H p (bs.map V.bl) ∧ Q (.bl (bs.all id)) H) := by
  intro pins s σ H xs us Q I r h
  obtain ⟨p, bs, rfl, hq, q⟩ := h
  obtain ⟨u, rfl, rx⟩ := vals1 r
  cases rx
  obtain ⟨its, rv, pl, hz⟩ := I.list hq
  have hlen := rv.length
  rw [List.length_map] at hlen
  obtain ⟨o, n, ho, hcl, hdd, hd⟩ := id pl
  have hlt : p < s.heap.objs.size := Heap.lt_size ho
  refine call_all_walk (wpAny_pyIter_list pl.isList ⟨s.heap.objs.size, [s.heap.objs.size, p], [s.heap.objs.size], its.toArray.size, _, _, fun i => (bs[i]?).getD true, rfl,
    Walks.list (A := X.A.in1) (I.ok.hd hc) _ p (Nat.ne_of_lt hlt) its.toArray, ⟨⟨_, Heap.get?_push_size _ rfl, rfl, rfl⟩, pl.isList.push _⟩, ?_, ?_⟩)
  · intro i v s' Q' E' hP hQ
    have hP' : its[i]? = some v := by simpa using hP
    have hi : i < bs.length := by rw [hlen]; exact (List.getElem?_eq_some_iff.mp hP').1
    obtain ⟨u, e1, e2⟩ := rv.get (i := i) (x := .bl bs[i]) (by rw [List.getElem?_map, List.getElem?_eq_getElem hi]; rfl)
    rw [hP'] at e1
    cases e1
    have e3 : v = Value.bool bs[i] := e2
    subst e3
    have hQ' : Q' ((bs[i]?).getD true) s' := hQ
    rw [List.getElem?_eq_getElem hi] at hQ'
    exact wpAny_truthy_bool hQ'
  · intro h' tk hk
    have kp : ∀ b x, s.heap.get? b = some x → h'.get? b = some x := fun b x e =>
      hk b x (fun hm => by rw [List.mem_singleton.mp hm] at e; exact Nat.lt_irrefl _ (Heap.lt_size e)) (Heap.get?_push_of_some _ e)
    rw [List.size_toArray, ← hlen, all_range]
    exact ⟨.bl _, H, I.kept kp, rfl, q⟩
theorem call_sum (hc : X.calm = true) : CallR X (.builtin "sum") (fun xs H Q => ∃ (p : Addr) (ns : List Int), xs = [.ref p] ∧ SqL X.K H p (ns.map V.int) ∧ Q (.int ns.sum) H) := by
  intro pins s σ H xs us Q I r h
  obtain ⟨p, ns, rfl, hq, q⟩ := h
  obtain ⟨u, rfl, rx⟩ := vals1 r
  cases rx
  obtain ⟨its, rv, pl, hz⟩ := I.list hq
  have hi := intsAre_of rv
  obtain ⟨xs, hx⟩ := hi.allInts.items
  have e1 : ns = xs.toList.map (·.1) := by
    rw [← nums_intItems, ← hx]
    exact (show numsOf its.toArray.toList = ns from hi.numsOf).symm
  refine sum_intListG (I.ok.hd hc) (hx ▸ pl.isList) fun h' tk t' kp => ?_
  rw [preSum_eq, List.take_of_length_le (by simp), ← e1]
  exact ⟨.int _, H, I.kept kp, ⟨_, rfl⟩, q⟩

/-! ### range(n) as a value, list(range(n)) -/
def rRange1 : List V → Hp → VK → Prop := fun xs H Q => ∃ j : Int, xs = [.int j] ∧ ∀ p, H p = none → Q (.ref p) (upd H p (.rng 0 j))
theorem call_range1 : CallR X (.type "range") rRange1 := by
  intro pins s σ H xs us Q I r h
  obtain ⟨j, rfl, q⟩ := h
  obtain ⟨u, rfl, t, rfl⟩ := vals1 r
  refine call_range_1 ?_
  exact ⟨.ref s.heap.objs.size, _, I.laid (fun b o e => Heap.get?_push_of_some _ e) (Nat.le_refl _) (show ObjOk X.prog X.w _ _ _ (.rng 0 j) from ⟨_, _, _, Heap.get?_push_size _ rfl⟩), rfl, q _ I.fresh⟩
def rListRng : List V → Hp → VK → Prop := fun xs H Q => ∃ (p : Addr) (n : Nat), xs = [.ref p] ∧ H p = some (.rng 0 (n : Int)) ∧ n ≤ 1000 ∧ ∀ l, H l = none → Q (.ref l) (upd H l (.lst ((List.range n).map fun (i : Nat) => V.int (i : Int))))
theorem call_list_rng (hc : X.calm = true) : CallR X (.type "list") rListRng := by
  intro pins s σ H xs us Q I r h
  obtain ⟨p, n, rfl, hp, hn, q⟩ := h
  obtain ⟨u, rfl, rx⟩ := vals1 r
  cases rx
  obtain ⟨t, u, v, e⟩ := (show ObjOk X.prog X.w H s.heap p (.rng 0 (n : Int)) from I.hok p _ hp)
  have e2 : Builtin.Range.rangeSize 0 (n : Int) 1 = (n : Nat) := by rw [rangeSize_one]; split <;> omega
  refine call_list_range (I.ok.hd hc) e (small_one (by omega) (by omega) (by omega) (by omega)) e2 (by omega) fun h' tk acc c kp hD hI => ?_
  have hsz : acc.size = n := hI.1
  have rel : Vals ((List.range n).map fun (i : Nat) => V.int (i : Int)) acc.toList := by
    have key : ∀ (l : List Value) (k : Nat), (∀ j x, l[j]? = some x → ∃ t, x = Value.int ((k + j : Nat) : Int) t) → Vals ((List.range' k l.length).map fun (i : Nat) => V.int (i : Int)) l := by
      intro l
      induction l with
      | nil => intro k _; exact .nil
      | cons x r ih =>
        intro k hk
        rw [List.length_cons, List.range'_succ, List.map_cons]
        refine .cons (hk 0 x rfl) (ih (k + 1) fun j y hj => ?_)
        obtain ⟨t, e⟩ := hk (j + 1) y (by simpa using hj)
        exact ⟨t, by rw [e]; congr 1; omega⟩
    have q := key acc.toList 0 fun j x hj => by
      obtain ⟨t, e⟩ := hI.2 j x (by simpa using hj)
      exact ⟨t, by rw [e]; congr 1; omega⟩
    rw [Array.length_toList, hsz, ← List.range_eq_range'] at q
    exact q
  refine ⟨.ref s.heap.objs.size, _, I.laid (t' := tk) kp (Nat.le_refl _) (show ObjOk X.prog X.w _ h' _ (.lst _) from ⟨?_, acc.toList, c, rel, hD⟩), rfl, q _ I.fresh⟩
  rw [List.length_map, List.length_range]
  exact Nat.le_of_lt (small1000 hn)

/-! ### != of lists -/
theorem neAt_ints {pins : List (Addr × Obj)} {σ : St} {H : Hp} {s : Shared} {A : Around} {a b : Addr} {ns ms : List Int} (I : Inv X pins σ H s) (ha : SqL X.K H a (ns.map V.int)) (hb : SqL X.K H b (ms.map V.int)) (hu : A.units < cLine) :
    SeqAt.RcNeAt A s (.ref a) (.ref b) (!decide (ns = ms)) := by
  obtain ⟨its, r1, p1, z1⟩ := I.list ha
  obtain ⟨its2, r2, p2, z2⟩ := I.list hb
  have l1 := r1.length
  have l2 := r2.length
  rw [List.length_map] at l1 l2
  by_cases hl : ns.length = ms.length
  · have hsz : its.toArray.size = its2.toArray.size := by simp only [List.size_toArray]; omega
    have q := SeqAt.RcNeAt.lists (A := A) (e := fun j => ns.getD j 0 == ms.getD j 0) p1.isList p2.isList hsz hu (fun j h1 h2 => by
      have h1' : j < its.length := by simpa using h1
      have h2' : j < its2.length := by simpa using h2
      have g1 : (ns.map V.int)[j]? = some (.int (ns.getD j 0)) := by
        rw [List.getElem?_map, List.getElem?_eq_getElem (by omega : j < ns.length)]
        simp [List.getD_eq_getElem?_getD, List.getElem?_eq_getElem (by omega : j < ns.length)]
      have g2 : (ms.map V.int)[j]? = some (.int (ms.getD j 0)) := by
        rw [List.getElem?_map, List.getElem?_eq_getElem (by omega : j < ms.length)]
        simp [List.getD_eq_getElem?_getD, List.getElem?_eq_getElem (by omega : j < ms.length)]
      obtain ⟨u1, e1, t1, rfl⟩ := r1.get g1
      obtain ⟨u2, e2, t2, rfl⟩ := r2.get g2
      have f1 : its.toArray[j] = Value.int (ns.getD j 0) t1 := by
        rw [List.getElem?_eq_getElem h1'] at e1; simpa using e1
      have f2 : its2.toArray[j] = Value.int (ms.getD j 0) t2 := by
        rw [List.getElem?_eq_getElem h2'] at e2; simpa using e2
      rw [f1, f2]
      exact SeqAt.EqAt.int_int _ _ _ _)
    rw [List.size_toArray, ← l1, range_all_eq ns ms hl] at q
    exact q
  · rw [decide_eq_false (fun e => hl (by rw [e]))]
    exact SeqAt.RcNeAt.lists_lengths p1.isList p2.isList (by simp only [List.size_toArray, bne_iff_ne]; omega) hu
def rNeInts (K : PySem.W.Frag) : R2 := fun x y H Q => ∃ (a b : Addr) (ns ms : List Int), x = .ref a ∧ y = .ref b ∧ SqL K H a (ns.map V.int) ∧ SqL K H b (ms.map V.int) ∧ Q (.bl (!decide (ns = ms))) H
theorem op_ne_ints (hu : X.A.units < cLine) : OpR X (compareOp .NotEq) (rNeInts X.K) := by
  intro pins s σ H x y v u Q I rx ry h
  obtain ⟨a, b, ns, ms, rfl, rfl, ha, hb, q⟩ := h
  cases rx; cases ry
  exact neAt_ints I ha hb hu X.prog X.w X.xe _ ⟨.bl _, H, I, rfl, q⟩
def rNeRows (K : PySem.W.Frag) : R2 := fun x y H Q => ∃ (p q : Addr) (as bs : List Addr) (ns ms : List (List Int)), x = .ref p ∧ y = .ref q ∧ SqL K H p (as.map V.ref) ∧ SqL K H q (bs.map V.ref) ∧ RowsAt K H as ns ∧ RowsAt K H bs ms ∧ Q (.bl (!decide (ns = ms))) H
theorem op_ne_rows (hu : X.A.units + 1 < cLine) : OpR X (compareOp .NotEq) (rNeRows X.K) := by
  intro pins s σ H x y v u Q I rx ry h
  obtain ⟨p, q, as, bs, ns, ms, rfl, rfl, ha, hb, rn, rm, qq⟩ := h
  cases rx; cases ry
  obtain ⟨its, r1, p1, z1⟩ := I.list ha
  obtain ⟨its2, r2, p2, z2⟩ := I.list hb
  have l1 := r1.length
  have l2 := r2.length
  rw [List.length_map] at l1 l2
  have ln := rn.length
  have lm := rm.length
  have hu1 : X.A.in1.units < cLine := by
    have : X.A.in1.units ≤ X.A.units + 1 := by first | exact Nat.le_refl _ | simp [Around.in1]
    omega
  by_cases hl : ns.length = ms.length
  · have hsz : its.toArray.size = its2.toArray.size := by simp only [List.size_toArray]; omega
    refine SeqAt.RcNeAt.lists (A := X.A) (e := fun j => decide (ns.getD j [] = ms.getD j [])) p1.isList p2.isList hsz (by omega) (fun j h1 h2 => ?_) X.prog X.w X.xe _ ?_
    · have h1' : j < its.length := by simpa using h1
      have h2' : j < its2.length := by simpa using h2
      obtain ⟨a, ea, sa⟩ := rn.get (i := j) (r := ns.getD j []) (by rw [List.getElem?_eq_getElem (by omega : j < ns.length)]; simp [List.getD_eq_getElem?_getD, List.getElem?_eq_getElem (by omega : j < ns.length)])
      obtain ⟨b, eb, sb⟩ := rm.get (i := j) (r := ms.getD j []) (by rw [List.getElem?_eq_getElem (by omega : j < ms.length)]; simp [List.getD_eq_getElem?_getD, List.getElem?_eq_getElem (by omega : j < ms.length)])
      have g1 : (as.map V.ref)[j]? = some (.ref a) := by rw [List.getElem?_map, ea]; rfl
      have g2 : (bs.map V.ref)[j]? = some (.ref b) := by rw [List.getElem?_map, eb]; rfl
      obtain ⟨u1, e1, q1⟩ := r1.get g1
      obtain ⟨u2, e2, q2⟩ := r2.get g2
      cases q1; cases q2
      have f1 : its.toArray[j] = Value.ref a := by
        rw [List.getElem?_eq_getElem h1'] at e1; simpa using e1
      have f2 : its2.toArray[j] = Value.ref b := by
        rw [List.getElem?_eq_getElem h2'] at e2; simpa using e2
      rw [f1, f2]
      by_cases hab : a = b
      · subst hab
        have hm : (ns.getD j []).map V.int = (ms.getD j []).map V.int := I.list_inj sa sb
        have hm' : ns.getD j [] = ms.getD j [] := (List.map_inj_right (fun x y h => by injection h)).mp hm
        rw [decide_eq_true hm']
        exact SeqAt.EqAt.same _
      · exact SeqAt.EqAt.of_refs hab (eqAt_ints I sa sb hu1)
    · rw [List.size_toArray, ← l1, ln, range_all_rows ns ms hl]
      exact ⟨.bl _, H, I, rfl, qq⟩
  · refine SeqAt.RcNeAt.lists_lengths p1.isList p2.isList (by simp only [List.size_toArray, bne_iff_ne]; omega) (by omega) X.prog X.w X.xe _ ?_
    rw [decide_eq_false (fun e => hl (by rw [e]))] at qq
    exact ⟨.bl _, H, I, rfl, qq⟩
end
section
variable {X : Cx} {K : PySem.W.Frag}
theorem call_allK (hK : X.K = K) (hc : X.calm = true) : CallR X (.builtin "all") (fun xs H Q => ∃ (p : Addr) (bs : List Bool), xs = [.ref p] ∧ SqL K H p (bs.map V.bl) ∧ Q (.bl (bs.all id)) H) := by subst hK; exact call_all hc
theorem op_ne_intsK (hK : X.K = K) (hu : X.A.units < cLine) : OpR X (compareOp .NotEq) (rNeInts K) := by subst hK; exact op_ne_ints hu
end
end L2

namespace L2
open PySem PySem.Spec PyProof.Rows
/-! ### any(list), max(list) -/
theorem any_range (bs : List Bool) : ((List.range bs.length).any fun i => (bs[i]?).getD false) = bs.any id := by
  rw [Bool.eq_iff_iff, List.any_eq_true, List.any_eq_true]
  constructor
  · rintro ⟨i, hi, q⟩
    have hi' := List.mem_range.mp hi
    rw [List.getElem?_eq_getElem hi'] at q
    exact ⟨_, List.getElem_mem _, q⟩
  · rintro ⟨b, hb, q⟩
    obtain ⟨i, hi, e⟩ := List.mem_iff_getElem.mp hb
    refine ⟨i, List.mem_range.mpr hi, ?_⟩
    rw [List.getElem?_eq_getElem hi, e]; exact q
section
variable {X : Cx}
theorem call_any (hc : X.calm = true) : CallR X (.builtin "any") (fun xs H Q => ∃ (p : Addr) (bs : List Bool), xs = [.ref p] ∧ SqL X.K H p (bs.map V.bl) ∧ Q (.bl (bs.any id)) H) := by
  intro pins s σ H xs us Q I r h
  obtain ⟨p, bs, rfl, hq, q⟩ := h
  obtain ⟨u, rfl, rx⟩ := vals1 r
  cases rx
  obtain ⟨its, rv, pl, hz⟩ := I.list hq
  have hlen := rv.length
  rw [List.length_map] at hlen
  obtain ⟨o, n, ho, hcl, hdd, hd⟩ := id pl
  have hlt : p < s.heap.objs.size := Heap.lt_size ho
  refine call_any_walk (wpAny_pyIter_list pl.isList ⟨s.heap.objs.size, [s.heap.objs.size, p], [s.heap.objs.size], its.toArray.size, _, _, fun i => (bs[i]?).getD false, rfl,
    Walks.list (A := X.A.in1) (I.ok.hd hc) _ p (Nat.ne_of_lt hlt) its.toArray, ⟨⟨_, Heap.get?_push_size _ rfl, rfl, rfl⟩, pl.isList.push _⟩, ?_, ?_⟩)
  · intro i v s' Q' E' hP hQ
    have hP' : its[i]? = some v := by simpa using hP
    have hi : i < bs.length := by rw [hlen]; exact (List.getElem?_eq_some_iff.mp hP').1
    obtain ⟨u, e1, e2⟩ := rv.get (i := i) (x := .bl bs[i]) (by rw [List.getElem?_map, List.getElem?_eq_getElem hi]; rfl)
    rw [hP'] at e1
    cases e1
    have e3 : v = Value.bool bs[i] := e2
    subst e3
    have hQ' : Q' ((bs[i]?).getD false) s' := hQ
    rw [List.getElem?_eq_getElem hi] at hQ'
    exact wpAny_truthy_bool hQ'
  · intro h' tk hk
    have kp : ∀ b x, s.heap.get? b = some x → h'.get? b = some x := fun b x e =>
      hk b x (fun hm => by rw [List.mem_singleton.mp hm] at e; exact Nat.lt_irrefl _ (Heap.lt_size e)) (Heap.get?_push_of_some _ e)
    rw [List.size_toArray, ← hlen, any_range]
    exact ⟨.bl _, H, I.kept kp, rfl, q⟩
theorem call_maxL (hc : X.calm = true) : CallR X (.builtin "max") (fun xs H Q => ∃ (p : Addr) (ns : List Int), xs = [.ref p] ∧ SqL X.K H p (ns.map V.int) ∧ 0 < ns.length ∧ ∀ M : Int, M ∈ ns → (∀ a ∈ ns, a ≤ M) → Q (.int M) H) := by
  intro pins s σ H xs us Q I r h
  obtain ⟨p, ns, rfl, hq, hne, q⟩ := h
  obtain ⟨u, rfl, rx⟩ := vals1 r
  cases rx
  obtain ⟨its, rv, pl, hz⟩ := I.list hq
  have hi := intsAre_of rv
  obtain ⟨xs, e⟩ := hi.allInts.items
  have hns : ns = xs.toList.map (·.1) := by
    rw [← nums_intItems, ← e]
    exact (show numsOf its.toArray.toList = ns from hi.numsOf).symm
  have hsz : 0 < xs.size := by
    have h3 := hne; rw [hns, List.length_map, Array.length_toList] at h3; exact h3
  have pl' := pl.isList
  rw [e] at pl'
  refine max_intList (I.ok.hd hc) pl' hsz fun v h' tk hv hk => ?_
  obtain ⟨t, rfl⟩ := intItems_at hv
  obtain ⟨h1, h2⟩ := argBest_gt (numAt xs) (xs.size - 1)
  refine ⟨.int _, H, I.kept hk, ⟨_, rfl⟩, q _ ?_ fun a ha => ?_⟩
  · rw [hns, numAt_eq]; exact getD_mem (by rw [List.length_map, Array.length_toList]; omega)
  · rw [hns] at ha
    obtain ⟨j, hj, rfl⟩ := mem_getD ha
    rw [List.length_map, Array.length_toList] at hj
    rw [← numAt_eq]; exact h2 j (by omega)
theorem call_anyK {K : PySem.W.Frag} (hK : X.K = K) (hc : X.calm = true) : CallR X (.builtin "any") (fun xs H Q => ∃ (p : Addr) (bs : List Bool), xs = [.ref p] ∧ SqL K H p (bs.map V.bl) ∧ Q (.bl (bs.any id)) H) := by subst hK; exact call_any hc
end
end L2

namespace L2
open PySem PySem.Spec PyProof.Rows
/-! ### for x, y in zip(xs, ys) -/
section
variable {X : Cx}
def Itz (K : PySem.W.Frag) (a b : Addr) : It :=
  ⟨fun i H => ∃ xs ys x y, SqL K H a xs ∧ SqL K H b ys ∧ xs[i]? = some x ∧ ys[i]? = some y, fun i H x H' => ∃ p u v, H p = none ∧ x = .ref p ∧ H' = upd H p (.tup [u, v]) ∧ (∀ xs, SqL K H a xs → xs[i]? = some u) ∧ ∀ ys, SqL K H b ys → ys[i]? = some v,
    fun i H => ∃ xs ys, SqL K H a xs ∧ SqL K H b ys ∧ (xs.length ≤ i ∨ ys.length ≤ i)⟩
theorem turn_zip {P : Program} {w : World} {K : PySem.W.Frag} {es : List Expr} {k : Nat} {pos : Pos} (a b z TI TO i1 i2 : Addr) (D : ZipApart z TI TO i1 i2 a b) :
    Turn P w K (.Tuple es k pos) (Itz K a b) [z, TI, TO, i1, i2] z (fun i h => IsZip h z TI TO .none ∧ IsPair h TI (.ref i1) (.ref i2) ∧ (∃ u v, IsPair h TO u v) ∧ h.IsListIter i1 a i ∧ h.IsListIter i2 b i) where
  mem := by simp
  obj := fun i h st c hc => by
    obtain ⟨t1, t2, ⟨u, v, t3⟩, ⟨o4, q4, c4, d4⟩, ⟨o5, q5, c5, d5⟩⟩ := st
    simp only [List.mem_cons, List.not_mem_nil, or_false] at hc
    rcases hc with rfl | rfl | rfl | rfl | rfl
    · exact ⟨_, t1, fun v y => by cases (show Data.fields _ = Data.cell v from y)⟩
    · exact ⟨_, t2, fun v y => by cases (show Data.seq _ _ = Data.cell v from y)⟩
    · exact ⟨_, t3, fun v y => by cases (show Data.seq _ _ = Data.cell v from y)⟩
    · exact ⟨o4, q4, fun v y => by rw [d4] at y; cases y⟩
    · exact ⟨o5, q5, fun v y => by rw [d5] at y; cases y⟩
  keep := fun i h h' st kk => by
    obtain ⟨t1, t2, ⟨u, v, t3⟩, t4, t5⟩ := st
    exact ⟨kk z (by simp) _ t1, kk TI (by simp) _ t2, ⟨u, v, kk TO (by simp) _ t3⟩, t4.at fun o q => kk i1 (by simp) o q, t5.at fun o q => kk i2 (by simp) o q⟩
  item := by
    intro X hP hw hK hc i pins s σ H E I hf st hg
    subst hP hw hK
    obtain ⟨xs, ys, x, y, hq1, hq2, hx, hy⟩ := hg
    obtain ⟨t1, t2, ⟨u0, v0, t3⟩, t4, t5⟩ := st
    obtain ⟨its1, rv1, p1, hz1⟩ := I.list hq1
    obtain ⟨its2, rv2, p2, hz2⟩ := I.list hq2
    obtain ⟨u, hu, ru⟩ := rv1.get hx
    obtain ⟨v, hv, rv⟩ := rv2.get hy
    have lt : ∀ c ∈ [z, TI, TO, i1, i2], c < s.heap.objs.size := fun c hc => by
      obtain ⟨o4, q4, _⟩ := id t4
      obtain ⟨o5, q5, _⟩ := id t5
      simp only [List.mem_cons, List.not_mem_nil, or_false] at hc
      rcases hc with rfl | rfl | rfl | rfl | rfl
      · exact Heap.lt_size t1
      · exact Heap.lt_size t2
      · exact Heap.lt_size t3
      · exact Heap.lt_size q4
      · exact Heap.lt_size q5
    refine wpAny_pyNext_zip_item D t1 t2 t3 t4 t5 p1.isList p2.isList (x := u) (y := v) (by simpa using hu) (by simpa using hv) fun h1 a1 a2 a3 a4 a5 a6 k1 => ?_
    refine ⟨_, rfl, wpAny_letOwnedTupleGo_zip a1 fun h2 e2 sb => ?_⟩
    replace sb : Heap.SameBut z h1 h2 := sb
    have k2 : ∀ c o, c ∉ [z, TI, TO, i1, i2] → s.heap.get? c = some o → h2.get? c = some o := fun c o hc q => by
      simp only [List.mem_cons, List.not_mem_nil, or_false, not_or] at hc
      exact (sb.2 c hc.1).trans (k1 c o hc.1 hc.2.2.1 hc.2.2.2.1 hc.2.2.2.2 q)
    have nb : ∀ c o, H c = some o → c ∉ [z, TI, TO, i1, i2] := fun c o q hm => by rw [(hf c hm).1] at q; cases q
    have ht : h2.get? s.heap.objs.size = some { cls := .type "tuple", data := .seq #[u, v] } := (sb.2 _ (Nat.ne_of_gt (lt z (by simp)))).trans a5
    have hfr : H s.heap.objs.size = none := I.fresh
    have hokH : HOk X.prog X.w (upd H s.heap.objs.size (.tup [x, y])) h2 := fun c ob q => by
      by_cases hb : c = s.heap.objs.size
      · subst hb
        rw [upd_same] at q
        cases q
        exact ⟨by show 2 ≤ sizeLine; decide, [u, v], .cons ru (.cons rv .nil), ⟨_, ht, rfl, 0, rfl⟩⟩
      · rw [upd_ne hb] at q
        refine (I.hok c ob q).stay (fun d w' hcc qq => ?_) (fun d q => by rw [upd_ne (ne_of_none q hfr)]; exact q) fun d ys q => by rw [upd_ne (ne_of_none q hfr)]; exact q
        refine k2 d w' ?_ qq
        rcases hcc with r | r
        · rw [r]; exact nb c ob q
        · exact nb d _ r
    have I2 : Inv X pins σ (upd H s.heap.objs.size (.tup [x, y])) { s with heap := h2, toks := s.toks } := by
      refine I.step (g' := s.gens) (d' := s.drawn) (ch := [z, TI, TO, i1, i2]) (fun c hc => ?_) (fun c o _ _ hc q _ => k2 c o hc q) (fun c o _ _ hc q _ => ⟨o.slots, k2 c o hc q⟩) (fun c o _ q n => by rw [upd_ne (Nat.ne_of_lt (Heap.lt_size q))]; exact n)
        (fun c o hc q => ⟨o, k2 c o hc q⟩) (fun c ys q => by rw [upd_ne (ne_of_none q hfr)]; exact q) (fun c o u q => by rw [upd_ne (ne_of_none q hfr)]; exact q) (fun c ps q => ⟨#[], by rw [upd_ne (ne_of_none q hfr), q]; simp⟩) (fun m hm => ?_) hokH I.bare
      · obtain ⟨f0, f1, f2, f3, f4, f5⟩ := hf c hc
        exact ⟨f3, f1, f4, f5⟩
      · obtain ⟨o, es', ep, ho, r⟩ := hm
        exact ⟨o, es', ep, k2 _ o (fun hm => (hf _ hm).2.1 rfl) ho, r⟩
    refine ⟨.ref s.heap.objs.size, _, I2, rfl, ⟨_, x, y, hfr, rfl, rfl, fun ys hy => by rw [I.list_inj hy hq1]; exact hx, fun ws hw => by rw [I.list_inj hw hq2]; exact hy⟩, ⟨e2, (sb.2 _ D.TIz).trans (k1 _ _ D.TIz D.TITO D.TIi1 D.TIi2 t2), ⟨u, v, (sb.2 _ D.TOz).trans a2⟩, a3.extBut sb.extBut D.i1z, a4.extBut sb.extBut D.i2z⟩, fun c hc => ?_⟩
    rw [upd_ne (Nat.ne_of_lt (lt c hc))]; exact (hf c hc).1
  done := by
    intro X hP hw hK hc i pins s σ H E I hf st hg
    subst hP hw hK
    obtain ⟨xs, ys, hq1, hq2, hx⟩ := hg
    obtain ⟨t1, t2, ⟨u0, v0, t3⟩, t4, t5⟩ := st
    obtain ⟨its1, rv1, p1, hz1⟩ := I.list hq1
    obtain ⟨its2, rv2, p2, hz2⟩ := I.list hq2
    have l1 := rv1.length
    have l2 := rv2.length
    refine wpAny_pyNext_zip_end (I.ok.hd hc) D t1 t2 t3 t4 t5 p1.isList p2.isList (by rcases hx with q | q; · exact .inl (by simp; omega)
                                                                                      · exact .inr (by simp; omega)) fun h' kp => ⟨rfl, ?_⟩
    have k2 : ∀ c o, c ∉ [z, TI, TO, i1, i2] → s.heap.get? c = some o → h'.get? c = some o := fun c o hc q => by
      simp only [List.mem_cons, List.not_mem_nil, or_false, not_or] at hc
      exact kp c o hc.1 hc.2.2.1 hc.2.2.2.1 hc.2.2.2.2 q
    have nb : ∀ c o, H c = some o → c ∉ [z, TI, TO, i1, i2] := fun c o q hm => by rw [(hf c hm).1] at q; cases q
    refine I.step (g' := s.gens) (d' := s.drawn) (t' := s.toks) (ch := [z, TI, TO, i1, i2]) (fun c hc => ?_) (fun c o _ _ hc q _ => k2 c o hc q) (fun c o _ _ hc q _ => ⟨o.slots, k2 c o hc q⟩) (fun c o _ q n => n)
      (fun c o hc q => ?_) (fun c ys q => q) (fun c o u q => q) (fun c ps q => ⟨#[], by rw [q]; simp⟩) (fun m hm => ?_) (fun c ob q => (I.hok c ob q).stay (fun d w' hcc qq => ?_) (fun _ q => q) fun _ _ q => q) I.bare
    · obtain ⟨f0, f1, f2, f3, f4, f5⟩ := hf c hc
      exact ⟨f3, f1, f4, f5⟩
    · exact ⟨o, k2 c o hc q⟩
    · obtain ⟨o, es', ep, ho, r⟩ := hm
      exact ⟨o, es', ep, k2 _ o (fun hm => (hf _ hm).2.1 rfl) ho, r⟩
    · refine k2 d w' ?_ qq
      rcases hcc with r | r
      · rw [r]; exact nb c ob q
      · exact nb d _ r
  self := fun _ _ _ _ _ st h => by
    obtain ⟨t1, _⟩ := st
    exact wpAny_pyIter_zip t1 h
def iZip (K : PySem.W.Frag) (ta : TA) : TI := fun σ H R => ta σ H fun vs H1 => ∃ a b, vs = [.ref a, .ref b] ∧ (∃ xs, SqL K H1 a xs) ∧ (∃ ys, SqL K H1 b ys) ∧ R (Itz K a b) H1
theorem pi_zip {es : List Expr} {k : Nat} {l r : Expr} {ta : TA} {p pos pos' : Pos} (hg : Gl X "zip") (hm : X.mg "zip" = none) (ha : PA X [l, r] ta) (hs : starEach [l, r] X.env = (false, eval l X.env) :: starEach [r] X.env := by rfl) (hpl : (backTo pos (starEach [r] X.env)).any (·.1) = false := by rfl) :
    PI X (.Tuple es k pos') (.Call (.Name "zip" p) [l, r] [] pos) (iZip X.K ta) := by
  intro pins s σ H R I h
  refine Call_ (ld_blt (u := .type "zip") I hg hm (by decide +kernel) (PyProof.Rows.callWith_type1 (thn (ha pos pins s σ H _ I h) fun us s1 ⟨vs, H1, I1, r1, q1⟩ => ?_) hs hpl))
  obtain ⟨a, b, e, ⟨xs, hq1⟩, ⟨ys, hq2⟩, q⟩ := q1
  subst e
  obtain ⟨u, u2, rfl, rx, ry⟩ := vals2 r1
  cases rx
  cases ry
  obtain ⟨its1, rv1, p1, hz1⟩ := I1.list hq1
  obtain ⟨its2, rv2, p2, hz2⟩ := I1.list hq2
  have la : a < s1.heap.objs.size := by obtain ⟨o, q, _⟩ := p1.isList; exact Heap.lt_size q
  have lb : b < s1.heap.objs.size := by obtain ⟨o, q, _⟩ := p2.isList; exact Heap.lt_size q
  refine call_zip_2 p1.isList p2.isList fun h' w1 w2 w3 w4 w5 w6 kp => wpAny_pyIter_zip w1 ?_
  have D : ZipApart (s1.heap.objs.size + 4) (s1.heap.objs.size + 2) (s1.heap.objs.size + 3) s1.heap.objs.size (s1.heap.objs.size + 1) a b := by
    have c : ∀ m i j : Nat, i ≠ j → m + i ≠ m + j := fun m i j h e => h (Nat.add_left_cancel e)
    have l : ∀ x m i : Nat, x < m → x ≠ m + i := fun x m i h => Nat.ne_of_lt (Nat.lt_of_lt_of_le h (Nat.le_add_right _ _))
    exact ⟨c _ 2 4 (by decide), c _ 3 4 (by decide), c _ 0 4 (by decide), c _ 1 4 (by decide), c _ 2 3 (by decide), c _ 2 0 (by decide), c _ 2 1 (by decide), c _ 3 0 (by decide), c _ 3 1 (by decide), c _ 0 1 (by decide),
      l _ _ 4 la, l _ _ 3 la, l _ _ 0 la, l _ _ 1 la, l _ _ 4 lb, l _ _ 3 lb, l _ _ 0 lb, l _ _ 1 lb⟩
  refine ⟨s1.heap.objs.size + 4, [s1.heap.objs.size + 4, s1.heap.objs.size + 2, s1.heap.objs.size + 3, s1.heap.objs.size, s1.heap.objs.size + 1], _, _, H1, rfl, I1.kept (t' := s1.toks) kp, turn_zip a b _ _ _ _ _ D, ⟨w1, w2, ⟨_, _, w3⟩, w4, w5⟩, fun c hc => ?_, q⟩
  have le : s1.heap.objs.size ≤ c := by
    simp only [List.mem_cons, List.not_mem_nil, or_false] at hc
    rcases hc with r | r | r | r | r <;> rw [r]
    · exact Nat.le_add_right _ _
    · exact Nat.le_add_right _ _
    · exact Nat.le_add_right _ _
    · exact Nat.le_refl _
    · exact Nat.le_add_right _ _
  exact I1.fpOk le (I1.hok.fresh le)
theorem for_zip {K : PySem.W.Frag} {a b : Addr} {xs ys : List V} (hlen : xs.length = ys.length) {g : TG} {tb : TS} {D : Ends} {σ : St} {H : Hp} (Pv : Nat → St → Hp → Prop) (h0 : Pv 0 σ H) (hl : ∀ i σ H, i ≤ xs.length → Pv i σ H → SqL K H a xs ∧ SqL K H b ys)
    (hs : ∀ i x y p σ H, xs[i]? = some x → ys[i]? = some y → Pv i σ H → H p = none → g (.ref p) σ (upd H p (.tup [x, y])) fun σ2 H2 => tb { D with nx := Pv (i + 1), ct := Pv (i + 1), bk := D.nx } σ2 H2) (hd : ∀ σ H, Pv xs.length σ H → D.nx σ H) :
    ∃ W : Nat → Nat → St → Hp → Prop, (∃ m, W 0 m σ H) ∧ ∀ i m σ H, W i m σ H →
      ((Itz K a b).stop i H ∧ D.nx σ H) ∨ ((Itz K a b).go i H ∧ ∃ N : St → Hp → Prop, (∀ σ' H', N σ' H' → ∃ m', m' < m ∧ W (i + 1) m' σ' H') ∧ ∀ x H', (Itz K a b).yld i H x H' → g x σ H' fun σ2 H2 => tb { D with nx := N, ct := N, bk := D.nx } σ2 H2) := by
  refine ⟨fun i m σ H => m = xs.length - i ∧ i ≤ xs.length ∧ Pv i σ H, ⟨xs.length, by simp, Nat.zero_le _, h0⟩, ?_⟩
  rintro i m σ H ⟨rfl, hi, p⟩
  obtain ⟨q1, q2⟩ := hl i σ H hi p
  by_cases hlt : i < xs.length
  · refine .inr ⟨⟨xs, ys, xs[i], ys[i], q1, q2, by simp [hlt], by simp [show i < ys.length by omega]⟩, Pv (i + 1), fun σ' H' p' => ⟨xs.length - (i + 1), by omega, rfl, hlt, p'⟩, fun x H' y => ?_⟩
    obtain ⟨pt, u, v, hn, e1, e2, y1, y2⟩ := y
    subst e1 e2
    exact hs i u v pt σ _ (y1 xs q1) (y2 ys q2) p hn
  · have e : i = xs.length := by omega
    subst e
    exact .inl ⟨⟨xs, ys, q1, q2, .inl (Nat.le_refl _)⟩, hd σ H p⟩
end
end L2

namespace L2
open PySem PySem.Spec PyProof.Rows
open AutoSeq1 (wpAny_loadPart')
/-! ### enumerate of a tuple -/
section
variable {P : Program} {w : World} {A : Around} {E : Value → Shared → Prop} {s : Shared}
theorem nextT_item {j a : Addr} {k : Nat} {xs : Array Value} {x : Value} {Q : Value → Shared → Prop} (hj : s.heap.IsTupleIter j a k) (ha : s.heap.IsTuple a xs) (hx : xs[k]? = some x)
    (q : ∀ h', h'.IsTupleIter j a (k + 1) → Heap.SameBut j s.heap h' → Q x { s with heap := h' }) : wpAny (model P w) A (Builtin.SmallTypes.nextOf (.ref j)) Q E s := by
  obtain ⟨ob, e1, c1, d1⟩ := id hj
  obtain ⟨oa, e2, _, na, d2⟩ := ha
  unfold Builtin.SmallTypes.nextOf
  refine wpAny_bind (wpAny_callSpecial?_slot (name := Str.ofString "__next__") hj.typeIs F.slot_tuple_iterator_next (wpAny_call_entry F.slot_tuple_iterator_next hj.typeIs F.entry_tuple_iterator_next ?_ (F.args_tuple_iterator_next_1 _)))
  show wpAny _ _ (field (.ref j) 0 >>= _) _ _ s
  refine wpAny_bind (wpAny_field e1 d1 (x := .ref a) rfl ?_)
  show wpAny _ _ (if (Value.ref a == Value.none) = true then _ else _) _ _ s
  rw [if_neg (show ¬ ((Value.ref a == Value.none) = true) from Bool.false_ne_true)]
  show wpAny _ _ (field (.ref j) 1 >>= _) _ _ s
  refine wpAny_bind (wpAny_field e1 d1 (x := .int k 0) rfl ?_)
  show wpAny _ _ (seqItems? (.ref a) >>= _) _ _ s
  refine wpAny_bind (wpAny_seqItems e2 d2 ?_)
  simp only [Int.toNat_natCast, hx]
  refine wpAny_bind (wpAny_setField e1 d1 (by simp) (wpAny_pure ⟨x, rfl, wpAny_pure (q _ ?_ (Heap.SameBut.update ..))⟩))
  exact ⟨_, Heap.get?_update_self _ e1 (Obj.isFreed_of_fields (Obj.data_mapFields d1 _)), (Obj.cls_mapFields ..).trans c1, by rw [Obj.data_mapFields d1]; simp [rawInt]⟩
theorem nextT_end {j a : Addr} {k : Nat} {xs : Array Value} {Q : Value → Shared → Prop} (hd : A.handled = none) (hj : s.heap.IsTupleIter j a k) (ha : s.heap.IsTuple a xs) (hx : xs[k]? = none)
    (q : ∀ h' e, Heap.ExtBut j s.heap h' → (∃ o, h'.get? e = some o ∧ o.cls = .type "StopIteration") → E (.ref e) { s with heap := h' }) : wpAny (model P w) A (Builtin.SmallTypes.nextOf (.ref j)) Q E s := by
  obtain ⟨ob, e1, c1, d1⟩ := id hj
  obtain ⟨oa, e2, _, na, d2⟩ := ha
  unfold Builtin.SmallTypes.nextOf
  refine wpAny_bind (wpAny_callSpecial?_slot (name := Str.ofString "__next__") hj.typeIs F.slot_tuple_iterator_next (wpAny_call_entry F.slot_tuple_iterator_next hj.typeIs F.entry_tuple_iterator_next ?_ (F.args_tuple_iterator_next_1 _)))
  show wpAny _ _ (field (.ref j) 0 >>= _) _ _ s
  refine wpAny_bind (wpAny_field e1 d1 (x := .ref a) rfl ?_)
  show wpAny _ _ (if (Value.ref a == Value.none) = true then _ else _) _ _ s
  rw [if_neg (show ¬ ((Value.ref a == Value.none) = true) from Bool.false_ne_true)]
  show wpAny _ _ (field (.ref j) 1 >>= _) _ _ s
  refine wpAny_bind (wpAny_field e1 d1 (x := .int k 0) rfl ?_)
  show wpAny _ _ (seqItems? (.ref a) >>= _) _ _ s
  refine wpAny_bind (wpAny_seqItems e2 d2 ?_)
  simp only [Int.toNat_natCast, hx]
  refine wpAny_bind (wpAny_rule (wpAny_bind (wpAny_setField e1 d1 (by simp) ?_)))
  show wpAny _ _ (newExc (.type "StopIteration") [] >>= _) _ _ _; refine wpAny_bind ?_; simp only [newExc, newTuple]
  refine wpAny_bind (wpAny_newObj_type ?_ (by size_fits)); refine wpAny_bind (m := firstArgMember _ _) (wpAny_of_eq (a := Value.none) (by first | rfl | (simp only [firstArgMember]; rfl)) ?_); refine wpAny_newObj_type ?_ (by size_fits)
  simp only [raiseNew]; refine wpAny_bind (wpAny_handled ?_); first | rw [show A.in1.handled = none from hd] | rw [hd]
  refine wpAny_bind (wpAny_pure (wpAny_throw ?_)); exact q _ _ (((Heap.SameBut.update ..).extBut.push _).push _) ⟨_, Heap.get?_push_size _ rfl, rfl⟩
end
theorem drawsT {P : Program} {w : World} {A : Around} (hh : A.handled = none) (j a : Addr) (hne : a ≠ j) (xs : Array Value) :
    Draws P w A j [j, a] xs.size (fun i v => xs[i]? = some v) (fun i h => h.IsTupleIter j a i ∧ h.IsTuple a xs) where
  live := fun _ _ st => let ⟨o, ho, _⟩ := st.1; ⟨o, ho⟩
  frame := fun _ _ _ st hk => ⟨st.1.at fun o e => hk j (by simp) o e, by obtain ⟨o, ho, r⟩ := st.2; exact ⟨o, hk a (by simp) o ho, r⟩⟩
  item := fun i s Q E hi st hQ => nextT_item st.1 st.2 (x := xs[i]) (by simp [hi]) fun h' hj' hs' => hQ _ h' s.toks (by simp [hi]) ⟨hj', st.2.extBut hs'.extBut hne⟩ hs'
  done := fun s Q E st hE => nextT_end hh st.1 st.2 (by simp) hE
theorem meets_enumT (a : Addr) (xs : Array Value) (n : Nat) (dct : Option Addr) (sl : Array (Option Value)) :
    Meets (Builtin.«enumerate.__new__» ⟨[.type "enumerate", .ref a], []⟩) (fun _ R s => s.heap.get? a = some { cls := .type "tuple", dict := dct, data := .seq xs n, slots := sl } ∧
      R (.ok (.ret (.ref (s.heap.push { cls := .type "tuple_iterator", data := .fields #[.ref a, .int 0 0] }).objs.size)))
        { s with heap := (s.heap.push { cls := .type "tuple_iterator", data := .fields #[.ref a, .int 0 0] }).push { cls := .type "enumerate", data := .fields #[.none, .bool false, .ref s.heap.objs.size, rawInt 0, .none, .none] } }) :=
  .of_wp fun prog w A R s h => by
    obtain ⟨hp, g, d, tk, os⟩ := s; obtain ⟨e1, h⟩ := h
    have hsub := sub_enumerate
    have eT : Heap.IsTuple (Shared.heap ⟨hp, g, d, tk, os⟩) a xs := ⟨_, e1, rfl, n, rfl⟩
    wp_walk using wpAny_loadPart' e1
    refine wpAny_stack_any fun st => wpAny_pure ?_
    split
    · rename_i c _ _ _ _ _
      cases (c == Value.type "enumerate") <;> (wp_walk using wpAny_loadPart' e1, wpAny_pyIter_tuple eT; exact ⟨_, rfl, h⟩)
    · wp_walk using wpAny_loadPart' e1, wpAny_pyIter_tuple eT
      exact ⟨_, rfl, h⟩
theorem call_enumT {P : Program} {w : World} {A : Around} {E : Value → Shared → Prop} {s : Shared} {a : Addr} {xs : Array Value} {Q : Value → Shared → Prop} (ha : s.heap.IsTuple a xs)
    (h : ∀ h', IsEnum h' (s.heap.objs.size + 1) s.heap.objs.size 0 .none → h'.IsTupleIter s.heap.objs.size a 0 → h'.objs.size = s.heap.objs.size + 2 → (∀ b o, s.heap.get? b = some o → h'.get? b = some o) → Q (.ref (s.heap.objs.size + 1)) { s with heap := h' }) :
    wpAny (model P w) A (call (.type "enumerate") [.ref a]) Q E s := by
  obtain ⟨⟨c, dct, dt, sl⟩, e1, hc, n, hd⟩ := ha
  replace hc : c = .type "tuple" := hc
  replace hd : dt = .seq xs n := hd
  subst hc hd
  refine callType_new F.called_enumerate (by decide) (F.typeCall_enumerate_1 _) (F.newCall_enumerate_1 _) (fun obj => F.args_object_init_2 obj _) F.entry_enumerate_new (meets_enumT a xs n dct sl) ⟨e1, ?_⟩
  have hz : (s.heap.push { cls := .type "tuple_iterator", data := .fields #[.ref a, .int 0 0] }).objs.size = s.heap.objs.size + 1 := Heap.size_push ..
  show _ ∧ _
  rw [hz]
  have he : IsEnum ((s.heap.push { cls := .type "tuple_iterator", data := .fields #[.ref a, .int 0 0] }).push { cls := .type "enumerate", data := .fields #[.none, .bool false, .ref s.heap.objs.size, rawInt 0, .none, .none] }) (s.heap.objs.size + 1) s.heap.objs.size 0 .none := by
    have := Heap.get?_push_size (s.heap.push { cls := .type "tuple_iterator", data := .fields #[.ref a, .int 0 0] }) (o := { cls := .type "enumerate", data := .fields #[.none, .bool false, .ref s.heap.objs.size, rawInt 0, .none, .none] }) rfl
    rw [hz] at this; exact this
  exact ⟨⟨_, he, rfl⟩, h _ he ⟨_, Heap.get?_push_of_some _ (Heap.get?_push_size _ rfl), rfl, rfl⟩ (by rw [Heap.size_push, hz]) fun b o x => Heap.get?_push_of_some _ (Heap.get?_push_of_some _ x)⟩

def IteT (K : PySem.W.Frag) (a : Addr) : It :=
  ⟨fun i H => ∃ xs x, SqT K H a xs ∧ xs[i]? = some x, fun i H x H' => ∃ p v, H p = none ∧ x = .ref p ∧ H' = upd H p (.tup [.int i, v]) ∧ ∀ xs, SqT K H a xs → xs[i]? = some v, fun i H => ∃ xs, SqT K H a xs ∧ xs.length = i⟩
theorem turn_enumT {P : Program} {w : World} {K : PySem.W.Frag} {es : List Expr} {k : Nat} {pos : Pos} (a e it : Addr) (hne : e ≠ it) (hea : e ≠ a) (hia : a ≠ it) : Turn P w K (.Tuple es k pos) (IteT K a) [e, it] e (fun i h => ∃ old, IsEnum h e it i old ∧ h.IsTupleIter it a i) where
  mem := by simp
  obj := fun i h st b hb => by
    obtain ⟨old, s1, o, s2, c, d⟩ := st
    rcases List.mem_cons.mp hb with rfl | hb
    · exact ⟨_, s1, fun v z => by cases (show Data.fields _ = Data.cell v from z)⟩
    · have e : b = it := by simpa using hb
      subst e
      exact ⟨o, s2, fun v z => by rw [d] at z; cases z⟩
  keep := fun i h h' st kk => by
    obtain ⟨old, s1, s2⟩ := st
    exact ⟨old, kk e (by simp) _ s1, s2.at fun o q => kk it (by simp) o q⟩
  item := by
    intro X hP hw hK hc i pins s σ H E I hf st hg
    subst hP hw hK
    obtain ⟨xs, x, hq, hx⟩ := hg
    obtain ⟨old, s1, s2⟩ := st
    obtain ⟨its, rv, p, hz⟩ := I.tuple hq
    obtain ⟨u, hu, ru⟩ := rv.get hx
    obtain ⟨f0, f1, f2, f3, f4, f5⟩ := hf e (by simp)
    obtain ⟨g0, g1, g2, g3, g4, g5⟩ := hf it (by simp)
    have elt : e < s.heap.objs.size := Heap.lt_size s1
    have hil : i < its.toArray.size := by have := (List.getElem?_eq_some_iff.mp hu).1; simpa using this
    refine wpAny_pyNext_enum_itemD (drawsT (A := X.A.in1) (I.ok.hd hc) it a hia its.toArray) s1 ⟨s2, p⟩ hil hne (by simp [hne, hea]) fun y h1 tk hy o1 st1 t1 z1 k1 => ?_
    have ey : y = u := by
      have : its[i]? = some y := by simpa using hy
      rw [hu] at this
      exact (Option.some.inj this).symm
    subst ey
    obtain ⟨i1, _⟩ := st1
    refine ⟨_, rfl, wpAny_letOwnedTupleGo_enum o1 fun h2 e2 sb => ?_⟩
    replace sb : Heap.SameBut e h1 h2 := sb
    have k2 : ∀ b o, b ≠ e → b ≠ it → s.heap.get? b = some o → h2.get? b = some o := fun b o hb hb2 q => (sb.2 b hb).trans (k1 b o hb hb2 q)
    have nb : ∀ b o, H b = some o → b ≠ e ∧ b ≠ it := fun b o q => And.intro (fun z => by rw [z, f0] at q; cases q) (fun z => by rw [z, g0] at q; cases q)
    have ht : h2.get? s.heap.objs.size = some { cls := .type "tuple", data := .seq #[.int i tk, y] } := (sb.2 _ (Nat.ne_of_gt elt)).trans t1
    have hfr : H s.heap.objs.size = none := I.fresh
    have itlt : it < s.heap.objs.size := by obtain ⟨o, q, _⟩ := s2; exact Heap.lt_size q
    have hokH : HOk X.prog X.w (upd H s.heap.objs.size (.tup [.int i, x])) h2 := fun b ob q => by
      by_cases hb : b = s.heap.objs.size
      · subst hb
        rw [upd_same] at q
        cases q
        exact ⟨by show 2 ≤ sizeLine; decide, [.int i tk, y], .cons ⟨_, rfl⟩ (.cons ru .nil), ⟨_, ht, rfl, 0, rfl⟩⟩
      · rw [upd_ne hb] at q
        refine (I.hok b ob q).stay (fun c v hcc qq => ?_) (fun c q => by rw [upd_ne (ne_of_none q hfr)]; exact q) fun c ys q => by rw [upd_ne (ne_of_none q hfr)]; exact q
        have hn : c ≠ e ∧ c ≠ it := by
          rcases hcc with z | z
          · rw [z]; exact nb b ob q
          · exact nb c _ z
        exact k2 c v hn.1 hn.2 qq
    have I2 : Inv X pins σ (upd H s.heap.objs.size (.tup [.int i, x])) { s with heap := h2, toks := tk + 1 } := by
      refine I.step (g' := s.gens) (d' := s.drawn) (ch := [e, it]) (fun b hb => ?_) (fun b o _ _ hc q _ => k2 b o (fun z => hc (by simp [z])) (fun z => hc (by simp [z])) q) (fun b o _ _ hc q _ => ⟨o.slots, k2 b o (fun z => hc (by simp [z])) (fun z => hc (by simp [z])) q⟩)
        (fun b o _ q n => by rw [upd_ne (Nat.ne_of_lt (Heap.lt_size q))]; exact n)
        (fun b o hc q => ?_) (fun b ys q => by rw [upd_ne (ne_of_none q hfr)]; exact q) (fun b o u q => by rw [upd_ne (ne_of_none q hfr)]; exact q) (fun b ps q => ⟨#[], by rw [upd_ne (ne_of_none q hfr), q]; simp⟩) (fun m hm => ?_) hokH I.bare
      · rcases List.mem_cons.mp hb with rfl | hb
        · exact ⟨f3, f1, f4, f5⟩
        · have q : b = it := by simpa using hb
          subst q
          exact ⟨g3, g1, g4, g5⟩
      · exact ⟨o, k2 b o (fun z => hc (by simp [z])) (fun z => hc (by simp [z])) q⟩
      · obtain ⟨o, es', ep, ho, r⟩ := hm
        exact ⟨o, es', ep, k2 _ o f1.symm g1.symm ho, r⟩
    refine ⟨.ref s.heap.objs.size, _, I2, rfl, ⟨_, x, hfr, rfl, rfl, fun ys hy => by rw [I.tuple_inj hy hq]; exact hx⟩, ⟨y, ?_, i1.extBut sb.extBut hne.symm⟩, fun b hb => ?_⟩
    · have e3 : IsEnum h2 e it ((i : Int) + 1) y := e2
      show IsEnum h2 e it ((i + 1 : Nat) : Int) y
      rw [Int.natCast_add]
      exact e3
    · rcases List.mem_cons.mp hb with rfl | hb
      · rw [upd_ne (Nat.ne_of_lt elt)]; exact f0
      · have q : b = it := by simpa using hb
        subst q
        rw [upd_ne (Nat.ne_of_lt itlt)]; exact g0
  done := by
    intro X hP hw hK hc i pins s σ H E I hf st hg
    subst hP hw hK
    obtain ⟨xs, hq, hx⟩ := hg
    obtain ⟨old, s1, s2⟩ := st
    obtain ⟨its, rv, p, hz⟩ := I.tuple hq
    obtain ⟨g0, g1, g2, g3, g4, g5⟩ := hf it (by simp)
    have hl := rv.length
    have ei : i = its.toArray.size := by simp; omega
    subst ei
    exact wpAny_pyNext_enum_endD (drawsT (A := X.A.in1) (I.ok.hd hc) it a hia its.toArray) s1 ⟨s2, p⟩ fun h' eb => ⟨rfl, I.turned (t' := s.toks) (fun b o hb q => eb b o hb q) g0 g1 g3 g4 g5⟩
  self := fun _ _ _ _ _ st h => by
    obtain ⟨old, s1, _⟩ := st
    exact wpAny_pyIter_enum s1 h
section
variable {X : Cx}
def iEnumT (K : PySem.W.Frag) (ta : TA) : TI := fun σ H R => ta σ H fun vs H1 => ∃ a, vs = [.ref a] ∧ (∃ xs, SqT K H1 a xs) ∧ R (IteT K a) H1
theorem pi_enumT {es : List Expr} {k : Nat} {l : Expr} {ta : TA} {p pos pos' : Pos} (hg : Gl X "enumerate") (hm : X.mg "enumerate" = none) (ha : PA X [l] ta) (hs : starEach [l] X.env = [(false, eval l X.env)] := by rfl) :
    PI X (.Tuple es k pos') (.Call (.Name "enumerate" p) [l] [] pos) (iEnumT X.K ta) := by
  intro pins s σ H R I h
  refine Call_ (ld_blt (u := .type "enumerate") I hg hm (by decide +kernel) (PyProof.Rows.callWith_type1 (thn (ha pos pins s σ H _ I h) fun us s1 ⟨vs, H1, I1, r1, q1⟩ => ?_) hs rfl))
  obtain ⟨a, e, ⟨xs, hq⟩, q⟩ := q1
  subst e
  obtain ⟨u, rfl, rx⟩ := vals1 r1
  cases rx
  obtain ⟨its, rv, pl, hz⟩ := I1.tuple hq
  have alt : a < s1.heap.objs.size := by obtain ⟨o, ho, _⟩ := (show s1.heap.IsTuple a its.toArray from pl); exact Heap.lt_size ho
  refine call_enumT (show s1.heap.IsTuple a its.toArray from pl) fun h' he hi hz' kp => wpAny_pyIter_enum he ?_
  refine ⟨s1.heap.objs.size + 1, [s1.heap.objs.size + 1, s1.heap.objs.size], _, _, H1, rfl, I1.kept (t' := s1.toks) kp, turn_enumT a _ _ (Nat.succ_ne_self _) (Nat.ne_of_gt (Nat.lt_succ_of_lt alt)) (Nat.ne_of_lt alt), ⟨_, he, hi⟩, fun b hb => ?_, q⟩
  rcases List.mem_cons.mp hb with rfl | hb
  · exact I1.fpOk (Nat.le_succ _) (I1.hok.fresh (Nat.le_succ _))
  · have e : b = s1.heap.objs.size := by simpa using hb
    subst e
    exact I1.fpOk (Nat.le_refl _) (I1.hok.fresh (Nat.le_refl _))
/-- over enumerate(a tuple) -/
theorem for_enumT {K : PySem.W.Frag} {a : Addr} {xs : List V} {g : TG} {tb : TS} {D : Ends} {σ : St} {H : Hp} (Pv : Nat → St → Hp → Prop) (h0 : Pv 0 σ H) (hl : ∀ i σ H, i ≤ xs.length → Pv i σ H → SqT K H a xs)
    (hs : ∀ i x p σ H, xs[i]? = some x → Pv i σ H → H p = none → g (.ref p) σ (upd H p (.tup [.int i, x])) fun σ2 H2 => tb { D with nx := Pv (i + 1), ct := Pv (i + 1), bk := D.nx } σ2 H2) (hd : ∀ σ H, Pv xs.length σ H → D.nx σ H) :
    ∃ W : Nat → Nat → St → Hp → Prop, (∃ m, W 0 m σ H) ∧ ∀ i m σ H, W i m σ H →
      ((IteT K a).stop i H ∧ D.nx σ H) ∨ ((IteT K a).go i H ∧ ∃ N : St → Hp → Prop, (∀ σ' H', N σ' H' → ∃ m', m' < m ∧ W (i + 1) m' σ' H') ∧ ∀ x H', (IteT K a).yld i H x H' → g x σ H' fun σ2 H2 => tb { D with nx := N, ct := N, bk := D.nx } σ2 H2) := by
  refine ⟨fun i m σ H => m = xs.length - i ∧ i ≤ xs.length ∧ Pv i σ H, ⟨xs.length, by simp, Nat.zero_le _, h0⟩, ?_⟩
  rintro i m σ H ⟨rfl, hi, p⟩
  have q := hl i σ H hi p
  by_cases hlt : i < xs.length
  · refine .inr ⟨⟨xs, xs[i], q, by simp [hlt]⟩, Pv (i + 1), fun σ' H' p' => ⟨xs.length - (i + 1), by omega, rfl, hlt, p'⟩, fun x H' y => ?_⟩
    obtain ⟨pt, v, hn, e1, e2, y⟩ := y
    subst e1 e2
    exact hs i v pt σ _ (y xs q) p hn
  · have e : i = xs.length := by omega
    subst e
    exact .inl ⟨⟨xs, q, rfl⟩, hd σ H p⟩
/-- a comprehension over a tuple -/
theorem lc_tup {K : PySem.W.Frag} {a : Addr} {xs : List V} {σ0 : St} {g : TG} {tc : TT} {te : TE} {Q : VK} {H1 : Hp} (Pv : Addr → Nat → List V → Hp → Prop)
    (h0 : ∀ D, H1 D = none → Pv D 0 [] (upd H1 D (.lst []))) (hl : ∀ D i acc H, i ≤ xs.length → Pv D i acc H → SqT K H a xs)
    (hs : ∀ D i x acc H2, xs[i]? = some x → Pv D i acc H2 → g x σ0 H2 fun σ4 H4 => CapKeep σ0 σ4 ∧ tc σ4 H4 fun b H5 =>
      if b = true then te σ4 H5 fun y H6 => H6 D = some (.lst acc) ∧ acc.length < sizeLine ∧ Pv D (i + 1) (acc ++ [y]) (upd H6 D (.lst (acc ++ [y]))) else Pv D (i + 1) acc H5)
    (hd : ∀ D acc H2, Pv D xs.length acc H2 → Q (.ref D) H2) : LCw σ0 g tc te Q (Itt K a) H1 := by
  intro D hD
  refine ⟨fun i m acc H => m = xs.length - i ∧ i ≤ xs.length ∧ Pv D i acc H, ⟨xs.length, by simp, Nat.zero_le _, h0 D hD⟩, ?_⟩
  rintro i m acc H2 ⟨rfl, hi, p⟩
  have q := hl D i acc H2 hi p
  by_cases hlt : i < xs.length
  · refine .inr ⟨⟨xs, xs[i], q, by simp [hlt]⟩, Pv D (i + 1), fun acc' H' p' => ⟨xs.length - (i + 1), by omega, rfl, hlt, p'⟩, fun x H' y => ?_⟩
    obtain ⟨e, y⟩ := y
    subst e
    exact hs D i x acc _ (y xs q) p
  · have e : i = xs.length := by omega
    subst e
    exact .inl ⟨⟨xs, q, Nat.le_refl _⟩, hd D acc H2 p⟩
/-! ### a tuple of ints among tuples of ints in a list -/
theorem eqAt_tups {pins : List (Addr × Obj)} {σ : St} {H : Hp} {s : Shared} {A : Around} {a b : Addr} {ns ms : List Int} (I : Inv X pins σ H s) (ha : SqT X.K H a (ns.map V.int)) (hb : SqT X.K H b (ms.map V.int)) (hl : ns.length = ms.length) (hu : A.units < cLine) :
    SeqAt.RcAt A s (.ref a) (.ref b) (decide (ns = ms)) := by
  obtain ⟨its, r1, p1, z1⟩ := I.tuple ha
  obtain ⟨its2, r2, p2, z2⟩ := I.tuple hb
  have l1 := r1.length
  have l2 := r2.length
  rw [List.length_map] at l1 l2
  have q := SeqAt.RcAt.tuples (A := A) (e := fun j => ns.getD j 0 == ms.getD j 0) (show s.heap.IsTuple a its.toArray from p1) (show s.heap.IsTuple b its2.toArray from p2) hu (fun j h1 h2 => by
    have h1' : j < its.length := by simpa using h1
    have h2' : j < its2.length := by simpa using h2
    have g1 : (ns.map V.int)[j]? = some (.int (ns.getD j 0)) := by
      rw [List.getElem?_map, List.getElem?_eq_getElem (by omega : j < ns.length)]
      simp [List.getD_eq_getElem?_getD, List.getElem?_eq_getElem (by omega : j < ns.length)]
    have g2 : (ms.map V.int)[j]? = some (.int (ms.getD j 0)) := by
      rw [List.getElem?_map, List.getElem?_eq_getElem (by omega : j < ms.length)]
      simp [List.getD_eq_getElem?_getD, List.getElem?_eq_getElem (by omega : j < ms.length)]
    obtain ⟨u1, e1, t1, rfl⟩ := r1.get g1
    obtain ⟨u2, e2, t2, rfl⟩ := r2.get g2
    have f1 : its.toArray[j] = Value.int (ns.getD j 0) t1 := by
      rw [List.getElem?_eq_getElem h1'] at e1; simpa using e1
    have f2 : its2.toArray[j] = Value.int (ms.getD j 0) t2 := by
      rw [List.getElem?_eq_getElem h2'] at e2; simpa using e2
    rw [f1, f2]
    exact SeqAt.EqAt.int_int _ _ _ _)
  have ez : (its.toArray.size == its2.toArray.size) = true := by simp; omega
  rw [ez, Bool.and_true, List.size_toArray, List.size_toArray, ← l1, ← l2, hl, Nat.min_self, ← hl, range_all_eq ns ms hl] at q
  exact q
/-- is the tuple among them, by what is in it -/
def rInTups (K : PySem.W.Frag) (m : Nat) (neg : Bool) : R2 := fun x y H Q => ∃ (p l : Addr) (ns : List Int) (ps : List Addr) (tss : List (List Int)), x = .ref p ∧ y = .ref l ∧ ns.length = m ∧ SqT K H p (ns.map V.int) ∧ SqL K H l (ps.map V.ref) ∧
  Paired (fun a (r : List Int) => r.length = m ∧ SqT K H a (r.map V.int)) ps tss ∧ Q (.bl (if neg then !decide (ns ∈ tss) else decide (ns ∈ tss))) H
theorem op_notIn_tups {m : Nat} (hu : X.A.units + 1 < cLine) : OpR X (compareOp .NotIn) (rInTups X.K m true) := by
  intro pins s σ H x y v u Q I rx ry h
  obtain ⟨p, l, ns, ps, tss, rfl, rfl, hm, hp, hl, hps, q⟩ := h
  cases rx; cases ry
  obtain ⟨its, r, pl, hz⟩ := I.list hl
  have len := hps.length
  have hu1 : X.A.in1.units < cLine := by
    have : X.A.in1.units ≤ X.A.units + 1 := by first | exact Nat.le_refl _ | simp [Around.in1]
    omega
  have ev : its = ps.map Value.ref := by
    refine List.ext_getElem? fun i => ?_
    rw [List.getElem?_map]
    cases e : ps[i]? with
    | none =>
      have hi := List.getElem?_eq_none_iff.mp e
      have := r.length
      rw [List.length_map] at this
      rw [List.getElem?_eq_none_iff.mpr (by omega)]; rfl
    | some a =>
      obtain ⟨u, e1, e2⟩ := r.get (i := i) (x := .ref a) (by rw [List.getElem?_map, e]; rfl)
      cases e2
      exact e1
  subst ev
  let cnt : Value → Bool := fun v => match v with
    | .ref a => @decide (∃ i : Nat, ps[i]? = some a ∧ tss[i]? = some ns) (Classical.propDecidable _)
    | _ => false
  refine SeqAt.notIn_listAt cnt pl.isList (fun w hw => ?_) ⟨.bl _, H, I, rfl, ?_⟩
  · have hw' : w ∈ ps.map Value.ref := by simpa using hw
    obtain ⟨a, ha, rfl⟩ := List.mem_map.mp hw'
    obtain ⟨i, hi, e⟩ := List.mem_iff_getElem.mp ha
    obtain ⟨ms, em, lm, sm⟩ := KH.paired_getA hps (i := i) (a := a) (by rw [List.getElem?_eq_getElem hi, e])
    have key : cnt (.ref a) = decide (ms = ns) := by
      show @decide (∃ i : Nat, ps[i]? = some a ∧ tss[i]? = some ns) (Classical.propDecidable _) = decide (ms = ns)
      by_cases c : ms = ns
      · rw [decide_eq_true c]
        exact @decide_eq_true _ (Classical.propDecidable _) ⟨i, by rw [List.getElem?_eq_getElem hi, e], by rw [em, c]⟩
      · rw [decide_eq_false c]
        refine @decide_eq_false _ (Classical.propDecidable _) fun ⟨j, e1, e2⟩ => ?_
        obtain ⟨ms', em', _, sm'⟩ := KH.paired_getA hps e1
        rw [e2] at em'
        have e3 := Option.some.inj em'
        rw [← e3] at sm'
        have := I.tuple_inj sm sm'
        exact c ((List.map_inj_right (fun x y h => by injection h)).mp this)
    rw [key]
    by_cases hab : a = p
    · subst hab
      have : ms = ns := (List.map_inj_right (fun x y h => by injection h)).mp (I.tuple_inj sm hp)
      rw [decide_eq_true this]
      exact SeqAt.EqAt.same _
    · exact SeqAt.EqAt.of_refs hab (eqAt_tups I sm hp (by omega) hu1)
  · have : (ps.map Value.ref).toArray.any cnt = decide (ns ∈ tss) := by
      rw [show (ps.map Value.ref).toArray.any cnt = (ps.map Value.ref).any cnt by simp, Bool.eq_iff_iff, List.any_eq_true, decide_eq_true_iff]
      constructor
      · rintro ⟨w, hw, c⟩
        obtain ⟨a, ha, rfl⟩ := List.mem_map.mp hw
        obtain ⟨i, _, e2⟩ := @of_decide_eq_true (∃ i : Nat, ps[i]? = some a ∧ tss[i]? = some ns) (Classical.propDecidable _) c
        exact List.mem_of_getElem? e2
      · intro hm
        obtain ⟨i, hi, e⟩ := List.mem_iff_getElem.mp hm
        obtain ⟨a, ea, _⟩ := KH.paired_get hps (i := i) (b := ns) (by rw [List.getElem?_eq_getElem hi, e])
        exact ⟨.ref a, List.mem_map.mpr ⟨a, List.mem_of_getElem? ea, rfl⟩, @decide_eq_true _ (Classical.propDecidable _) ⟨i, ea, by rw [List.getElem?_eq_getElem hi, e]⟩⟩
    rw [this]
    exact q
/-! ### lists of halls -/
theorem eqAt_rows {pins : List (Addr × Obj)} {σ : St} {H : Hp} {s : Shared} {A : Around} {a b : Addr} {as bs : List Addr} {ns ms : List (List Int)} (I : Inv X pins σ H s) (ha : SqL X.K H a (as.map V.ref)) (hb : SqL X.K H b (bs.map V.ref)) (rn : RowsAt X.K H as ns) (rm : RowsAt X.K H bs ms) (hu : A.units < cLine) (hu1 : A.in1.units < cLine) :
    SeqAt.RcAt A s (.ref a) (.ref b) (decide (ns = ms)) := by
  obtain ⟨its, r1, p1, z1⟩ := I.list ha
  obtain ⟨its2, r2, p2, z2⟩ := I.list hb
  have l1 := r1.length
  have l2 := r2.length
  rw [List.length_map] at l1 l2
  have ln := rn.length
  have lm := rm.length
  by_cases hl : ns.length = ms.length
  · have hsz : its.toArray.size = its2.toArray.size := by simp only [List.size_toArray]; omega
    have q := SeqAt.RcAt.lists (A := A) (e := fun j => decide (ns.getD j [] = ms.getD j [])) p1.isList p2.isList hsz hu (fun j h1 h2 => by
      have h1' : j < its.length := by simpa using h1
      have h2' : j < its2.length := by simpa using h2
      obtain ⟨a, ea, sa⟩ := rn.get (i := j) (r := ns.getD j []) (by rw [List.getElem?_eq_getElem (by omega : j < ns.length)]; simp [List.getD_eq_getElem?_getD, List.getElem?_eq_getElem (by omega : j < ns.length)])
      obtain ⟨b, eb, sb⟩ := rm.get (i := j) (r := ms.getD j []) (by rw [List.getElem?_eq_getElem (by omega : j < ms.length)]; simp [List.getD_eq_getElem?_getD, List.getElem?_eq_getElem (by omega : j < ms.length)])
      obtain ⟨u1, e1, q1⟩ := r1.get (i := j) (x := .ref a) (by rw [List.getElem?_map, ea]; rfl)
      obtain ⟨u2, e2, q2⟩ := r2.get (i := j) (x := .ref b) (by rw [List.getElem?_map, eb]; rfl)
      cases q1; cases q2
      have f1 : its.toArray[j] = Value.ref a := by
        rw [List.getElem?_eq_getElem h1'] at e1; simpa using e1
      have f2 : its2.toArray[j] = Value.ref b := by
        rw [List.getElem?_eq_getElem h2'] at e2; simpa using e2
      rw [f1, f2]
      by_cases hab : a = b
      · subst hab
        have hm : (ns.getD j []).map V.int = (ms.getD j []).map V.int := I.list_inj sa sb
        have hm' : ns.getD j [] = ms.getD j [] := (List.map_inj_right (fun x y h => by injection h)).mp hm
        rw [decide_eq_true hm']
        exact SeqAt.EqAt.same _
      · exact SeqAt.EqAt.of_refs hab (eqAt_ints I sa sb hu1))
    rw [List.size_toArray, ← l1, ln, range_all_rows ns ms hl] at q
    exact q
  · rw [decide_eq_false (fun e => hl (by rw [e]))]
    exact SeqAt.RcAt.lists_lengths p1.isList p2.isList (by simp only [List.size_toArray, bne_iff_ne]; omega) hu
/-- a hall is read at p -/
def HallR (K : PySem.W.Frag) (H : Hp) (p : Addr) (rows : List (List Int)) : Prop := ∃ as : List Addr, SqL K H p (as.map V.ref) ∧ RowsAt K H as rows
/-- [a, b] == [c, d], where a and c hold the same, b and d too -/
def rEqTwo (K : PySem.W.Frag) : R2 := fun x y H Q => ∃ (l m a b c d : Addr) (r1 r2 : List (List Int)), x = .ref l ∧ y = .ref m ∧ SqL K H l [.ref a, .ref b] ∧ SqL K H m [.ref c, .ref d] ∧ HallR K H a r1 ∧ HallR K H b r2 ∧ HallR K H c r1 ∧ HallR K H d r2 ∧ Q (.bl true) H
theorem eqTwo {pins : List (Addr × Obj)} {σ : St} {H : Hp} {s : Shared} {l m a b c d : Addr} {r1 r2 : List (List Int)} (hu : X.A.units + 2 < cLine) (I : Inv X pins σ H s) (hl : SqL X.K H l [.ref a, .ref b]) (hm : SqL X.K H m [.ref c, .ref d]) (ha : HallR X.K H a r1) (hb : HallR X.K H b r2) (hc : HallR X.K H c r1) (hd : HallR X.K H d r2) :
    SeqAt.RcAt X.A s (.ref l) (.ref m) true := by
  obtain ⟨its, v1, p1, z1⟩ := I.list hl
  obtain ⟨its2, v2, p2, z2⟩ := I.list hm
  have u1 : X.A.in1.units ≤ X.A.units + 1 := by first | exact Nat.le_refl _ | simp [Around.in1]
  have u2 : X.A.in1.in1.units ≤ X.A.units + 2 := by first | exact Nat.le_refl _ | simp [Around.in1]
  obtain ⟨w0, e0, q0⟩ := v1.get (i := 0) (x := .ref a) rfl
  obtain ⟨w1, e1, q1⟩ := v1.get (i := 1) (x := .ref b) rfl
  obtain ⟨y0, g0, k0⟩ := v2.get (i := 0) (x := .ref c) rfl
  obtain ⟨y1, g1, k1⟩ := v2.get (i := 1) (x := .ref d) rfl
  cases q0; cases q1; cases k0; cases k1
  have i1 : its = [.ref a, .ref b] := by
    have := v1.length
    match its, this, e0, e1 with
    | [x, y], _, e0, e1 => simp at e0 e1; rw [e0, e1]
  have i2 : its2 = [.ref c, .ref d] := by
    have := v2.length
    match its2, this, g0, g1 with
    | [x, y], _, g0, g1 => simp at g0 g1; rw [g0, g1]
  subst i1 i2
  have eq : ∀ {x y : Addr} {r : List (List Int)}, HallR X.K H x r → HallR X.K H y r → SeqAt.EqAt X.A.in1 s (.ref x) (.ref y) true := fun {x y r} hx hy => by
    by_cases e : x = y
    · subst e; exact SeqAt.EqAt.same _
    · obtain ⟨as, sx, rx⟩ := hx
      obtain ⟨bs, sy, ry⟩ := hy
      have := eqAt_rows (A := X.A.in1) I sx sy rx ry (by omega) (by omega)
      rw [decide_eq_true rfl] at this
      exact SeqAt.EqAt.of_refs e this
  have q := SeqAt.RcAt.lists (A := X.A) (e := fun _ => true) p1.isList p2.isList rfl (by omega) (fun j h1 h2 => by
    have : j = 0 ∨ j = 1 := by
      have : j < 2 := h1
      omega
    rcases this with rfl | rfl
    · exact eq ha hc
    · exact eq hb hd)
  exact q
theorem op_eq_two (hu : X.A.units + 2 < cLine) : OpR X (compareOp .Eq) (rEqTwo X.K) := by
  intro pins s σ H x y v u Q I rx ry h
  obtain ⟨l, m, a, b, c, d, r1, r2, rfl, rfl, hl, hm, ha, hb, hc, hd, q⟩ := h
  cases rx; cases ry
  exact eqTwo hu I hl hm ha hb hc hd X.prog X.w X.xe _ ⟨.bl _, H, I, rfl, q⟩
end
end L2

namespace L2
open PySem PySem.Spec PyProof.Rows
/-! ### xs[k] op= e -/
section
variable {X : Cx}
def rGetL (K : PySem.W.Frag) : V → V → Hp → VK → Prop := fun o i H Q => ∃ p xs k v, o = .ref p ∧ i = .int k ∧ 0 ≤ k ∧ SqL K H p xs ∧ atI xs k = some v ∧ Q v H
theorem get_list : PGet X (rGetL X.K) := by
  intro pins s σ H o i ov iv Q I ro ri h
  obtain ⟨p, xs, k, z, rfl, rfl, h0, hq, he, q⟩ := h
  cases ro
  obtain ⟨t, rfl⟩ := ri
  obtain ⟨its, r, pl, hz⟩ := I.list hq
  obtain ⟨j, h1, h2, h3, h4, h5⟩ := atI_get he
  obtain ⟨w, ew, rw'⟩ := r.get h2
  have hl := r.length
  have hn := line63
  have hj : k.toNat = j := by
    rw [seqIndex_of h0 h5] at h1
    exact Option.some.inj h1
  exact wpAny_getItem_list pl.isList h0 (by omega) (by rw [hj]; simpa using ew) ⟨z, H, I, rw', q⟩
end
end L2

namespace KH
open PySem L2
/-! ### l[:k], l[k:] -/
theorem cutTake {xs : List V} {k : Nat} {i : Int} (e : i = ((k : Nat) : Int)) : cutV xs none (some i) = xs.take k := by
  subst e
  unfold cutV
  rw [HT.sIx_nat, HT.sIx_none, Nat.sub_zero, List.drop_zero]
  by_cases h : k ≤ xs.length
  · rw [Nat.min_eq_left h]
  · rw [Nat.min_eq_right (by omega), List.take_length, List.take_of_length_le (by omega)]
theorem cutDrop {xs : List V} {k : Nat} {i : Int} (e : i = ((k : Nat) : Int)) : cutV xs (some i) none = xs.drop k := by
  subst e
  unfold cutV
  rw [HT.sIx_nat, HT.sIx_none]
  by_cases h : k ≤ xs.length
  · rw [Nat.min_eq_left h, List.take_of_length_le (by rw [List.length_drop]; omega)]
  · rw [Nat.min_eq_right (by omega), List.drop_eq_nil_of_le (Nat.le_refl _), List.drop_eq_nil_of_le (by omega)]
    simp
end KH

namespace L2
open PySem PySem.Spec PyProof.Rows
/-! ### texts by their code points -/
abbrev txt (l : List Nat) : Str := ⟨l.toArray⟩
theorem txt_of (x : Str) : x = txt x.cps.toList := by cases x; simp
theorem txt_len (l : List Nat) : (txt l).length = l.length := by show l.toArray.size = _; simp
theorem txt_inj {l m : List Nat} (h : txt l = txt m) : l = m := by
  have := congrArg (fun x : Str => x.cps.toList) h
  simpa using this
theorem txt_app (l m : List Nat) : txt l ++ txt m = txt (l ++ m) := by
  show (⟨l.toArray ++ m.toArray⟩ : Str) = _
  simp
theorem dec_txt (l m : List Nat) : decide (V.str (txt l) = V.str (txt m)) = decide (l = m) := by
  by_cases h : l = m
  · rw [decide_eq_true h, decide_eq_true (by rw [h])]
  · rw [decide_eq_false h, decide_eq_false (fun e => h (txt_inj (by injection e)))]
/-- the code points of x[lo:hi] -/
def cutN (l : List Nat) (lo hi : Option Int) : List Nat := (l.drop (HT.sIx l.length 0 lo)).take (HT.sIx l.length l.length hi - HT.sIx l.length 0 lo)
theorem cutN_take {l : List Nat} {k : Nat} {i : Int} (e : i = ((k : Nat) : Int)) : cutN l none (some i) = l.take k := by
  subst e
  unfold cutN
  rw [HT.sIx_nat, HT.sIx_none, Nat.sub_zero, List.drop_zero]
  by_cases h : k ≤ l.length
  · rw [Nat.min_eq_left h]
  · rw [Nat.min_eq_right (by omega), List.take_length, List.take_of_length_le (by omega)]
theorem cutN_drop {l : List Nat} {k : Nat} {i : Int} (e : i = ((k : Nat) : Int)) : cutN l (some i) none = l.drop k := by
  subst e
  unfold cutN
  rw [HT.sIx_nat, HT.sIx_none]
  by_cases h : k ≤ l.length
  · rw [Nat.min_eq_left h, List.take_of_length_le (by rw [List.length_drop]; omega)]
  · rw [Nat.min_eq_right (by omega), List.drop_eq_nil_of_le (Nat.le_refl _), List.drop_eq_nil_of_le (by omega), List.take_nil]
theorem strIdx (lo hi : Option Int) (n : Nat) : Builtin.Str.strSliceIndices lo hi 1 n = (List.range (HT.sIx n n hi - HT.sIx n 0 lo)).map (HT.sIx n 0 lo + ·) := by
  obtain ⟨h1, h2, h3⟩ := slice_bounds lo hi n
  have e : Builtin.Str.strSliceIndices lo hi 1 n = sliceRange (sliceBounds lo hi none n).1 (sliceBounds lo hi none n).2.1 1 := by
    unfold Builtin.Str.strSliceIndices sliceBounds
    rfl
  rw [e, h1, h2, sliceRange_one]
section
variable {X : Cx}
def rSlS : V → Option Int → Option Int → Hp → VK → Prop := fun x lo hi H Q => ∃ l, x = .str (txt l) ∧ l.length ≤ sizeLine ∧ Q (.str (txt (cutN l lo hi))) H
theorem part_of {v : Value} {o : Option Int} (h : IsPart v o) : ∃ p : Option (Int × Tok), v = partValue p ∧ p.map (·.1) = o := by
  cases h with
  | none => exact ⟨none, rfl, rfl⟩
  | int i t => exact ⟨some (i, t), rfl, rfl⟩
theorem sl_str : SlR X rSlS := by
  intro pins s σ H x v vl vu lo hi sl Q I rx hs pl pu h
  obtain ⟨l, rfl, hz, q⟩ := h
  obtain ⟨t, rfl⟩ := rx
  obtain ⟨p1, rfl, e1⟩ := part_of pl
  obtain ⟨p2, rfl, e2⟩ := part_of pu
  obtain ⟨ob, g1, g2, g3⟩ := hs
  refine ⟨"str", _, F.slot_str_getitem.lookup, typeIs_str s _ t, wpAny_getItem_str_slice (l := p1) (u := p2) (st := none) ⟨ob, g1, g2, g3⟩ rfl ?_⟩
  have hp : slicePicked (txt l) p1 p2 none = (List.range (HT.sIx l.length l.length hi - HT.sIx l.length 0 lo)).map (HT.sIx l.length 0 lo + ·) := by
    unfold slicePicked
    rw [e1, e2, show (Option.map (fun x : Int × Tok => x.1) none).getD 1 = (1 : Int) from rfl, txt_len, strIdx]
  have hc : ((slicePicked (txt l) p1 p2 none).filterMap ((txt l).cps[·]?)) = cutN l lo hi := by
    rw [hp, pick_run]
    rfl
  unfold sliceMade
  by_cases c : ((Option.map (fun x : Int × Tok => x.1) none).getD 1 == (1 : Int) && (slicePicked (txt l) p1 p2 none).length == (txt l).length) = true
  · rw [if_pos c]
    have hl : (HT.sIx l.length l.length hi - HT.sIx l.length 0 lo) = l.length := by
      have := (Bool.and_eq_true _ _ ▸ c).2
      rw [hp, txt_len, List.length_map, List.length_range] at this
      exact eq_of_beq this
    have b1 := HT.sIx_le l.length l.length (Nat.le_refl _) hi
    have b0 : HT.sIx l.length 0 lo = 0 ∨ l.length = 0 := by omega
    have e : cutN l lo hi = l := by
      unfold cutN
      rw [hl]
      rcases b0 with z | z
      · rw [z, List.drop_zero, List.take_length]
      · have : l = [] := List.length_eq_zero_iff.mp z
        subst this
        simp
    rw [e] at q
    exact ⟨.str (txt l), H, I, ⟨t, rfl⟩, q⟩
  · rw [if_neg c, hc]
    refine ⟨?_, ⟨.str (txt (cutN l lo hi)), H, I.tok _, ⟨_, rfl⟩, q⟩⟩
    rw [txt_len]
    unfold cutN
    rw [List.length_take, List.length_drop]
    omega
/-! ### startswith, count -/
theorem starts_is (l m : List Nat) : Txt.startswith (txt l) (txt m) = decide (m.isPrefixOf l = true) := by
  unfold Txt.startswith
  rw [Bool.eq_iff_iff]
  simp only [Bool.and_eq_true, decide_eq_true_eq, txt_len, Nat.zero_add]
  constructor
  · rintro ⟨h1, h2⟩
    have h2' : ((txt l).cps.extract 0 (0 + (txt m).length) == (txt m).cps) = true := h2
    rw [txt_len] at h2'
    have e := congrArg Array.toList (eq_of_beq h2')
    simp only [Array.toList_extract, Nat.zero_add] at e
    have e' : l.take m.length = m := by simpa using e
    rw [List.isPrefixOf_iff_prefix, ← e']
    exact List.take_prefix _ _
  · intro h
    rw [List.isPrefixOf_iff_prefix] at h
    refine ⟨h.length_le, ?_⟩
    show ((txt l).cps.extract 0 (0 + (txt m).length) == (txt m).cps) = true
    rw [txt_len, beq_iff_eq]
    apply Array.ext'
    simp only [Array.toList_extract, Nat.zero_add]
    have := List.prefix_iff_eq_take.mp h
    simpa using this.symm
theorem mt_starts : MtR X "str.startswith" (fun x xs H Q => ∃ l m, x = .str (txt l) ∧ xs = [.str (txt m)] ∧ Q (.bl (m.isPrefixOf l)) H) := by
  intro pins s σ H x xs v us Q I rx rv h
  obtain ⟨l, m, rfl, rfl, q⟩ := h
  obtain ⟨t, rfl⟩ := rx
  obtain ⟨u, rfl, t', rfl⟩ := vals1 rv
  refine SC.startswith ⟨.bl _, H, I, rfl, ?_⟩
  rw [starts_is]
  have e : decide (m.isPrefixOf l = true) = m.isPrefixOf l := by cases m.isPrefixOf l <;> rfl
  rw [e]
  exact q
def cntN (c : Nat) (l : List Nat) : Nat := l.countP (· == c)
theorem cnt_is (c : Nat) : ∀ l : List Nat, cnt c l = ((cntN c l : Nat) : Int)
  | [] => rfl
  | n :: r => by
    rw [cnt_cons, cnt_is c r]
    unfold cntN
    rw [List.countP_cons]
    by_cases h : n = c
    · subst h; simp; omega
    · simp [h]
theorem mt_countS : MtR X "str.count" (fun x xs H Q => ∃ l c, x = .str (txt l) ∧ xs = [.str (txt [c])] ∧ Q (.int (cntN c l)) H) := by
  intro pins s σ H x xs v us Q I rx rv h
  obtain ⟨l, c, rfl, rfl, q⟩ := h
  obtain ⟨t, rfl⟩ := rx
  obtain ⟨u, rfl, t', rfl⟩ := vals1 rv
  have e : Txt.count (txt l) (txt [c]) = ((cntN c l : Nat) : Int) := by
    rw [← cnt_is]
    exact count_is (txt l) c
  refine SC.count ⟨.int (cntN c l), H, I.tok _, ⟨s.toks, ?_⟩, q⟩
  rw [e]
end
end L2

namespace L2
open PySem PySem.Spec PyProof.Rows
/-! ### "".join of single signs -/
theorem glue_one : ∀ (cs : List Nat) (a : Array Nat), (cs.map fun c => txt [c]).foldl (fun acc (p : Str) => acc ++ (txt []).cps ++ p.cps) a = a ++ cs.toArray
  | [], a => by simp
  | c :: cs, a => by
    rw [List.map_cons, List.foldl_cons, glue_one cs]
    apply Array.ext'
    simp
theorem glue_signs (cs : List Nat) : Txt.join (txt []) (cs.map fun c => txt [c]) = txt cs := by
  unfold Txt.join Builtin.Str.glued
  cases cs with
  | nil => rfl
  | cons c cs =>
    simp only [List.map_cons, List.drop_succ_cons, List.drop_zero, List.headD_cons]
    rw [glue_one]
    simp
section
variable {X : Cx}
theorem vals_strs : ∀ {cs : List Nat} {us : List Value}, Vals (cs.map fun c => V.str (txt [c])) us → ∃ l : List (Str × Tok), us = PySem.strValues l ∧ l.map (·.1) = cs.map fun c => txt [c]
  | [], _, .nil => ⟨[], rfl, rfl⟩
  | c :: cs, _, .cons r h => by
    obtain ⟨t, rfl⟩ := r
    obtain ⟨l, e1, e2⟩ := vals_strs h
    exact ⟨(txt [c], t) :: l, by rw [e1]; rfl, by rw [List.map_cons, e2]; rfl⟩
theorem mt_join : MtR X "str.join" (fun x xs H Q => ∃ (a : Addr) (cs : List Nat), x = .str (txt []) ∧ xs = [.ref a] ∧ SqL X.K H a (cs.map fun c => V.str (txt [c])) ∧ cs.length ≤ 1000 ∧ Q (.str (txt cs)) H) := by
  intro pins s σ H x xs v us Q I rx rv h
  obtain ⟨a, cs, rfl, rfl, hq, hz, q⟩ := h
  obtain ⟨t, rfl⟩ := rx
  obtain ⟨u, rfl, ru⟩ := rv.one
  cases ru
  obtain ⟨its, r, pl, _⟩ := I.list hq
  obtain ⟨l, e1, e2⟩ := vals_strs r
  subst e1
  refine SC.join pl.isList e2 ?_ fun t' k => ⟨.str (txt cs), H, I.tok _, ⟨t', by rw [glue_signs]⟩, q⟩
  unfold JoinOk
  rw [Bool.not_eq_true']
  refine StrLaws.joinFits (B := 1) (fun y hy => ?_) ?_
  · obtain ⟨c, _, rfl⟩ := List.mem_map.mp hy
    exact Nat.le_refl _
  · rw [List.length_map]
    show cs.length * 1 + cs.length * 0 ≤ _
    omega
/-! ### f"{e}.." -/
def tFs (te : TE) (y : Str) : TE := fun σ H Q => te σ H fun v H1 => ∃ i : Int, v = .int i ∧ i.natAbs.log2 < 1920 ∧ ((toString i : Str) ++ y).length ≤ sizeLine ∧ Q (.str ((toString i : Str) ++ y)) H1
theorem empty_app (x : Str) : Str.empty ++ x = x := by
  cases x
  show (⟨#[] ++ _⟩ : Str) = _
  simp
theorem app_len (x y : Str) : (x ++ y).length = x.length + y.length := by
  cases x; cases y
  show (_ ++ _ : Array Nat).size = _
  rw [Array.size_append]
  rfl
theorem pe_fstr {e : Expr} {te : TE} {y : Str} {j} {p1 p2 p3 : Pos} (he : PE X e te) : PE X (.JoinedStr [.FormattedValue e (-1) none p1, .Constant (.str y) j p2] p3) (tFs te y) := by
  intro pins s σ H Q I h
  refine JoinedStr_many (joinParts_cons (FormattedValue_plain (thn (he pins s σ H _ I h) fun v s1 ⟨x, H1, I1, r1, i, ei, hi, hz, q⟩ => ?_)))
  subst ei
  obtain ⟨t, rfl⟩ := r1
  have hl := app_len (toString i : Str) y
  refine formatField_int_small hi ⟨by rw [empty_app]; omega, joinParts_cons (Calls.Constant_str ?_)⟩
  show (Str.empty ++ (toString i : Str) ++ y).length ≤ sizeLine ∧ wpAny _ _ (joinParts (Str.empty ++ (toString i : Str) ++ y) []) _ _ _
  rw [empty_app]
  exact ⟨hz, joinParts_nil ⟨.str ((toString i : Str) ++ y), H1, I1.tok _, ⟨_, rfl⟩, q⟩ hz⟩
end
end L2

namespace L2
open PySem PySem.Spec PyProof.Rows
/-! ### for x, c in zip(list, text), the text of plain signs, as long as the list -/
abbrev AscIt (h : Heap) (i : Addr) (x : Str) (t : Tok) (k : Nat) : Prop := h.IsStrIter i "str_ascii_iterator" x t k
section
variable {prog : Program} {w : World} {A : Around} {E : Value → Shared → Prop} {s : Shared} {z TI TO i1 i2 l1 : Addr} {k1 k2 : Nat} {xs : Array Value} {x a b : Value} {y : Str} {t : Tok} {c : Nat}
/-- what has turned at an item -/
structure ZsOut (s : Shared) (z TI TO i1 i2 l1 : Addr) (k1 k2 : Nat) (x : Value) (y : Str) (t : Tok) (c : Nat) (h' : Heap) : Prop where
  zp : IsZip h' z TI TO (rawInt s.heap.objs.size)
  to : IsPair h' TO x (.str ⟨#[c]⟩ s.toks)
  it1 : h'.IsListIter i1 l1 (k1 + 1)
  it2 : AscIt h' i2 y t (k2 + 1)
  tup : IsPair h' s.heap.objs.size x (.str ⟨#[c]⟩ s.toks)
  keep : ∀ d o, d ≠ z → d ≠ TO → d ≠ i1 → d ≠ i2 → s.heap.get? d = some o → h'.get? d = some o
theorem zs_item {Q : Value → Shared → Prop} (D : ZipApart z TI TO i1 i2 l1 l1) (hz : IsZip s.heap z TI TO .none) (hTI : IsPair s.heap TI (.ref i1) (.ref i2)) (hTO : IsPair s.heap TO a b)
    (g1 : s.heap.IsListIter i1 l1 k1) (g2 : AscIt s.heap i2 y t k2) (gl : s.heap.IsList l1 xs) (hx : xs[k1]? = some x) (hc : y.cps[k2]? = some c)
    (hQ : ∀ h', ZsOut s z TI TO i1 i2 l1 k1 k2 x y t c h' → Q (.ref s.heap.objs.size) { s with heap := h', toks := s.toks + 1 }) :
    wpAny (model prog w) A (Builtin.«zip.__next__» ⟨[.ref z], []⟩) (fun fin s' => ∃ v, fin = .done (.ret v) ∧ Q v s') E s := by
  show wpAny (model prog w) A (field (.ref z) 2 >>= _) _ _ s
  refine wpAny_bind (wpAny_field (x := .bool false) hz rfl rfl ?_)
  show wpAny (model prog w) A (field (.ref z) 3 >>= _) _ _ s
  refine wpAny_bind (wpAny_field (x := .ref TI) hz rfl rfl ?_)
  refine wpAny_bind (wpAny_seqItems hTI rfl ?_)
  show wpAny (model prog w) A (Builtin.SmallTypes.ownedTupleIsFree (.ref z) >>= _) _ _ s
  refine wpAny_bind ?_
  unfold Builtin.SmallTypes.ownedTupleIsFree
  refine wpAny_bind (wpAny_field (x := .none) hz rfl rfl (wpAny_pure ?_))
  simp only [if_true]
  refine wpAny_bind (wpAny_rule ?_)
  refine wpAny_bind (wpAny_field (x := .ref TO) hz rfl rfl ?_)
  refine wpAny_bind (wpAny_setField_rec hz (by simp) fun u1 zu1 su1 => ?_)
  have zu1' : IsZip u1 z TI TO .ellipsis := zu1
  have e1 := su1.extBut
  refine wpAny_bind ?_
  simp only [List.zipIdx_cons, List.zipIdx_nil, List.forIn_cons, List.forIn_nil]
  -- the list's item
  refine wpAny_bind (wpAny_bind (wpAny_onRaise ?_))
  show wpAny (model prog w) _ (Builtin.SmallTypes.nextOf (.ref i1) >>= _) _ _ _
  refine wpAny_bind (wpAny_nextOf_list_item (g1.extBut e1 D.i1z) (gl.extBut e1 D.l1z) hx fun u2 it2 su2 => wpAny_pure ?_)
  have e2 := su2.extBut
  have to2 : IsPair u2 TO a b := e2 _ _ D.TOi1 (e1 _ _ D.TOz hTO)
  refine wpAny_bind (wpAny_seqItems to2 rfl ?_)
  refine wpAny_bind (wpAny_updateSeq_pair to2 fun u3 to3 su3 => ?_)
  have to3' : IsPair u3 TO x b := to3
  have e3 := su3.extBut
  refine wpAny_bind (wpAny_letGo (wpAny_pure ?_))
  -- the text's sign
  refine wpAny_bind (wpAny_bind (wpAny_onRaise ?_))
  show wpAny (model prog w) _ (Builtin.SmallTypes.nextOf (.ref i2) >>= _) _ _ _
  refine wpAny_bind (wpAny_nextOf_ascii_item (x := y) (t := t) (i := k2) (c := c) (((g2.extBut e1 D.i2z).extBut e2 D.i12.symm).extBut e3 D.TOi2.symm) hc fun u4 jt4 su4 => wpAny_pure ?_)
  have e4 := su4.extBut
  have to4 : IsPair u4 TO x b := e4 _ _ D.TOi2 to3'
  refine wpAny_bind (wpAny_seqItems to4 rfl ?_)
  refine wpAny_bind (wpAny_updateSeq_pair to4 fun u5 to5 su5 => ?_)
  have to5' : IsPair u5 TO x (.str ⟨#[c]⟩ s.toks) := to5
  have e5 := su5.extBut
  refine wpAny_bind (wpAny_letGo (wpAny_pure (wpAny_pure ?_)))
  -- the pair
  refine wpAny_bind (wpAny_seqItems to5' rfl ?_)
  refine wpAny_bind (wpAny_newTuple ?_)
  have sz5 : u5.objs.size = s.heap.objs.size := by rw [su5.1, su4.1, su3.1, su2.1, su1.1]
  have z5 : IsZip u5 z TI TO .ellipsis := e5 _ _ D.TOz.symm (e4 _ _ D.i2z.symm (e3 _ _ D.TOz.symm (e2 _ _ D.i1z.symm zu1')))
  have k5 : ∀ d o, d ≠ z → d ≠ TO → d ≠ i1 → d ≠ i2 → s.heap.get? d = some o → u5.get? d = some o := fun d o d1 d2 d3 d4 q => e5 _ _ d2 (e4 _ _ d4 (e3 _ _ d2 (e2 _ _ d3 (e1 _ _ d1 q))))
  have it5 : u5.IsListIter i1 l1 (k1 + 1) := ((it2.extBut e3 D.TOi1.symm).extBut e4 D.i12).extBut e5 D.TOi1.symm
  have jt5 : AscIt u5 i2 y t (k2 + 1) := jt4.extBut e5 D.TOi2.symm
  have zl : z < u5.objs.size := Heap.lt_size z5
  show wpAny (model prog w) _ (Builtin.SmallTypes.ownedTupleHandOut (.ref z) (.ref u5.objs.size) >>= _) _ _ _
  refine wpAny_bind ?_
  unfold Builtin.SmallTypes.ownedTupleHandOut
  have z6 : IsZip (u5.push { cls := .type "tuple", data := .seq #[x, .str ⟨#[c]⟩ s.toks] }) z TI TO .ellipsis := Heap.get?_push_of_some _ z5
  refine wpAny_bind (wpAny_setField_rec z6 (by simp) fun u7 zu7 su7 => ?_)
  have zu7' : IsZip u7 z TI TO (rawInt u5.objs.size) := zu7
  refine wpAny_setField_rec zu7' (by simp) fun u8 zu8 su8 => ?_
  have zu8' : IsZip u8 z TI TO (rawInt u5.objs.size) := zu8
  have up : ∀ d o, d ≠ z → u5.get? d = some o → u8.get? d = some o := fun d o d1 q => su8.extBut _ _ d1 (su7.extBut _ _ d1 (Heap.get?_push_of_some _ q))
  have tp : IsPair u8 u5.objs.size x (.str ⟨#[c]⟩ s.toks) := su8.extBut _ _ (Nat.ne_of_gt zl) (su7.extBut _ _ (Nat.ne_of_gt zl) (Heap.get?_push_size _ rfl))
  rw [sz5] at zu8' tp
  refine wpAny_pure ⟨_, rfl, ?_⟩
  show Q (.ref u5.objs.size) _
  rw [sz5]
  exact hQ u8 ⟨zu8', up _ _ D.TOz to5', it5.at fun o q => up _ o D.i1z q, (let ⟨o, q, r⟩ := jt5; ⟨o, up _ o D.i2z q, r⟩), tp, fun d o d1 d2 d3 d4 q => up d o d1 (k5 d o d1 d2 d3 d4 q)⟩
theorem zs_end {Q : Fin → Shared → Prop} (hh : A.handled = none) (D : ZipApart z TI TO i1 i2 l1 l1) (hz : IsZip s.heap z TI TO .none) (hTI : IsPair s.heap TI (.ref i1) (.ref i2))
    (g1 : s.heap.IsListIter i1 l1 k1) (gl : s.heap.IsList l1 xs) (hx : xs[k1]? = none)
    (hE : ∀ h' e, (∀ d o, d ≠ z → d ≠ i1 → s.heap.get? d = some o → h'.get? d = some o) → (∃ o, h'.get? e = some o ∧ o.cls = .type "StopIteration") → E (.ref e) { s with heap := h' }) :
    wpAny (model prog w) A (Builtin.«zip.__next__» ⟨[.ref z], []⟩) Q E s := by
  show wpAny (model prog w) A (field (.ref z) 2 >>= _) _ _ s
  refine wpAny_bind (wpAny_field (x := .bool false) hz rfl rfl ?_)
  show wpAny (model prog w) A (field (.ref z) 3 >>= _) _ _ s
  refine wpAny_bind (wpAny_field (x := .ref TI) hz rfl rfl ?_)
  refine wpAny_bind (wpAny_seqItems hTI rfl ?_)
  show wpAny (model prog w) A (Builtin.SmallTypes.ownedTupleIsFree (.ref z) >>= _) _ _ s
  refine wpAny_bind ?_
  unfold Builtin.SmallTypes.ownedTupleIsFree
  refine wpAny_bind (wpAny_field (x := .none) hz rfl rfl (wpAny_pure ?_))
  simp only [if_true]
  refine wpAny_bind (wpAny_rule ?_)
  refine wpAny_bind (wpAny_field (x := .ref TO) hz rfl rfl ?_)
  refine wpAny_bind (wpAny_setField_rec hz (by simp) fun u1 zu1 su1 => ?_)
  have zu1' : IsZip u1 z TI TO .ellipsis := zu1
  refine wpAny_bind ?_
  simp only [List.zipIdx_cons, List.zipIdx_nil, List.forIn_cons, List.forIn_nil]
  refine wpAny_bind (wpAny_bind (wpAny_onRaise ?_))
  show wpAny (model prog w) _ (Builtin.SmallTypes.nextOf (.ref i1) >>= _) _ _ _
  refine wpAny_bind (wpAny_nextOf_list_end hh (g1.extBut su1.extBut D.i1z) (gl.extBut su1.extBut D.l1z) hx fun u2 e su2 he => ?_)
  obtain ⟨oe, q1, q2⟩ := he
  have z2 : IsZip u2 z TI TO .ellipsis := su2 _ _ D.i1z.symm zu1'
  have ez : e ≠ z := fun q => by rw [q, z2] at q1; cases q1; simp at q2
  exact wpAny_setField_rec z2 (by simp) fun u3 _ su3 => hE u3 e (fun d o d1 d3 q => su3.extBut _ _ d1 (su2 _ _ d3 (su1.extBut _ _ d1 q))) ⟨oe, su3.extBut _ _ ez q1, q2⟩
theorem zs_next {Q : Option Value → Shared → Prop} (D : ZipApart z TI TO i1 i2 l1 l1) (hz : IsZip s.heap z TI TO .none) (hTI : IsPair s.heap TI (.ref i1) (.ref i2)) (hTO : IsPair s.heap TO a b)
    (g1 : s.heap.IsListIter i1 l1 k1) (g2 : AscIt s.heap i2 y t k2) (gl : s.heap.IsList l1 xs) (hx : xs[k1]? = some x) (hc : y.cps[k2]? = some c)
    (hQ : ∀ h', ZsOut s z TI TO i1 i2 l1 k1 k2 x y t c h' → Q (some (.ref s.heap.objs.size)) { s with heap := h', toks := s.toks + 1 }) : wpAny (model prog w) A (pyNext (.ref z)) Q E s := by
  have ty : s.TypeIs (.ref z) "zip" := ⟨_, hz, rfl⟩
  unfold pyNext
  exact wpAny_bind (wpAny_attempt (wpAny_callSpecial?_slot (name := Str.ofString "__next__") ty F.slot_zip_next (wpAny_call_entry F.slot_zip_next ty F.entry_zip_next
    (zs_item D hz hTI hTO g1 g2 gl hx hc fun h' o => wpAny_pure (hQ h' o)) (F.args_zip_next_1 _))))
theorem zs_stop {Q : Option Value → Shared → Prop} (hh : A.handled = none) (D : ZipApart z TI TO i1 i2 l1 l1) (hz : IsZip s.heap z TI TO .none) (hTI : IsPair s.heap TI (.ref i1) (.ref i2))
    (g1 : s.heap.IsListIter i1 l1 k1) (gl : s.heap.IsList l1 xs) (hx : xs[k1]? = none) (hQ : ∀ h', (∀ d o, d ≠ z → d ≠ i1 → s.heap.get? d = some o → h'.get? d = some o) → Q none { s with heap := h' }) : wpAny (model prog w) A (pyNext (.ref z)) Q E s := by
  have ty : s.TypeIs (.ref z) "zip" := ⟨_, hz, rfl⟩
  unfold pyNext
  refine wpAny_bind (wpAny_attempt (wpAny_callSpecial?_slot (name := Str.ofString "__next__") ty F.slot_zip_next (wpAny_call_entry F.slot_zip_next ty F.entry_zip_next
    (zs_end hh D hz hTI g1 gl hx fun h' e kk he => ?_) (F.args_zip_next_1 _))))
  obtain ⟨o, q1, q2⟩ := he
  refine wpAny_bind (wpAny_isInstance (b := true) (T := "StopIteration") ⟨o, q1, q2⟩ isSubtype_stop ?_)
  exact wpAny_pure (hQ _ kk)
end
abbrev zsH1 (h : Heap) (l1 : Addr) : Heap := h.push { cls := .type "list_iterator", data := .fields #[.ref l1, .int 0 0] }
abbrev zsH2 (h : Heap) (l1 : Addr) (y : Str) (t : Tok) : Heap := (zsH1 h l1).push { cls := .type "str_ascii_iterator", data := .fields #[.str y t, .int 0 0] }
abbrev zsH3 (h : Heap) (l1 : Addr) (y : Str) (t : Tok) : Heap := (zsH2 h l1 y t).push { cls := .type "tuple", data := .seq #[.ref h.objs.size, .ref (zsH1 h l1).objs.size] }
abbrev zsH4 (h : Heap) (l1 : Addr) (y : Str) (t : Tok) : Heap := (zsH3 h l1 y t).push { cls := .type "tuple", data := .seq #[.none, .none] }
abbrev zsH5 (h : Heap) (l1 : Addr) (y : Str) (t : Tok) : Heap := (zsH4 h l1 y t).push { cls := .type "zip", data := .fields #[.none, .bool false, .bool false, .ref (zsH2 h l1 y t).objs.size, .ref (zsH3 h l1 y t).objs.size] }
set_option maxHeartbeats 2000000 in
theorem zs_new (l1 : Addr) (xs : Array Value) (y : Str) (t : Tok) (ha : y.cps.all (· < 128) = true) :
    Meets (Builtin.«zip.__new__» ⟨[.type "zip", .ref l1, .str y t], []⟩) (fun _ R s => s.heap.IsList l1 xs ∧ R (.ok (.ret (.ref (zsH4 s.heap l1 y t).objs.size))) { s with heap := zsH5 s.heap l1 y t }) :=
  .of_wp fun prog w A R s h => by
    obtain ⟨hp, g, d, tk, os⟩ := s
    obtain ⟨gl, h⟩ := h
    have hsub := sub_zip
    have L1 : Heap.IsList (Shared.heap ⟨hp, g, d, tk, os⟩) l1 xs := gl
    wp_walk using wpAny_pyIter_list L1, wpAny_pyIter_ascii (x := y) (t := t) ha
    exact ⟨_, rfl, h⟩
section
variable {prog : Program} {w : World} {A : Around} {E : Value → Shared → Prop} {s : Shared}
theorem call_zs {l1 : Addr} {xs : Array Value} {y : Str} {t : Tok} {Q : Value → Shared → Prop} (gl : s.heap.IsList l1 xs) (ha : y.cps.all (· < 128) = true)
    (h : ∀ h', IsZip h' (s.heap.objs.size + 4) (s.heap.objs.size + 2) (s.heap.objs.size + 3) .none → IsPair h' (s.heap.objs.size + 2) (.ref s.heap.objs.size) (.ref (s.heap.objs.size + 1)) → IsPair h' (s.heap.objs.size + 3) .none .none →
      h'.IsListIter s.heap.objs.size l1 0 → AscIt h' (s.heap.objs.size + 1) y t 0 → (∀ d o, s.heap.get? d = some o → h'.get? d = some o) → Q (.ref (s.heap.objs.size + 4)) { s with heap := h' }) :
    wpAny (model prog w) A (call (.type "zip") [.ref l1, .str y t]) Q E s := by
  refine callType_new F.called_zip (by decide) (F.typeCall_zip_2 _ _) (F.newCall_zip_2 _ _) (fun obj => F.args_object_init_3 obj _ _) F.entry_zip_new (zs_new l1 xs y t ha) ⟨gl, ?_⟩
  have n1 : (zsH1 s.heap l1).objs.size = s.heap.objs.size + 1 := Heap.size_push ..
  have n2 : (zsH2 s.heap l1 y t).objs.size = s.heap.objs.size + 2 := by rw [Heap.size_push, n1]
  have n3 : (zsH3 s.heap l1 y t).objs.size = s.heap.objs.size + 3 := by rw [Heap.size_push, n2]
  have n4 : (zsH4 s.heap l1 y t).objs.size = s.heap.objs.size + 4 := by rw [Heap.size_push, n3]
  have q5 : (zsH5 s.heap l1 y t).get? (zsH4 s.heap l1 y t).objs.size = some _ := Heap.get?_push_size _ rfl
  have q4 : (zsH5 s.heap l1 y t).get? (zsH3 s.heap l1 y t).objs.size = some _ := Heap.get?_push_of_some _ (Heap.get?_push_size _ rfl)
  have q3 : (zsH5 s.heap l1 y t).get? (zsH2 s.heap l1 y t).objs.size = some _ := Heap.get?_push_of_some _ (Heap.get?_push_of_some _ (Heap.get?_push_size _ rfl))
  have q2 : (zsH5 s.heap l1 y t).get? (zsH1 s.heap l1).objs.size = some _ := Heap.get?_push_of_some _ (Heap.get?_push_of_some _ (Heap.get?_push_of_some _ (Heap.get?_push_size _ rfl)))
  have q1 : (zsH5 s.heap l1 y t).get? s.heap.objs.size = some _ := Heap.get?_push_of_some _ (Heap.get?_push_of_some _ (Heap.get?_push_of_some _ (Heap.get?_push_of_some _ (Heap.get?_push_size _ rfl))))
  show _ ∧ _
  rw [n2, n3, n4] at q5
  rw [n1, n2] at q3
  rw [n3] at q4
  rw [n1] at q2
  rw [n4]
  exact ⟨⟨_, q5, rfl⟩, h _ q5 q3 q4 ⟨_, q1, rfl, rfl⟩ ⟨_, q2, rfl, rfl⟩ fun d o q => Heap.get?_push_of_some _ (Heap.get?_push_of_some _ (Heap.get?_push_of_some _ (Heap.get?_push_of_some _ (Heap.get?_push_of_some _ q))))⟩
end
section
variable {X : Cx}
def Its (K : PySem.W.Frag) (a : Addr) (l : List Nat) : It :=
  ⟨fun i H => ∃ xs x c, SqL K H a xs ∧ xs[i]? = some x ∧ l[i]? = some c, fun i H x H' => ∃ p u c, H p = none ∧ x = .ref p ∧ H' = upd H p (.tup [u, .str (txt [c])]) ∧ (∀ xs, SqL K H a xs → xs[i]? = some u) ∧ l[i]? = some c,
    fun i H => ∃ xs, SqL K H a xs ∧ xs.length ≤ i⟩
theorem turn_zs {P : Program} {w : World} {K : PySem.W.Frag} {es : List Expr} {k : Nat} {pos : Pos} (a z TI TO i1 i2 : Addr) (l : List Nat) (t : Tok) (D : ZipApart z TI TO i1 i2 a a) :
    Turn P w K (.Tuple es k pos) (Its K a l) [z, TI, TO, i1, i2] z (fun i h => IsZip h z TI TO .none ∧ IsPair h TI (.ref i1) (.ref i2) ∧ (∃ u v, IsPair h TO u v) ∧ h.IsListIter i1 a i ∧ AscIt h i2 (txt l) t i) where
  mem := by simp
  obj := fun i h st c hc => by
    obtain ⟨t1, t2, ⟨u, v, t3⟩, ⟨o4, q4, c4, d4⟩, ⟨o5, q5, c5, d5⟩⟩ := st
    simp only [List.mem_cons, List.not_mem_nil, or_false] at hc
    rcases hc with rfl | rfl | rfl | rfl | rfl
    · exact ⟨_, t1, fun v y => by cases (show Data.fields _ = Data.cell v from y)⟩
    · exact ⟨_, t2, fun v y => by cases (show Data.seq _ _ = Data.cell v from y)⟩
    · exact ⟨_, t3, fun v y => by cases (show Data.seq _ _ = Data.cell v from y)⟩
    · exact ⟨o4, q4, fun v y => by rw [d4] at y; cases y⟩
    · exact ⟨o5, q5, fun v y => by rw [d5] at y; cases y⟩
  keep := fun i h h' st kk => by
    obtain ⟨t1, t2, ⟨u, v, t3⟩, t4, ⟨o5, q5, r5⟩⟩ := st
    exact ⟨kk z (by simp) _ t1, kk TI (by simp) _ t2, ⟨u, v, kk TO (by simp) _ t3⟩, t4.at fun o q => kk i1 (by simp) o q, ⟨o5, kk i2 (by simp) o5 q5, r5⟩⟩
  item := by
    intro X hP hw hK hc i pins s σ H E I hf st hg
    subst hP hw hK
    obtain ⟨xs, x, c, hq1, hx, hcc⟩ := hg
    obtain ⟨t1, t2, ⟨u0, v0, t3⟩, t4, t5⟩ := st
    obtain ⟨its1, rv1, p1, hz1⟩ := I.list hq1
    obtain ⟨u, hu, ru⟩ := rv1.get hx
    have lt : ∀ d ∈ [z, TI, TO, i1, i2], d < s.heap.objs.size := fun d hd => by
      obtain ⟨o4, q4, _⟩ := id t4
      obtain ⟨o5, q5, _⟩ := id t5
      simp only [List.mem_cons, List.not_mem_nil, or_false] at hd
      rcases hd with rfl | rfl | rfl | rfl | rfl
      · exact Heap.lt_size t1
      · exact Heap.lt_size t2
      · exact Heap.lt_size t3
      · exact Heap.lt_size q4
      · exact Heap.lt_size q5
    refine zs_next D t1 t2 t3 t4 t5 p1.isList (x := u) (c := c) (by simpa using hu) (by simpa using hcc) fun h1 O => ?_
    refine ⟨_, rfl, wpAny_letOwnedTupleGo_zip O.zp fun h2 e2 sb => ?_⟩
    replace sb : Heap.SameBut z h1 h2 := sb
    have k2 : ∀ d o, d ∉ [z, TI, TO, i1, i2] → s.heap.get? d = some o → h2.get? d = some o := fun d o hd q => by
      simp only [List.mem_cons, List.not_mem_nil, or_false, not_or] at hd
      exact (sb.2 d hd.1).trans (O.keep d o hd.1 hd.2.2.1 hd.2.2.2.1 hd.2.2.2.2 q)
    have nb : ∀ d o, H d = some o → d ∉ [z, TI, TO, i1, i2] := fun d o q hm => by rw [(hf d hm).1] at q; cases q
    have ht : h2.get? s.heap.objs.size = some { cls := .type "tuple", data := .seq #[u, .str ⟨#[c]⟩ s.toks] } := (sb.2 _ (Nat.ne_of_gt (lt z (by simp)))).trans O.tup
    have hfr : H s.heap.objs.size = none := I.fresh
    have hokH : HOk X.prog X.w (upd H s.heap.objs.size (.tup [x, .str (txt [c])])) h2 := fun d ob q => by
      by_cases hb : d = s.heap.objs.size
      · subst hb
        rw [upd_same] at q
        cases q
        exact ⟨by show 2 ≤ sizeLine; decide, [u, .str ⟨#[c]⟩ s.toks], .cons ru (.cons ⟨s.toks, rfl⟩ .nil), ⟨_, ht, rfl, 0, rfl⟩⟩
      · rw [upd_ne hb] at q
        refine (I.hok d ob q).stay (fun d' w' hcc qq => ?_) (fun d' q => by rw [upd_ne (ne_of_none q hfr)]; exact q) fun d' ys q => by rw [upd_ne (ne_of_none q hfr)]; exact q
        refine k2 d' w' ?_ qq
        rcases hcc with r | r
        · rw [r]; exact nb d ob q
        · exact nb d' _ r
    have I2 : Inv X pins σ (upd H s.heap.objs.size (.tup [x, .str (txt [c])])) { s with heap := h2, toks := s.toks + 1 } := by
      refine I.step (g' := s.gens) (d' := s.drawn) (ch := [z, TI, TO, i1, i2]) (fun d hd => ?_) (fun d o _ _ hd q _ => k2 d o hd q) (fun d o _ _ hd q _ => ⟨o.slots, k2 d o hd q⟩) (fun d o _ q n => by rw [upd_ne (Nat.ne_of_lt (Heap.lt_size q))]; exact n)
        (fun d o hd q => ⟨o, k2 d o hd q⟩) (fun d ys q => by rw [upd_ne (ne_of_none q hfr)]; exact q) (fun d o u q => by rw [upd_ne (ne_of_none q hfr)]; exact q) (fun d ps q => ⟨#[], by rw [upd_ne (ne_of_none q hfr), q]; simp⟩) (fun m hm => ?_) hokH I.bare
      · obtain ⟨f0, f1, f2, f3, f4, f5⟩ := hf d hd
        exact ⟨f3, f1, f4, f5⟩
      · obtain ⟨o, es', ep, ho, r⟩ := hm
        exact ⟨o, es', ep, k2 _ o (fun hm => (hf _ hm).2.1 rfl) ho, r⟩
    refine ⟨.ref s.heap.objs.size, _, I2, rfl, ⟨_, x, c, hfr, rfl, rfl, fun ys hy => by rw [I.list_inj hy hq1]; exact hx, hcc⟩,
      ⟨e2, (sb.2 _ D.TIz).trans (O.keep _ _ D.TIz D.TITO D.TIi1 D.TIi2 t2), ⟨u, _, (sb.2 _ D.TOz).trans O.to⟩, O.it1.extBut sb.extBut D.i1z, O.it2.extBut sb.extBut D.i2z⟩, fun d hd => ?_⟩
    rw [upd_ne (Nat.ne_of_lt (lt d hd))]; exact (hf d hd).1
  done := by
    intro X hP hw hK hc i pins s σ H E I hf st hg
    subst hP hw hK
    obtain ⟨xs, hq1, hx⟩ := hg
    obtain ⟨t1, t2, ⟨u0, v0, t3⟩, t4, t5⟩ := st
    obtain ⟨its1, rv1, p1, hz1⟩ := I.list hq1
    have l1 := rv1.length
    refine zs_stop (I.ok.hd hc) D t1 t2 t4 p1.isList (by simp; omega) fun h' kp => ⟨rfl, ?_⟩
    have k2 : ∀ d o, d ∉ [z, TI, TO, i1, i2] → s.heap.get? d = some o → h'.get? d = some o := fun d o hd q => by
      simp only [List.mem_cons, List.not_mem_nil, or_false, not_or] at hd
      exact kp d o hd.1 hd.2.2.2.1 q
    have nb : ∀ d o, H d = some o → d ∉ [z, TI, TO, i1, i2] := fun d o q hm => by rw [(hf d hm).1] at q; cases q
    refine I.step (g' := s.gens) (d' := s.drawn) (t' := s.toks) (ch := [z, TI, TO, i1, i2]) (fun d hd => ?_) (fun d o _ _ hd q _ => k2 d o hd q) (fun d o _ _ hd q _ => ⟨o.slots, k2 d o hd q⟩) (fun d o _ q n => n)
      (fun d o hd q => ?_) (fun d ys q => q) (fun d o u q => q) (fun d ps q => ⟨#[], by rw [q]; simp⟩) (fun m hm => ?_) (fun d ob q => (I.hok d ob q).stay (fun d' w' hcc qq => ?_) (fun _ q => q) fun _ _ q => q) I.bare
    · obtain ⟨f0, f1, f2, f3, f4, f5⟩ := hf d hd
      exact ⟨f3, f1, f4, f5⟩
    · exact ⟨o, k2 d o hd q⟩
    · obtain ⟨o, es', ep, ho, r⟩ := hm
      exact ⟨o, es', ep, k2 _ o (fun hm => (hf _ hm).2.1 rfl) ho, r⟩
    · refine k2 d' w' ?_ qq
      rcases hcc with r | r
      · rw [r]; exact nb d ob q
      · exact nb d' _ r
  self := fun _ _ _ _ _ st h => by
    obtain ⟨t1, _⟩ := st
    exact wpAny_pyIter_zip t1 h
def iZs (K : PySem.W.Frag) (ta : TA) : TI := fun σ H R => ta σ H fun vs H1 => ∃ a l, vs = [.ref a, .str (txt l)] ∧ (∃ xs, SqL K H1 a xs) ∧ (∀ c ∈ l, c < 128) ∧ R (Its K a l) H1
theorem pi_zs {es : List Expr} {k : Nat} {l r : Expr} {ta : TA} {p pos pos' : Pos} (hg : Gl X "zip") (hm : X.mg "zip" = none) (ha : PA X [l, r] ta) (hs : starEach [l, r] X.env = (false, eval l X.env) :: starEach [r] X.env := by rfl) (hpl : (backTo pos (starEach [r] X.env)).any (·.1) = false := by rfl) :
    PI X (.Tuple es k pos') (.Call (.Name "zip" p) [l, r] [] pos) (iZs X.K ta) := by
  intro pins s σ H R I h
  refine Call_ (ld_blt (u := .type "zip") I hg hm (by decide +kernel) (PyProof.Rows.callWith_type1 (thn (ha pos pins s σ H _ I h) fun us s1 ⟨vs, H1, I1, r1, q1⟩ => ?_) hs hpl))
  obtain ⟨a, l, e, ⟨xs, hq1⟩, hal, q⟩ := q1
  subst e
  obtain ⟨u, u2, rfl, rx, ry⟩ := vals2 r1
  cases rx
  obtain ⟨t, rfl⟩ := ry
  obtain ⟨its1, rv1, p1, hz1⟩ := I1.list hq1
  have la : a < s1.heap.objs.size := by obtain ⟨o, q, _⟩ := p1.isList; exact Heap.lt_size q
  refine call_zs p1.isList (by simp [Array.all_eq_true]; intro i hi; exact hal i hi) fun h' w1 w2 w3 w4 w5 kp => wpAny_pyIter_zip w1 ?_
  have D : ZipApart (s1.heap.objs.size + 4) (s1.heap.objs.size + 2) (s1.heap.objs.size + 3) s1.heap.objs.size (s1.heap.objs.size + 1) a a := zipApart_new la la
  refine ⟨s1.heap.objs.size + 4, [s1.heap.objs.size + 4, s1.heap.objs.size + 2, s1.heap.objs.size + 3, s1.heap.objs.size, s1.heap.objs.size + 1], _, _, H1, rfl, I1.kept (t' := s1.toks) kp, turn_zs a _ _ _ _ _ l t D, ⟨w1, w2, ⟨_, _, w3⟩, w4, w5⟩, fun d hd => ?_, q⟩
  have le : s1.heap.objs.size ≤ d := by
    simp only [List.mem_cons, List.not_mem_nil, or_false] at hd
    rcases hd with r | r | r | r | r <;> rw [r]
    · exact Nat.le_add_right _ _
    · exact Nat.le_add_right _ _
    · exact Nat.le_add_right _ _
    · exact Nat.le_refl _
    · exact Nat.le_add_right _ _
  exact I1.fpOk le (I1.hok.fresh le)
theorem for_zs {K : PySem.W.Frag} {a : Addr} {xs : List V} {l : List Nat} (hlen : xs.length = l.length) {g : TG} {tb : TS} {D : Ends} {σ : St} {H : Hp} (Pv : Nat → St → Hp → Prop) (h0 : Pv 0 σ H) (hl : ∀ i σ H, i ≤ xs.length → Pv i σ H → SqL K H a xs)
    (hs : ∀ i x c p σ H, xs[i]? = some x → l[i]? = some c → Pv i σ H → H p = none → g (.ref p) σ (upd H p (.tup [x, .str (txt [c])])) fun σ2 H2 => tb { D with nx := Pv (i + 1), ct := Pv (i + 1), bk := D.nx } σ2 H2) (hd : ∀ σ H, Pv xs.length σ H → D.nx σ H) :
    ∃ W : Nat → Nat → St → Hp → Prop, (∃ m, W 0 m σ H) ∧ ∀ i m σ H, W i m σ H →
      ((Its K a l).stop i H ∧ D.nx σ H) ∨ ((Its K a l).go i H ∧ ∃ N : St → Hp → Prop, (∀ σ' H', N σ' H' → ∃ m', m' < m ∧ W (i + 1) m' σ' H') ∧ ∀ x H', (Its K a l).yld i H x H' → g x σ H' fun σ2 H2 => tb { D with nx := N, ct := N, bk := D.nx } σ2 H2) := by
  refine ⟨fun i m σ H => m = xs.length - i ∧ i ≤ xs.length ∧ Pv i σ H, ⟨xs.length, by simp, Nat.zero_le _, h0⟩, ?_⟩
  rintro i m σ H ⟨rfl, hi, p⟩
  have q1 := hl i σ H hi p
  by_cases hlt : i < xs.length
  · refine .inr ⟨⟨xs, xs[i], l[i], q1, by simp [hlt], by simp [show i < l.length by omega]⟩, Pv (i + 1), fun σ' H' p' => ⟨xs.length - (i + 1), by omega, rfl, hlt, p'⟩, fun x H' y => ?_⟩
    obtain ⟨pt, u, c, hn, e1, e2, y1, y2⟩ := y
    subst e1 e2
    exact hs i u c pt σ _ (y1 xs q1) y2 p hn
  · have e : i = xs.length := by omega
    subst e
    exact .inl ⟨⟨xs, q1, Nat.le_refl _⟩, hd σ H p⟩
end
end L2

namespace L2
open PySem PySem.Spec PyProof.Rows

/-! ### exceptions that leave a def -/
theorem HOk.keptOn {P : Program} {w : World} {H : Hp} {h h' : Heap} (x : HOk P w H h) (k : ∀ b u o, H b = some o → h.get? b = some u → h'.get? b = some u) : HOk P w H h' := fun a o e =>
  (x a o e).stay (fun b u hb q => by
    rcases hb with z | z
    · subst z; exact k _ _ _ e q
    · exact k _ _ _ z q) (fun _ q => q) fun _ _ q => q
theorem ObjOk.has {P : Program} {w : World} {H : Hp} {h : Heap} {a : Addr} {o : HO} (x : ObjOk P w H h a o) : ∃ ob, h.get? a = some ob := by
  cases o with
  | lst xs => obtain ⟨_, _, _, _, e⟩ := x; exact ⟨_, e⟩
  | tup xs => obtain ⟨_, _, _, _, e, _⟩ := x; exact ⟨_, e⟩
  | dK kvs => obtain ⟨_, _, _, _, o, _, _, e, _⟩ := x; exact ⟨_, e⟩
  | dT kvs => obtain ⟨_, _, _, _, o, _, _, e, _⟩ := x; exact ⟨_, e⟩
  | set S n => obtain ⟨o, _, _, _, e, _⟩ := x; exact ⟨_, e⟩
  | ins C dx fs => obtain ⟨_, _, _, e, _⟩ := x; exact ⟨_, e⟩
  | own y => obtain ⟨_, e⟩ := x; exact ⟨_, e⟩
  | xd fs => obtain ⟨_, ⟨_, _, _, e, _⟩, _⟩ := x; exact ⟨_, e⟩
  | rng lo hi => obtain ⟨_, _, _, e⟩ := x; exact ⟨_, e⟩
  | frz ob u => obtain ⟨e, _⟩ := x; exact ⟨_, e⟩
  | tbl ps => exact ⟨_, (show h.get? a = some _ from x)⟩
  | met f y => exact ⟨_, (show h.get? a = some _ from x)⟩
  | ext φ => obtain ⟨_, ⟨_, e⟩, _⟩ := x; exact ⟨_, e⟩
/-- an exception of an own class is on its way: all that was there ahead of the call, and all that the abstract heap holds, is kept by its way -/
def CXE (P : Program) (w : World) : CXT := fun outer H s E e s' => ∃ (ea C : Addr) (a0 : Value) (H' : Hp) (B : Heap), e = .ref ea ∧ s'.os = s.os ∧ AllBare s'.gens ∧ Un (frs outer) [] H H' s.heap s'.heap ∧ HOk P w H' s'.heap ∧
  Heap.FlyingW B outer ea (.ref C) a0 s'.heap ∧ (∀ b, b ∉ frs outer → ((∃ o, s.heap.get? b = some o) ∨ ∃ u, H' b = some u) → ∃ o, B.get? b = some o) ∧ E (.ref C) none H'
section
variable {P : Program} {w : World} {K : PySem.W.Frag} {mg : Str → Option Value} {base : Heap} {N : List Str} {qual : Str} {scope : Scope} {f : Addr} {cd : Value} {A : Around} {outer : List Env} {s : Shared} {H : Hp} {E : XK}
/-- out of the frame -/
theorem leave_core {pins : List (Addr × Obj)} {σ : St} {H1 : Hp} {s1 : Shared} {ea C : Addr} {a0 : Value} {B h' : Heap} {g' : Array GenState} {d' : Drawn} {t' : Nat} (I : Inv (cxOf (CXE P w) P w K mg base N qual scope f cd A outer s H E) pins σ H1 s1)
    (hg : AllBare g') (fl : Heap.FlyingW B outer ea (.ref C) a0 h') (up : s1.heap.UpToSlots h')
    (cov : ∀ b, b ∉ frs (envOfC qual scope s.heap.objs.size f cd :: outer) → ((∃ o, s.heap.get? b = some o) ∨ ∃ u, H1 b = some u) → ∃ o, B.get? b = some o ∧ s1.heap.get? b = some o)
    (q : E (.ref C) none H1) : CXE P w outer H s E (.ref ea) ⟨h', g', d', t', s1.os⟩ := by
  have base_ : Un (frs outer) [] H H1 s.heap s1.heap := I.base
  have stk : ∀ b, b ∈ frs (envOfC qual scope s.heap.objs.size f cd :: outer) → H1 b = none := I.stkFree
  have loc : ∀ b, b ∈ frs (envOfC qual scope s.heap.objs.size f cd :: outer) → b = s.heap.objs.size ∨ b ∈ frs outer := fun b hb => List.mem_cons.mp (I.stkSub b hb)
  have nst : ∀ b o, s.heap.get? b = some o → b ∉ frs outer → b ∉ frs (envOfC qual scope s.heap.objs.size f cd :: outer) := fun b o e hb hm => by
    rcases loc b hm with z | z
    · rw [z] at e; exact absurd (Heap.lt_size e) (Nat.lt_irrefl _)
    · exact hb z
  have keep : ∀ b o, s1.heap.get? b = some o → b ∉ frs (envOfC qual scope s.heap.objs.size f cd :: outer) → ((∃ o, s.heap.get? b = some o) ∨ ∃ u, H1 b = some u) → h'.get? b = some o := fun b o e hb hc => by
    obtain ⟨o', e1, e2⟩ := cov b hb hc
    rw [e] at e2
    cases e2
    exact fl.1 _ _ e1
  have slot : ∀ b o, s.heap.get? b = some o → H b = none → b ∈ frs outer → ∃ sl, h'.get? b = some { o with slots := sl } := fun b o e hn hm => by
    obtain ⟨sl, e1⟩ := base_.slot b o e hn hm (by simp)
    obtain ⟨_, o', ho', hd⟩ := I.ok.funs.mem (show b ∈ (outer.filterMap (·.frame)) from hm)
    have eo : o' = o := by
      have : s.heap.get? b = some o' := ho'
      rw [e] at this
      exact (Option.some.inj this).symm
    subst eo
    obtain ⟨sl2, e2⟩ := up b _ e1 hd
    exact ⟨sl2, e2⟩
  refine ⟨ea, C, a0, H1, B, rfl, I.os, hg, ⟨fun b o e hn hb _ => ?_, fun b o e hn hb _ => slot b o e hn hb, fun b o e hn hx => base_.free b o e hn hx, fun b o e hx => ?_, base_.tups, base_.frzs, base_.tbls⟩, ?_, fl, fun b hb hc => ?_, q⟩
  · exact keep b o (base_.keep b o e hn hb (by simp)) (nst b o e hb) (.inl ⟨o, e⟩)
  · by_cases hb : b ∈ frs outer
    · obtain ⟨sl, e1⟩ := slot b o e (I.ok.frf b hb) hb
      exact ⟨_, e1⟩
    · obtain ⟨o', e1⟩ := base_.there b o e hx
      exact ⟨o', keep b o' e1 (nst b o e hb) (.inl ⟨o, e⟩)⟩
  · exact I.hok.keptOn fun b u o e1 e2 => keep b u e2 (fun hm => by rw [stk b hm] at e1; cases e1) (.inr ⟨o, e1⟩)
  · by_cases hm : b ∈ frs (envOfC qual scope s.heap.objs.size f cd :: outer)
    · rcases loc b hm with z | z
      · rcases hc with ⟨o, e⟩ | ⟨u, e⟩
        · rw [z] at e; exact absurd (Heap.lt_size e) (Nat.lt_irrefl _)
        · rw [stk b hm] at e; cases e
      · exact absurd z hb
    · obtain ⟨o, e1, _⟩ := cov b hm hc
      exact ⟨o, e1⟩
/-- a callee's exception goes on -/
theorem passE : Passes (CXE P w) (cxOf (CXE P w) P w K mg base N qual scope f cd A outer s H E) E := by
  intro pins σ H1 s1 e s' I h
  obtain ⟨ea, C, a0, H', B, rfl, os, bare, un, hok, fl, cov, q⟩ := h
  have J : Inv (cxOf (CXE P w) P w K mg base N qual scope f cd A outer s H E) pins σ H' s' := I.call' os un hok bare fun b hb => absurd hb (by simp)
  have sz : s.heap.objs.size ≤ s1.heap.objs.size := I.sz
  refine wpAny_leaves_onW (A := A.deeper (envOfC qual scope s.heap.objs.size f cd)) I.ok.frames rfl fl fun h'' fl'' up => ?_
  obtain ⟨hh, g, d, t, os'⟩ := s'
  refine leave_core (s1 := ⟨hh, g, d, t, os'⟩) J bare fl'' up (fun b hb hc => ?_) q
  have hc' : (∃ o, s1.heap.get? b = some o) ∨ ∃ u, H' b = some u := by
    rcases hc with ⟨o, e⟩ | hc
    · exact .inl (I.base.there b o e (fun z => absurd (show b ∈ ([] : List Addr) from z) (by simp)))
    · exact .inr hc
  obtain ⟨o, e1⟩ := cov b hb hc'
  exact ⟨o, e1, fl.1 _ _ e1⟩
/-- an exception made here leaves -/
theorem raiseE {pins : List (Addr × Obj)} {σ : St} {H1 : Hp} {s1 : Shared} {h2 : Heap} {ea C : Addr} {args : List Value} (I : Inv (cxOf (CXE P w) P w K mg base N qual scope f cd A outer s H E) pins σ H1 s1)
    (hx : Heap.MadeExcOf s1.heap h2 ea (.ref C) args) (q : E (.ref C) none H1) : (cxOf (CXE P w) P w K mg base N qual scope f cd A outer s H E).xe (.ref ea) { s1 with heap := h2 } := by
  obtain ⟨hh, g, d, t, os'⟩ := s1
  have hin : ∀ env ∈ (envOfC qual scope s.heap.objs.size f cd :: outer), ∀ b, env.frame = some b → b ∈ frs (envOfC qual scope s.heap.objs.size f cd :: outer) := fun env he b hb => List.mem_filterMap.mpr ⟨env, he, hb⟩
  refine wpAny_leaves_madeW (A := A.deeper (envOfC qual scope s.heap.objs.size f cd)) (base := PySem.W.hideAll hh (frs (envOfC qual scope s.heap.objs.size f cd :: outer))) (h := hh) I.ok.frames rfl (fun b o q => PySem.W.of_hideAll _ q) (PySem.W.funFrames_hide I.stack hin) hx fun h' t x1 x2 x3 x4 => ?_
  refine leave_core (s1 := ⟨hh, g, d, _, os'⟩) I I.bare x1 ((Heap.UpToSlots.of_keeps hx.keeps).trans x4) (fun b hb hc => ?_) q
  have : ∃ o, hh.get? b = some o := by
    rcases hc with ⟨o, e⟩ | ⟨u, e⟩
    · exact I.base.there b o e (fun z => absurd (show b ∈ ([] : List Addr) from z) (by simp))
    · exact (I.hok b u e).has
  obtain ⟨o, e⟩ := this
  exact ⟨o, PySem.W.hideAll_get _ e hb, e⟩
end
end L2

namespace L2
open PySem PySem.Spec PyProof.Rows
/-! ### raise X('..') of an own class under ValueError -/
abbrev bmVE : List Value := [.type "ValueError", .type "Exception", .type "BaseException", .type "object"]
abbrev OwnE (mg : Str → Option Value) (base : Heap) (x : Str) (C : Addr) : Prop := OwnCls x C bmVE "ValueError.__new__" mg base
def tRaise (E : XK) (C : Addr) (t : TA) : TS := fun _ σ H => t σ H fun vs H1 => vs.length ≤ sizeLine ∧ E (.ref C) none H1
section
variable {P : Program} {w : World} {K : PySem.W.Frag} {mg : Str → Option Value} {base : Heap} {N : List Str} {qual : Str} {scope : Scope} {f : Addr} {cd : Value} {A : Around} {outer : List Env} {s : Shared} {H : Hp} {E : XK}
theorem ps_raise {x : Str} {C : Addr} {np cpos pos : Pos} {e : Expr} {es : List Expr} {t : TA} (O : OwnE mg base x C) (hg : Gl (cxOf (CXE P w) P w K mg base N qual scope f cd A outer s H E) x)
    (ha : PA (cxOf (CXE P w) P w K mg base N qual scope f cd A outer s H E) (e :: es) t) (hdb : (x == ("__debug__" : Str)) = false := by decide)
    (he : starEach (e :: es) (cxOf (CXE P w) P w K mg base N qual scope f cd A outer s H E).env = (false, eval e (cxOf (CXE P w) P w K mg base N qual scope f cd A outer s H E).env) :: starEach es (cxOf (CXE P w) P w K mg base N qual scope f cd A outer s H E).env := by rfl)
    (hpl : (backTo cpos (starEach es (cxOf (CXE P w) P w K mg base N qual scope f cd A outer s H E).env)).any (·.1) = false := by rfl) :
    PS (cxOf (CXE P w) P w K mg base N qual scope f cd A outer s H E) (.Raise (some (.Call (.Name x np) (e :: es) [] cpos)) none pos) (tRaise E C t) := by
  intro pins s1 σ H1 D I h
  obtain ⟨tl, Nn, nm, q, bs, hdct, sn, sub, ab, col, dd, k0, k1, k2, k3, k5, mN, hC, hN, hni, T⟩ := O.obj
  have hh : (cxOf (CXE P w) P w K mg base N qual scope f cd A outer s H E).A.handled = none := I.ok.hd rfl
  refine wpAny_Raise_call_subU (C := C) (nm := nm) (q := q) (N := Nn) (bs := bs) (bm := tl) (hdct := hdct) (sn := sn) (sub := sub) (ab := ab) (col := col) (dd := dd) (k0 := k0) (k1 := k1) (k2 := k2) (k3 := k3) (k5 := k5)
    PySem.F.excBase_ValueError (by decide +kernel) PySem.F.excBase_ValueError (mN := mN) (T.hasType (by decide +kernel)) hh (by rw [he]; exact hpl) hni ?_
  refine ld_glob I hg O.bound ⟨rfl, ?_⟩ hdb
  have hA := fun Q (hq : t σ H1 Q) => ha cpos pins s1 σ H1 Q I hq
  rw [he] at hA ⊢
  refine Calls.evalArgs_plain (thn (hA _ h) fun us s2 ⟨vs, H2, I2, r2, hz, q2⟩ => ?_)
  have kb := I2.bk
  exact ⟨rfl, by rw [← r2.length]; exact hz, kb _ _ hC, hN.keeps kb, T.keeps kb, fun h' e' hm => raiseE I2 hm q2⟩
end
end L2

namespace L2
open PySem PySem.Spec PyProof.Rows
/-! ### defs that may raise -/
section
variable {P : Program} {w : World} {K : PySem.W.Frag} {mg : Str → Option Value} {base : Heap}
/-- the rule for a def that may raise -/
theorem Fun.okE {x qual : Str} {st : Stmt} {f : Addr} {fd : FuncData} {N ps : List Str} {k : Nat} {sp : Sp} (F : Fun K x qual st f fd) (S : FnScope N ps (defScope st)) (len : ∀ vs H Q E, sp vs H Q E → vs.length = ps.length)
    (hbody : ∀ (cdv : Value) (A : Around) (outer : List Env) (s : Shared) (H : Hp) (vs : List V) (Q : VK) (E : XK), Room k (A.deeper (envOfC qual (defScope st) s.heap.objs.size f cdv)) → sp vs H Q E →
      ∃ t, PSs (cxOf (CXE P w) P w K mg base N qual (defScope st) f cdv A outer s H E) (defBody st) t ∧ t { nx := fun _ H' => Q .non H', rt := Q } (start N vs) H) : FnOk P w K mg base (CXE P w) (k + 1) f fd ps sp := by
  obtain ⟨oc, od, kV, doc, pm, an, cdv, ct, osl, rfl, lk, hcd⟩ := F.ex
  exact fn_of lk hcd S len fun A outer s H vs Q E hr hsp => hbody cdv A outer s H vs Q E hr hsp
def HasE (P : Program) (w : World) (K : PySem.W.Frag) (mg : Str → Option Value) (base : Heap) (k : Nat) (x : Str) (ps : List Str) (sp : Sp) : Prop :=
  ∃ f fd, FnOk P w K mg base (CXE P w) k f fd ps sp ∧ Binds K fd ps [] ∧ PySem.W.keepIn K (.ref f) = true ∧ mg x = some (.ref f)
end
section
variable {X : Cx} {k : Nat} {x : Str} {ps : List Str} {sp : Sp} {p pos : Pos} {e : Expr} {es : List Expr} {t : TA} {E : XK}
/-- its call: E is what is wanted of an exception -/
theorem pe_callE (C : HasE X.prog X.w X.K X.mg X.base k x ps sp) (hr : Room k X.A) (hx : Passes (CXE X.prog X.w) X E) (hg : Gl X x) (ha : PA X (e :: es) t)
    (hdb : (x == ("__debug__" : Str)) = false := by decide) (he : starEach (e :: es) X.env = (false, eval e X.env) :: starEach es X.env := by rfl) (hpl : (backTo pos (starEach es X.env)).any (·.1) = false := by rfl) :
    PE X (.Call (.Name x p) (e :: es) [] pos) (tCall sp [] E t) := by
  obtain ⟨f, fd, F, b, kp, m⟩ := C
  exact pe_call F hr hg m kp b .nil hx ha hdb he hpl
/-- no exception can come: as a call that never raises -/
theorem HasE.has (C : HasE X.prog X.w X.K X.mg X.base k x ps sp) (sp' : Sp) (h : ∀ vs H Q E, sp' vs H Q E → sp vs H Q E0) : Has X.prog X.w X.K X.mg X.base k x ps sp' := by
  obtain ⟨f, fd, F, b, kp, m⟩ := C
  refine ⟨f, fd, ⟨fun vs H Q E q => F.len vs H Q E0 (h _ _ _ _ q), fun A outer s H args us vs Q E hr e0 hb r hs => ?_⟩, b, kp, m⟩
  refine codeAny_mono (F.run A outer s H args us vs Q E0 hr e0 hb r (h _ _ _ _ hs)) fun r s' hq => ?_
  cases r with
  | ok fl =>
    cases fl with
    | ret u => exact hq
    | next => exact hq
    | brk => exact hq
    | cont => exact hq
  | error e =>
    obtain ⟨_, _, _, _, _, _, _, _, _, _, _, _, q⟩ := hq
    exact q.elim
end
end L2

namespace L2
open PySem PySem.Spec PyProof.Rows
/-! ### a call whose exception is caught here -/
section
variable {X : Cx} {k : Nat} {x : Str} {ps : List Str} {sp : Sp} {p pos : Pos} {e : Expr} {es : List Expr} {t : TA} {E : XK}
theorem call_caught {pins : List (Addr × Obj)} {σ : St} {H : Hp} {s : Shared} {Q : VK} {XE : Value → Shared → Prop} (C : HasE X.prog X.w X.K X.mg X.base k x ps sp) (hr : Room k X.A) (hg : Gl X x) (ha : ∀ xe, PA (X.wish xe) (e :: es) t)
    (I : Inv X pins σ H s) (h : t σ H fun vs H1 => sp vs H1 Q E) (hx : ∀ H1 s1 v s', Inv X pins σ H1 s1 → CXE X.prog X.w X.stack H1 s1 E v s' → XE v s')
    (hdb : (x == ("__debug__" : Str)) = false := by decide) (he : starEach (e :: es) X.env = (false, eval e X.env) :: starEach es X.env := by rfl) (hpl : (backTo pos (starEach es X.env)).any (·.1) = false := by rfl) :
    wpAny (model X.prog X.w) X.A (eval (.Call (.Name x p) (e :: es) [] pos) X.env) (EP X pins σ Q) XE s := by
  obtain ⟨f, fd, F, b, kp, m⟩ := C
  refine wpAny_Call_Name_kw (ld_glob I hg m ?_ hdb)
  refine PySem.W.callWith_K (h₀ := X.base) I.ok.mod.kin kp (thn (ha XE pos pins s σ H _ (I.wish XE) h) fun us s1 ⟨vs, H1, I1, r, q⟩ => ?_) he hpl
  have J : Inv X pins σ H1 s1 := I1.unwish
  refine ⟨J.kIn, ?_⟩
  have hl : us.length = ps.length := by rw [← r.length]; exact F.len _ _ _ _ q
  have hbt := b s1 us J.kIn (by rw [List.append_nil]; exact hl)
  rw [List.append_nil] at hbt
  refine wpAny_call (codeAny_mono (F.run X.A X.stack s1 H1 ⟨us, []⟩ us vs Q E hr J.env0 hbt r q) fun r s' hq => ?_)
  cases r with
  | ok fl =>
    cases fl with
    | ret u => exact J.after hq
    | next => exact hq.elim
    | brk => exact hq.elim
    | cont => exact hq.elim
  | error v => exact hx H1 s1 v s' J hq
end
end L2

namespace L2
open PySem PySem.Spec PyProof.Rows
/-! ### does an exception of an own class match another own class? -/
section
variable {M : Model} {A : Around} {E : Value → Shared → Prop}
variable {nm qn : Str} {C N : Addr} {bs bm : List Value} {hdct : Bool} {sn : List Str} {sub : List Value} {ab : Bool} {col : Option Bool} {dd : Option Addr} {k0 k1 k2 k3 k5 : Option Value} {newId : String}
variable {nm' qn' : Str} {D N' : Addr} {bs' bm' : List Value} {hdct' : Bool} {sn' : List Str} {sub' : List Value} {ab' : Bool} {col' : Option Bool} {dd' : Option Addr} {l0 l1 l2 l3 l5 : Option Value} {newId' : String}
theorem exc_matches {h : Heap} {g : Array GenState} {d : Drawn} {t : Nat} {os : OsState} {e : Addr} {oe : Obj} {b : Bool} {Q : Bool → Shared → Prop}
    (hC : h.get? C = some (excClassObj nm qn C N bs bm hdct sn sub ab col dd k0 k1 k2 k3 k5 newId)) (hD : h.get? D = some (excClassObj nm' qn' D N' bs' bm' hdct' sn' sub' ab' col' dd' l0 l1 l2 l3 l5 newId'))
    (he : h.get? e = some oe) (hcls : oe.cls = .ref C) (hbase : bm'.contains (.type "BaseException") = true) (hb : (Value.ref C :: bm).contains (.ref D) = b) (hq : Q b ⟨h, g, d, t, os⟩) : wpAny M A (excMatches (.ref e) (.ref D)) Q E ⟨h, g, d, t, os⟩ := by
  have hdB : (Value.ref D :: bm').contains (.type "BaseException") = true := by rw [List.contains_cons, hbase, Bool.or_true]
  have f := tc_notTuple
  unfold excMatches
  repeat (first
    | (with_reducible refine wpAny_loadPart_at he ?_; rw [hcls])
    | with_reducible refine wpAny_loadPart_at hD ?_
    | (with_reducible refine wpAny_isSubtype_exc hD ?_; rw [hdB])
    | (with_reducible refine wpAny_isSubtype_exc hC ?_; rw [hb])
    | wp_step)
  cases b <;> (wp_walk; exact hq)
end
/-! ### the state along an exception's way -/
theorem un_fly {P : Program} {w : World} {l : List Env} {H H' : Hp} {h h1 h2 B base : Heap} (u : Un (frs l) [] H H' h h1) (hok : HOk P w H' h1) (k1 : B.StaysIn h1) (k2 : B.StaysIn h2)
    (cov : ∀ b, b ∉ frs l → ((∃ o, h.get? b = some o) ∨ ∃ u, H' b = some u) → ∃ o, B.get? b = some o) (up : h1.UpToSlots h2) (ff : h.FunFrames base l) (fr : ∀ b ∈ frs l, H b = none) (fr' : ∀ b ∈ frs l, H' b = none) :
    Un (frs l) [] H H' h h2 ∧ HOk P w H' h2 := by
  have keep : ∀ b o, h1.get? b = some o → b ∉ frs l → ((∃ o, h.get? b = some o) ∨ ∃ u, H' b = some u) → h2.get? b = some o := fun b o e hb hc => by
    obtain ⟨o', e1⟩ := cov b hb hc
    have := k1 _ _ e1
    rw [e] at this
    cases this
    exact k2 _ _ e1
  have slot : ∀ b o, h.get? b = some o → b ∈ frs l → ∃ sl, h2.get? b = some { o with slots := sl } := fun b o e hm => by
    obtain ⟨sl, e1⟩ := u.slot b o e (fr b hm) hm (by simp)
    obtain ⟨_, o', ho', hd⟩ := ff.mem hm
    rw [e] at ho'
    cases ho'
    obtain ⟨sl2, e2⟩ := up b _ e1 hd
    exact ⟨sl2, e2⟩
  refine ⟨⟨fun b o e hn hb _ => keep b o (u.keep b o e hn hb (by simp)) hb (.inl ⟨o, e⟩), fun b o e hn hb _ => slot b o e hb, u.free, fun b o e hx => ?_, u.tups, u.frzs, u.tbls⟩, ?_⟩
  · by_cases hb : b ∈ frs l
    · obtain ⟨sl, e1⟩ := slot b o e hb
      exact ⟨_, e1⟩
    · obtain ⟨o', e1⟩ := u.there b o e hx
      exact ⟨o', keep b o' e1 hb (.inl ⟨o, e⟩)⟩
  · exact hok.keptOn fun b v o e1 e2 => keep b v e2 (fun hm => by rw [fr' b hm] at e1; cases e1) (.inr ⟨o, e1⟩)
/-- in the suite of an except -/
abbrev Cx.mark (X : Cx) (v : Value) : Cx := { X with A := X.A.mark (some v), calm := false }
theorem Inv.mark {X : Cx} {pins : List (Addr × Obj)} {σ : St} {H : Hp} {s : Shared} (I : Inv X pins σ H s) (v : Value) : Inv (X.mark v) pins σ H s :=
  ⟨⟨I.ok.mod, I.ok.kind, I.ok.glob, I.ok.blt, I.ok.above, I.ok.inj, I.ok.has, I.ok.cab, (fun h => by cases h), I.ok.frames, I.ok.stk, I.ok.exf, I.ok.bs, I.ok.bsz, I.ok.noex, I.ok.exfs, I.ok.funs, I.ok.frf⟩, I.os, I.bare, I.base, I.loc, I.cell, I.free, I.freeC, I.pin, I.hok, I.len⟩
theorem Inv.unmark {X : Cx} {v : Value} {pins : List (Addr × Obj)} {σ : St} {H : Hp} {s : Shared} (ok : X.Ok) (I : Inv (X.mark v) pins σ H s) : Inv X pins σ H s :=
  ⟨ok, I.os, I.bare, I.base, I.loc, I.cell, I.free, I.freeC, I.pin, I.hok, I.len⟩
end L2

namespace L2
open PySem PySem.Spec PyProof.Rows
/-! ### an exception at hand -/
/-- an exception of the class at C -/
def ExcOb (ea C : Addr) : HO := .ext fun h => ∃ o, h.get? ea = some o ∧ o.cls = .ref C
theorem excOb_ok {P : Program} {w : World} {H : Hp} {h : Heap} {ea C : Addr} {o : Obj} (e : h.get? ea = some o) (c : o.cls = .ref C) : ObjOk P w H h ea (ExcOb ea C) :=
  ⟨⟨o, e, c⟩, ⟨o, e⟩, fun _ _ ⟨o', x, y⟩ k => ⟨o', k o' x, y⟩⟩
/-- a thing that came since is held from now on -/
theorem track {P : Program} {w : World} {l : List Env} {H H' : Hp} {h h2 : Heap} {ea : Addr} {o : HO} (u : Un (frs l) [] H H' h h2) (hok0 : HOk P w H h) (hok : HOk P w H' h2) (hn : h.get? ea = none) (hH : H' ea = none) (new : ObjOk P w (upd H' ea o) h2 ea o) :
    Un (frs l) [] H (upd H' ea o) h h2 ∧ HOk P w (upd H' ea o) h2 := by
  have ne : ∀ b q, h.get? b = some q → b ≠ ea := fun b q e z => by rw [z, hn] at e; cases e
  have neT : ∀ b q, H b = some q → b ≠ ea := fun b q e => let ⟨ob, x⟩ := (hok0 b q e).has; ne b ob x
  have neH : ∀ b q, H' b = some q → b ≠ ea := fun b q e z => by rw [z, hH] at e; cases e
  refine ⟨⟨u.keep, u.slot, fun b q e n hx => ?_, u.there, fun b xs e => ?_, fun b q v e => ?_, fun b ps e => ?_⟩, fun a q e => ?_⟩
  · rw [upd_ne (ne b q e)]; exact u.free b q e n hx
  · rw [upd_ne (neT b _ e)]; exact u.tups b xs e
  · rw [upd_ne (neT b _ e)]; exact u.frzs b q v e
  · rw [upd_ne (neT b _ e)]; exact u.tbls b ps e
  · by_cases z : a = ea
    · subst z
      rw [upd_same] at e
      cases e
      exact new
    · rw [upd_ne z] at e
      exact (hok a q e).stay (fun _ _ _ q => q) (fun b r => by rw [upd_ne (neH b _ r)]; exact r) fun b xs r => by rw [upd_ne (neH b _ r)]; exact r
/-- a name goes -/
theorem unbind_ok {X : Cx} {M : Model} {A : Around} {E : Value → Shared → Prop} {pins : List (Addr × Obj)} {σ : St} {H : Hp} {s : Shared} {i : Nat} {n : Str} {pos : Pos} {Q : Unit → Shared → Prop} (I : Inv X pins σ H s) (hN : X.N.Nodup) (hi : X.N[i]? = some n)
    (hl : X.env.scope.names.lookup n = some .local) (h : ∀ s', Inv X pins (σ.set i none) H s' → Q () s') : wpAny M A (do bindName X.env n .none; unbindBehindTheSuite X.env n pos) Q E s := by
  obtain ⟨m, hn, hv⟩ := id I.loc
  have hcls : (X.env.scope.kind == .class || (X.env.scope.kind == .module && X.env.locals != X.env.globals)) = false := by rw [I.ok.kind]; rfl
  refine wpAny_nameGoes_keeps (show X.env.kindOf n = some .local from hl) hn hcls fun h' v hn' hs => h _ ?_
  have low : ∀ b o, X.s₀.heap.get? b = some o → b ≠ X.env.locals := fun b o e => Nat.ne_of_lt (Nat.lt_of_lt_of_le (Heap.lt_size e) I.ok.above)
  refine ⟨I.ok, I.os, I.bare, ⟨fun b o e q hb hx => (hs.2 b (low b o e)).trans (I.base.keep b o e q hb hx), fun b o e q hb hx => ?_, I.base.free, fun b o e hx => ?_, I.base.tups, I.base.frzs, I.base.tbls⟩, ⟨_, hn', fun j y v' e1 e2 e3 => ?_⟩, fun y c e => ?_, I.free, I.freeC, fun p hp => ?_, fun b ob e => ?_, by rw [List.length_set]; exact I.len⟩
  · obtain ⟨sl, e1⟩ := I.base.slot b o e q hb hx
    exact ⟨sl, (hs.2 b (low b o e)).trans e1⟩
  · obtain ⟨o', e1⟩ := I.base.there b o e hx
    exact ⟨o', (hs.2 b (low b o e)).trans e1⟩
  · by_cases hj : j = i
    · subst hj
      have hlt : j < σ.length := by
        have := (List.getElem?_eq_some_iff.mp e2).1
        rw [List.length_set] at this
        exact this
      rw [List.getElem?_set_self hlt] at e2
      cases e2
    · rw [List.getElem?_set_ne (Ne.symm hj)] at e2
      obtain ⟨u', r', q⟩ := hv j y v' e1 e2 e3
      refine ⟨u', r', ?_⟩
      rcases q with ⟨k, e⟩ | ⟨k, c, e, z⟩
      · refine .inl ⟨k, ?_⟩
        have ny : y ≠ n := fun e => hj (nodup_ix hN e1 (e ▸ hi))
        show (if y = n then v else m y) = some u'
        rw [if_neg ny]; exact e
      · exact .inr ⟨k, c, e, z.sameBut hs (I.cne y c e)⟩
  · obtain ⟨w', z⟩ := I.cell y c e
    exact ⟨w', z.sameBut hs (I.cne y c e)⟩
  · obtain ⟨e, q, ne, nf, d⟩ := I.pin p hp
    exact ⟨(hs.2 p.1 ne).trans e, q, ne, nf, d⟩
  · refine (I.hok b ob e).stay (fun c w' hc q => (hs.2 c ?_).trans q) (fun _ q => q) fun _ _ q => q
    intro z
    have fr := I.free
    rcases hc with y | y
    · rw [← z, y, e] at fr; cases fr
    · rw [← z, y] at fr; cases fr
end L2

namespace L2
open PySem PySem.Spec PyProof.Rows
/-- the class at C is, or stands under, the class at D -/
def Under (base : Heap) (C D : Addr) : Prop := ∃ bm N nm q bs hdct sn sub ab col dd k0 k1 k2 k3 k5 newId, base.get? C = some (excClassObj nm q C N bs bm hdct sn sub ab col dd k0 k1 k2 k3 k5 newId) ∧ (Value.ref C :: bm).contains (.ref D) = true
/-- what is wanted behind the suite, where the name in slot i goes -/
def Ends.gone (D : Ends) (i : Nat) : Ends := { nx := fun σ H => D.nx (σ.set i none) H, rt := D.rt, bk := fun σ H => D.bk (σ.set i none) H, ct := fun σ H => D.ct (σ.set i none) H }
/-- what a suite wants: the exception in slot i -/
def CatchE (tb : TS) (D : Ends) (i : Nat) (base : Heap) (Dc : Addr) (σ : St) : XK := fun v _ H => ∃ C, v = .ref C ∧ Under base C Dc ∧ ∀ ea, H ea = none → tb (D.gone i) (σ.set i (some (.ref ea))) (upd H ea (ExcOb ea C))
theorem caught {X : Cx} {pins : List (Addr × Obj)} {σ : St} {H1 : Hp} {s1 s' : Shared} {v : Value} {D : Ends} {i : Nat} {n c : Str} {Dc : Addr} {np hp : Pos} {b₀ : Stmt} {suite : List Stmt} {tb : TS}
    (J : Inv X pins σ H1 s1) (hx : CXE X.prog X.w X.stack H1 s1 (CatchE tb D i X.base Dc σ) v s') (hs : X.stack = X.env :: X.outer) (hf : X.env.frame = some X.env.locals)
    (hN : X.N.Nodup) (hi : X.N[i]? = some n) (hl : X.env.scope.names.lookup n = some .local) (hgc : Gl X c) (OD : OwnE X.mg X.base c Dc) (hb : ∀ u, PSs (X.mark u).nox (b₀ :: suite) tb) (hdb : (c == ("__debug__" : Str)) = false := by decide) :
    wpAny (model X.prog X.w) X.A (noteFrame v X.env) (fun _ s₂ => wpAny (model X.prog X.w) X.A (setFlight v none) (fun _ s₃ =>
      wpAny (model X.prog X.w) X.A (handleBy v X.env [.ExceptHandler (some (.Name c np)) (some n) (b₀ :: suite) hp]) (SP X pins D) X.xe s₃) X.xe s₂) X.xe s' := by
  obtain ⟨ea, C, a0, H', B, rfl, os, bare, un, hok, fl, cov, C', eC, hU, q⟩ := hx
  cases eC
  obtain ⟨hh, g, d, tk, os'⟩ := s'
  have hfr : X.A.frames = some (X.env :: X.outer) := by rw [← hs]; exact J.ok.frames
  have J' : Inv X pins σ H' ⟨hh, g, d, tk, os'⟩ := J.call' os un hok bare fun b hb => absurd hb (by simp)
  have flS : Heap.FlyingW B (X.env :: X.outer) ea (.ref C) a0 hh := by rw [← hs]; exact fl
  -- the exception is new, and no frame
  have nfr : ∀ h : Heap, Heap.FlyingW B (X.env :: X.outer) ea (.ref C) a0 h → ea ∉ frs X.stack := fun h x hm => by
    obtain ⟨_, _, f3, oe, vs, _, _, _, he, _, hd, _⟩ := x
    rw [hs] at hm
    obtain ⟨_, o, ho, hnf⟩ := f3.mem hm
    rw [he] at ho
    cases ho
    exact hnf vs hd
  have nB : ∀ o, B.get? ea ≠ some o := fun o e => by rw [fl.2.1] at e; cases e
  have hH : H' ea = none := by
    cases e : H' ea with
    | none => rfl
    | some u => obtain ⟨o, z⟩ := cov ea (nfr hh flS) (.inr ⟨u, e⟩); exact absurd z (nB o)
  have hn1 : s1.heap.get? ea = none := by
    cases e : s1.heap.get? ea with
    | none => rfl
    | some u => obtain ⟨o, z⟩ := cov ea (nfr hh flS) (.inl ⟨u, e⟩); exact absurd z (nB o)
  have stay : ∀ h : Heap, B.StaysIn h → hh.UpToSlots h → Un (frs X.stack) [] H1 H' s1.heap h ∧ HOk X.prog X.w H' h := fun h k up => un_fly (base := X.base) un hok fl.1 k cov up J.stack J.stkFree J'.stkFree
  refine wpAny_looks_onW hfr hf flS fun h4 held4 sm4 => ?_
  refine wpAny_landsW held4 fun h5 fl5 sm5 => ?_
  have st5 := stay h5 fl5.1 (sm4.trans sm5)
  have I5 : Inv X pins σ H' ⟨h5, g, d, tk, os'⟩ := J.call' os st5.1 st5.2 bare fun b hb => absurd hb (by simp)
  refine wpAny_handleBy_cons (codeAny_handlers_test (ld_glob (I5.mark (.ref ea)) hgc OD.bound ?_ hdb)) (by intro q; cases q)
  obtain ⟨ob, hob, hobc⟩ := fl5.there
  obtain ⟨bm, N, nm, qn, bs, hdct, sn, sub, ab, col, dd, k0, k1, k2, k3, k5, newId, hC, hm⟩ := hU
  obtain ⟨bm', N', nm', qn', bs', hdct', sn', sub', ab', col', dd', l0, l1, l2, l3, l5, mN', hD, _, _, T⟩ := OD.obj
  refine exc_matches (I5.bk _ _ hC) (I5.bk _ _ hD) hob hobc (T.hasType (by decide +kernel)) hm ?_
  refine codeAny_handlers_suite_as ?_
  refine lands_againW fl5 fun h6 fl6 sm6 => ?_
  have st6 := stay h6 fl6.1 ((sm4.trans sm5).trans sm6)
  obtain ⟨ob6, hob6, hobc6⟩ := fl6.there
  have tr := track st6.1 J.hok st6.2 hn1 hH (excOb_ok hob6 hobc6)
  have I6 : Inv X pins σ (upd H' ea (ExcOb ea C)) ⟨h6, g, d, tk, os'⟩ := J.call' os tr.1 tr.2 bare fun b hb => absurd hb (by simp)
  refine store_ok I6 hN hi (.inl hl) (v := .ref ea) (u := .ref ea) rfl (fun s7 I7 => ?_) (.inr hl)
  refine wpAny_mono (hb (.ref ea) pins s7 _ _ (D.gone i) ((I7.mark (.ref ea)).wish _) (q ea hH)) (fun f s8 h8 => ?_) (fun _ _ z => z.elim)
  cases f with
  | next =>
    obtain ⟨σ', H'', I8, q8⟩ := h8
    exact unbind_ok (I8.unwish.unmark J.ok) hN hi hl fun s9 I9 => ⟨_, _, I9, q8⟩
  | brk =>
    obtain ⟨σ', H'', I8, q8⟩ := h8
    exact unbind_ok (I8.unwish.unmark J.ok) hN hi hl fun s9 I9 => ⟨_, _, I9, q8⟩
  | cont =>
    obtain ⟨σ', H'', I8, q8⟩ := h8
    exact unbind_ok (I8.unwish.unmark J.ok) hN hi hl fun s9 I9 => ⟨_, _, I9, q8⟩
  | ret u =>
    obtain ⟨v', σ', H'', I8, r8, q8⟩ := h8
    exact unbind_ok (I8.unwish.unmark J.ok) hN hi hl fun s9 I9 => ⟨_, _, _, I9, r8, q8⟩
end L2

namespace L2
open PySem PySem.Spec PyProof.Rows
/-! ### try: f(..) / x = f(..), except C as e: .. -/
def tTryE (sp : Sp) (t : TA) (tb : TS) (i : Nat) (base : Heap) (Dc : Addr) : TS := fun D σ H => t σ H fun vs H1 => sp vs H1 (fun _ H2 => D.nx σ H2) (CatchE tb D i base Dc σ)
def tTryS (j : Nat) (sp : Sp) (t : TA) (tb : TS) (i : Nat) (base : Heap) (Dc : Addr) : TS := fun D σ H => t σ H fun vs H1 => sp vs H1 (fun v H2 => D.nx (σ.set j (some v)) H2) (CatchE tb D i base Dc σ)
section
variable {X : Cx} {k : Nat} {x : Str} {ps : List Str} {sp : Sp} {p pos p2 tp np hp : Pos} {e : Expr} {es : List Expr} {t : TA} {i : Nat} {n c : Str} {Dc : Addr} {b₀ : Stmt} {suite : List Stmt} {tb : TS}
theorem ps_tryE (C : HasE X.prog X.w X.K X.mg X.base k x ps sp) (hr : Room k X.A) (hg : Gl X x) (ha : ∀ xe, PA (X.wish xe) (e :: es) t) (hs : X.stack = X.env :: X.outer) (hf : X.env.frame = some X.env.locals)
    (hN : X.N.Nodup) (hi : X.N[i]? = some n) (hl : X.env.scope.names.lookup n = some .local) (hgc : Gl X c) (OD : OwnE X.mg X.base c Dc) (hb : ∀ u, PSs (X.mark u).nox (b₀ :: suite) tb)
    (hdb : (x == ("__debug__" : Str)) = false := by decide) (hdc : (c == ("__debug__" : Str)) = false := by decide) (he : starEach (e :: es) X.env = (false, eval e X.env) :: starEach es X.env := by rfl) (hpl : (backTo pos (starEach es X.env)).any (·.1) = false := by rfl)
    (hsw : swapsWith (.Call (.Name x p) (e :: es) [] pos) none p2.line X.env = pure false := by rfl) :
    PS X (.Try [.Expr (.Call (.Name x p) (e :: es) [] pos) p2] [.ExceptHandler (some (.Name c np)) (some n) (b₀ :: suite) hp] [] [] tp) (tTryE sp t tb i X.base Dc) := by
  intro pins s σ H D I h
  refine wpAny_Try_except (wpAny_execs_cons ?_)
  refine wpAny_Expr_any (thn (call_caught C hr hg ha I h (fun H1 s1 v s' J hx => caught (i := i) J hx hs hf hN hi hl hgc OD hb hdc) hdb he hpl) fun v s1 ⟨y, H1, I1, r1, q1⟩ => ?_) I.quiet hsw
  exact wpAny_execs_nil (wpAny_execs_nil ⟨σ, H1, I1, q1⟩)
theorem ps_tryS {j : Nat} {y : Str} {py : Pos} (C : HasE X.prog X.w X.K X.mg X.base k x ps sp) (hr : Room k X.A) (hg : Gl X x) (ha : ∀ xe, PA (X.wish xe) (e :: es) t) (hs : X.stack = X.env :: X.outer) (hf : X.env.frame = some X.env.locals)
    (hN : X.N.Nodup) (hj : X.N[j]? = some y) (hy : X.env.scope.names.lookup y = some .local) (hi : X.N[i]? = some n) (hl : X.env.scope.names.lookup n = some .local) (hgc : Gl X c) (OD : OwnE X.mg X.base c Dc) (hb : ∀ u, PSs (X.mark u).nox (b₀ :: suite) tb)
    (hdb : (x == ("__debug__" : Str)) = false := by decide) (hdc : (c == ("__debug__" : Str)) = false := by decide) (he : starEach (e :: es) X.env = (false, eval e X.env) :: starEach es X.env := by rfl) (hpl : (backTo pos (starEach es X.env)).any (·.1) = false := by rfl)
    (hsw : swapsWith (.Call (.Name x p) (e :: es) [] pos) (some (.Name y py)) p2.line X.env = pure false := by rfl) :
    PS X (.Try [.Assign [.Name y py] (.Call (.Name x p) (e :: es) [] pos) p2] [.ExceptHandler (some (.Name c np)) (some n) (b₀ :: suite) hp] [] [] tp) (tTryS j sp t tb i X.base Dc) := by
  intro pins s σ H D I h
  refine wpAny_Try_except (wpAny_execs_cons ?_)
  refine wpAny_Assign_Name (thn (call_caught C hr hg ha I h (fun H1 s1 v s' J hx => caught (i := i) J hx hs hf hN hi hl hgc OD hb hdc) hdb he hpl) fun v s1 ⟨u, H1, I1, r1, q1⟩ => ?_) hsw
  exact store_ok I1 hN hj (.inl hy) r1 (fun s2 I2 => wpAny_execs_nil (wpAny_execs_nil ⟨_, H1, I2, q1⟩)) (.inr hy)
end
end L2

namespace L2
open PySem PySem.Spec PyProof.Rows
/-! ### a def called within an except suite: something is being handled, and no exception leaves -/
structure RoomM (k : Nat) (A : Around) : Prop where
  dp : A.depth + 3 * k + 5 < recursionLimit
  un : A.units + 16 * k + 200 < cLine
theorem Room.toM {k : Nat} {A : Around} (r : Room k A) : RoomM k A := ⟨r.dp, r.un⟩
theorem RoomM.mono {j k : Nat} {A : Around} (r : RoomM k A) (h : j ≤ k) : RoomM j A := ⟨by have := r.dp; omega, by have := r.un; omega⟩
theorem RoomM.mark {k : Nat} {A : Around} {v : Option Value} (r : RoomM k A) : RoomM k (A.mark v) := ⟨r.dp, r.un⟩
theorem RoomM.deeper {k : Nat} {A : Around} (r : RoomM (k + 1) A) (env : Env) : RoomM k (A.deeper env) :=
  ⟨by have := r.dp; show A.depth + 1 + 3 * k + 5 < _; omega, by have := r.un; show A.units + 3 + 16 * k + 200 < _; omega⟩
theorem RoomM.hu {k : Nat} {A : Around} (r : RoomM k A) : A.units + 1 < cLine := by have := r.un; omega
/-- the body's context -/
abbrev cxM (P : Program) (w : World) (K : PySem.W.Frag) (mg : Str → Option Value) (base : Heap) (N : List Str) (qual : Str) (scope : Scope) (f : Addr) (cd : Value) (A : Around) (outer : List Env) (s : Shared) (H : Hp) (E : XK) : Cx :=
  { (cxOf CX0 P w K mg base N qual scope f cd A outer s H E).nox with calm := false }
structure FnOkM (P : Program) (w : World) (K : PySem.W.Frag) (mg : Str → Option Value) (base : Heap) (k : Nat) (f : Addr) (fd : FuncData) (ps : List Str) (sp : Sp) : Prop where
  len : ∀ vs H Q E, sp vs H Q E → vs.length = ps.length
  run : ∀ (A : Around) (outer : List Env) (s : Shared) (H : Hp) (args : Args) (us : List Value) (vs : List V) (Q : VK) (E : XK), RoomM k A → Env0 P w K mg base A outer s H → BindsTo s fd args (ps.zip us) → Vals vs us → sp vs H Q E →
    codeAny (model P w) A (.call (.ref f) args) (CR CX0 outer P w H s Q E) s
section
variable {P : Program} {w : World} {K : PySem.W.Frag} {mg : Str → Option Value} {base : Heap}
theorem Fun.okM {x qual : Str} {st : Stmt} {f : Addr} {fd : FuncData} {N ps : List Str} {k : Nat} {sp : Sp} (F : Fun K x qual st f fd) (S : FnScope N ps (defScope st)) (len : ∀ vs H Q E, sp vs H Q E → vs.length = ps.length)
    (hbody : ∀ (cdv : Value) (A : Around) (outer : List Env) (s : Shared) (H : Hp) (vs : List V) (Q : VK) (E : XK), RoomM k (A.deeper (envOfC qual (defScope st) s.heap.objs.size f cdv)) → sp vs H Q E →
      ∃ t, PSs (cxM P w K mg base N qual (defScope st) f cdv A outer s H E) (defBody st) t ∧ t { nx := fun _ H' => Q .non H', rt := Q } (start N vs) H) : FnOkM P w K mg base (k + 1) f fd ps sp := by
  obtain ⟨oc, od, kV, doc, pm, an, cdv, ct, osl, rfl, lk, hcd⟩ := F.ex
  refine ⟨len, fun A outer s H args us vs Q E hr e0 hb r hsp => ?_⟩
  have hl := len _ _ _ _ hsp
  have kin : K.In s.heap := e0.mod.kin.keeps fun b o e => (e0.bs b o e).1
  have lim : s.heap.NoLimit := e0.mod.nolimit.keeps fun b o e => (e0.bs b o e).1
  have hdep : A.depth < recursionLimit := by have := hr.dp; omega
  refine codeAny_call_function hdep (kin _ _ lk) rfl S.co S.gen rfl (PySem.W.codeRec_of kin hcd) (hb _ _ _ _ ?_)
  refine wpAny_newFunctionEnv_cells S.kind (fun ⟨n, v⟩ hy => (S.par n (List.of_mem_zip hy).1).imp id fun z => ⟨z, PySem.W.cellsFrom_some _ _ _ (.inl z)⟩) fun env he s1 x => ?_
  subst he
  refine ⟨lim.keeps x.toInCall.keep, codeAny_func ?_⟩
  obtain ⟨t, ht, hq⟩ := hbody cdv A outer s H vs Q E (hr.deeper _) hsp
  have e1 : Env0 P w K mg base { A with handled := none } outer s H := ⟨e0.frames, e0.mod, e0.bs, e0.bsz, e0.funs, e0.frf, e0.hok, e0.bare⟩
  have I0 : Inv (cxOf CX0 P w K mg base N qual (defScope st) f cdv { A with handled := none } outer s H E) [] (start N vs) H s1 := inv_start S rfl e1 hl r x
  have I : Inv (cxM P w K mg base N qual (defScope st) f cdv A outer s H E) [] (start N vs) H s1 :=
    ⟨⟨I0.ok.mod, I0.ok.kind, I0.ok.glob, I0.ok.blt, I0.ok.above, I0.ok.inj, I0.ok.has, I0.ok.cab, (fun z => by cases z), Around.frames_deeper e0.frames, I0.ok.stk, I0.ok.exf, I0.ok.bs, I0.ok.bsz, I0.ok.noex, I0.ok.exfs, I0.ok.funs, I0.ok.frf⟩,
      I0.os, I0.bare, I0.base, I0.loc, I0.cell, I0.free, I0.freeC, I0.pin, I0.hok, I0.len⟩
  refine wpAny_mono (ht [] s1 (start N vs) H _ I hq) (fun fl s' hs => ?_) fun e s' hs => hs.elim
  cases fl with
  | ret u =>
    obtain ⟨v, σ', H', J, rv, q⟩ := hs
    exact ⟨v, H', J.os, J.bare, J.base, J.hok, rv, q⟩
  | next =>
    obtain ⟨σ', H', J, q⟩ := hs
    exact ⟨V.non, H', J.os, J.bare, J.base, J.hok, rfl, q⟩
  | brk =>
    obtain ⟨_, _, _, q⟩ := hs
    exact q.elim
  | cont =>
    obtain ⟨_, _, _, q⟩ := hs
    exact q.elim
def HasM (P : Program) (w : World) (K : PySem.W.Frag) (mg : Str → Option Value) (base : Heap) (k : Nat) (x : Str) (ps : List Str) (sp : Sp) : Prop :=
  ∃ f fd, FnOkM P w K mg base k f fd ps sp ∧ Binds K fd ps [] ∧ PySem.W.keepIn K (.ref f) = true ∧ mg x = some (.ref f)
end
section
variable {X : Cx} {k : Nat} {x : Str} {ps : List Str} {sp : Sp} {p pos : Pos} {e : Expr} {es : List Expr} {t : TA}
theorem pe_callM (C : HasM X.prog X.w X.K X.mg X.base k x ps sp) (hr : RoomM k X.A) (hg : Gl X x) (ha : PA X (e :: es) t)
    (hdb : (x == ("__debug__" : Str)) = false := by decide) (he : starEach (e :: es) X.env = (false, eval e X.env) :: starEach es X.env := by rfl) (hpl : (backTo pos (starEach es X.env)).any (·.1) = false := by rfl) :
    PE X (.Call (.Name x p) (e :: es) [] pos) (tCall sp [] E0 t) := by
  intro pins s σ H Q I h
  obtain ⟨f, fd, F, b, kp, m⟩ := C
  refine wpAny_Call_Name_kw (ld_glob I hg m ?_ hdb)
  refine PySem.W.callWith_K (h₀ := X.base) I.ok.mod.kin kp (thn (ha pos pins s σ H _ I h) fun us s1 ⟨vs, H1, J, r, q⟩ => ?_) he hpl
  refine ⟨J.kIn, ?_⟩
  replace q : sp vs H1 Q E0 := by
    have q0 : sp (vs ++ []) H1 Q E0 := q
    rw [List.append_nil] at q0
    exact q0
  have hl : us.length = ps.length := by rw [← r.length]; exact F.len _ _ _ _ q
  have hbt := b s1 us J.kIn (by rw [List.append_nil]; exact hl)
  rw [List.append_nil] at hbt
  refine wpAny_call (codeAny_mono (F.run X.A X.stack s1 H1 ⟨us, []⟩ us vs Q E0 hr J.env0 hbt r q) fun r s' hq => ?_)
  cases r with
  | ok fl =>
    cases fl with
    | ret u => exact J.after hq
    | next => exact hq.elim
    | brk => exact hq.elim
    | cont => exact hq.elim
  | error v => exact hq.elim
end
end L2

namespace L2
open PySem PySem.Spec PyProof.Rows PySem.W PySem.SeqAt PySem.Calls Builtin Builtin.ObjectAttr Builtin.Getset_descriptor
/-! ### isinstance(e, C) of an exception at hand -/
/-- what is known of an own class of exceptions -/
structure ExcFacts (K : PySem.W.Frag) (C : Addr) : Prop where
  ga : findIn K (.ref C) "__getattribute__" = some (some (.builtin "BaseException.__getattribute__"))
  be : mroIn K C (.type "BaseException") = some true
  gh : findIn K (.ref C) "__getattr__" = some none
  cl : findIn K (.ref C) "__class__" = some (some (.builtin "object.__class__"))
  gt : specialIn K (.builtin "object.__class__") "__get__" = some (some (.builtin "getset_descriptor.__get__"))
  tk : takesIn K (.builtin "object.__class__") = some true
  ob : mroIn K C (.type "object") = some true
  me : mroIn K C (.ref C) = some true
/-- an object of the class at C -/
def OfCls (x C : Addr) (h : Heap) : Prop := ∃ o, h.get? x = some o ∧ o.cls = .ref C
theorem OfCls.ty {M : Model} {x C : Addr} {h : Heap} (I : OfCls x C h) : Looks M h (typeOf (.ref x)) (.ref C) := by
  obtain ⟨o, e, c⟩ := I
  have t : Looks M h (typeOf (.ref x)) o.cls := (Looks.ld e).andThen .now
  rw [c] at t
  exact t
theorem ExcFacts.isT {M : Model} {K : PySem.W.Frag} {C : Addr} (F : ExcFacts K C) {h : Heap} (X : K.In h) : Looks M h (isType (.ref C)) true := by
  have m := F.me
  unfold mroIn clsIn at m
  split at m
  · rename_i c' d' cd' sl' ho
    intro A' Q' E' s' k q
    unfold isType loadHead
    exact wpAny_bind (wpAny_loadPart (k _ _ (X _ _ ho)) (wpAny_pure q))
  · cases m
section
variable {prog : Program} {w : World} {A : Around} {E : Value → Shared → Prop} {s : Shared} {K : PySem.W.Frag} {x C : Addr}
theorem cls_get {tp : Value} {Rr : Result → Shared → Prop} (F : ExcFacts K C) (X : K.In s.heap) (I : OfCls x C s.heap) (h : Rr (.ok (.ret (.ref C))) s) :
    codeAny (model prog w) A (.call (.builtin "getset_descriptor.__get__") ⟨[.builtin "object.__class__", .ref x, tp], []⟩) Rr s := by
  obtain ⟨hp, gs, dr, tks, os⟩ := s
  have l0 := I.ty (M := model prog w)
  have l1 := looks_mroIn (M := model prog w) X F.ob
  refine codeAny_call_builtin KF.slot_gs.plain KF.entry_gs (KF.slot_gs.check _ _ _ _ _ _ _ _ (KF.type_class) (KF.args_gs _ _ _) ?_)
  unfold Builtin.«getset_descriptor.__get__» descrGet; rw [dga_obj]
  refine wpAny_bind (wpAny_pure ?_)
  unfold descrGetter descrCheckInstance descrNameAndClass isInstance; simp only [KF.owner_class]
  repeat lk
  refine ⟨Code.quiet_builtin _ (by decide +kernel), codeAny_builtin (KF.entry_class) ?_⟩
  unfold Builtin.«object.__class__» shownTypeOf; repeat lk
  exact h
theorem cls_find {M : Model} (F : ExcFacts K C) {h : Heap} (X : K.In h) : Looks M h (find (.ref x) (.ref C) "__class__") (.bind (.builtin "getset_descriptor.__get__") (.builtin "object.__class__")) := by
  have l3 := looks_takesIn (M := M) X F.tk
  refine (looks_findIn (M := M) X F.cl).andThen ((looks_specialIn X F.gt).andThen ?_)
  exact (show Looks M h (dataDescriptor? (some (.builtin "object.__class__")) (some (.builtin "getset_descriptor.__get__"))) (some (_, _)) from l3.andThen .now).andThen (Looks.tag .now)
theorem ga_check {M : Model} {nv : Value} {Q : Unit → Shared → Prop} (F : ExcFacts K C) (X : K.In s.heap) (I : OfCls x C s.heap) (q : Q () s) : wpAny M A (checkBuiltinCall "BaseException.__getattribute__" ⟨[.ref x, nv], []⟩) Q E s := by
  obtain ⟨hp, gs, dr, tks, os⟩ := s
  have l0 := I.ty (M := M)
  have l1 := looks_mroIn (M := M) X F.be
  have kd : builtinKind "BaseException.__getattribute__" = some .slot := by decide +kernel
  have sp : splitId "BaseException.__getattribute__" = some ("BaseException", "__getattribute__") := by decide +kernel
  have ar := PySem.F.args_bexc_ga (.ref x) nv
  simp only [checkBuiltinCall, kd, sp]
  refine wpAny_bind ?_
  unfold isInstance
  repeat (first | lk | wp_step)
  exact q
theorem ga_entry {tk : Tok} {Q : Fin → Shared → Prop} (F : ExcFacts K C) (X : K.In s.heap) (I : OfCls x C s.heap) (q : Q (.done (.ret (.ref C))) s) : wpAny (model prog w) A (Builtin.«object.__getattribute__» ⟨[.ref x, .str "__class__" tk], []⟩) Q E s := by
  have c0 := fun (A' : Around) (Rr : Result → Shared → Prop) (h : Rr (.ok (.ret (.ref C))) s) => cls_get (prog := prog) (w := w) (A := A') (tp := .ref C) (Rr := Rr) F X I h
  obtain ⟨hp, gs, dr, tks, os⟩ := s
  have l0 := I.ty (M := model prog w)
  have l3 := cls_find (x := x) (M := model prog w) F X
  unfold Builtin.«object.__getattribute__»
  refine wpAny_bind (wpAny_pure (wpAny_bind ?_))
  refine wpAny_pure ?_
  refine wpAny_bind (l0.at (wpAny_bind (l3.at ?_)))
  show wpAny _ _ (bindTo _ _ _ _) _ _ _
  unfold bindTo
  exact wpAny_bind (wpAny_holding (wpAny_call (c0 _ _ (wpAny_pure q))))
theorem cls_attr {Q : Option Value → Shared → Prop} (F : ExcFacts K C) (X : K.In s.heap) (I : OfCls x C s.heap) (h : Q (some (.ref C)) { s with toks := s.toks + 1 }) : wpAny (model prog w) A (getAttr? (.ref x) "__class__") Q E s := by
  obtain ⟨hp, gs, dr, tks, os⟩ := s
  have l0 := I.ty (M := model prog w)
  have l1 := looks_findIn (M := model prog w) X F.ga
  have l2 := looks_findIn (M := model prog w) X F.gh
  have b0 := PySem.F.excAttr_ValueError.ga.bind (.ref x)
  unfold getAttr? getAttrBy? getAttrBy
  refine wpAny_bind (wpAny_mkText (wpAny_bind (wpAny_attempt (wpAny_holding (wpAny_bind (l0.at (wpAny_bind (l1.at ?_))))))))
  show wpAny _ _ (getAttrByItsOwn _ _ _ _ _ _) _ _ _
  unfold getAttrByItsOwn hookBefore callGetattribute boundAndCalled
  refine wpAny_bind (l2.at (wpAny_bind (wpAny_attempt (wpAny_holding ?_))))
  show wpAny _ _ (bindSpecial _ _ >>= _) _ _ _
  rw [b0]
  refine wpAny_bind (wpAny_pure (wpAny_call (codeAny_call_builtin PySem.F.excAttr_ValueError.ga.plain PySem.F.entry_bexc_ga ?_)))
  refine ga_check F X I (ga_entry F X I ?_)
  exact handed_on rfl (wpAny_pure h)
theorem kitx_exc (F : ExcFacts K C) : KitX K (.ref x) (.ref C) (OfCls x C) where
  ty := fun _ _ _ I => I.ty
  it := fun _ _ X _ => F.isT X
  ne := fun h tp dd its n sl X htp => by
    have m := F.me
    unfold mroIn clsIn at m
    split at m
    · rename_i c' d' cd' sl' ho
      refine Bool.eq_false_iff.mpr fun q => ?_
      have e : C = tp := Value.ref.inj (beq_iff_eq.mp q)
      subst e
      exact nomatch (X _ _ ho).symm.trans htp
    · cases m
  ca := fun X I k => cls_attr F X I k
end
theorem kit_of {K : PySem.W.Frag} {C D : Addr} {b : Bool} {cd : ClassData} (F : ExcFacts K C) (hc : clsIn K D = some cd) (ht : typeIn K (.ref D) = some (.type "type")) (hm : mroIn K C (.ref D) = some b) : kitOne K (.ref C) (.ref D) = some b := by
  unfold kitOne
  by_cases e : C = D
  · subst e
    rw [F.me] at hm
    cases hm
    rw [if_pos (by simp)]
  · rw [if_neg (by simpa using e)]
    show (if ((clsIn K D).isSome && typeIn K (.ref D) == some (.type "type")) = true then mroIn K C (.ref D) else none) = some b
    rw [hc, ht, if_pos (by simp)]
    exact hm
theorem kit_ve {K : PySem.W.Frag} {C : Addr} {b : Bool} (hm : mroIn K C (.type "ValueError") = some b) : kitOne K (.ref C) (.type "ValueError") = some b := by
  unfold kitOne
  rw [if_neg (show ¬ (Value.ref C == Value.type "ValueError") = true from Bool.false_ne_true)]
  show (if kitMeta "ValueError" = true then mroIn K C (.type "ValueError") else none) = some b
  rw [if_pos (by decide +kernel)]
  exact hm
section
variable {X : Cx}
/-- isinstance(e, c) of an exception: c an own class, or a built-in one -/
theorem call_isinstE : CallR X (.builtin "isinstance") (fun xs H Q => ∃ (ea C : Addr) (c : V) (cv : Value) (b : Bool), xs = [.ref ea, c] ∧ RelV c cv ∧ (∀ u, RelV c u → u = cv) ∧ H ea = some (ExcOb ea C) ∧ ExcFacts X.K C ∧ kitOne X.K (.ref C) cv = some b ∧ Q (.bl b) H) := by
  intro pins s σ H xs us Q I r h
  obtain ⟨ea, C, c, cv, b, rfl, rc, un, he, F, k, q⟩ := h
  obtain ⟨u, u2, rfl, rx, ry⟩ := vals2 r
  cases rx
  cases un u2 ry
  obtain ⟨⟨o, x1, x2⟩, _⟩ := (show ObjOk X.prog X.w H s.heap ea (ExcOb ea C) from I.hok ea _ he)
  exact kia_one (kitx_exc F) I.kIn ⟨o, x1, x2⟩ k (fun z => nomatch z) fun tk => ⟨.bl b, H, I.tok _, rfl, q⟩
theorem call_isinstEK {K : PySem.W.Frag} (hK : X.K = K) : CallR X (.builtin "isinstance") (fun xs H Q => ∃ (ea C : Addr) (c : V) (cv : Value) (b : Bool), xs = [.ref ea, c] ∧ RelV c cv ∧ (∀ u, RelV c u → u = cv) ∧ H ea = some (ExcOb ea C) ∧ ExcFacts K C ∧ kitOne K (.ref C) cv = some b ∧ Q (.bl b) H) := by
  subst hK; exact call_isinstE
/-! ### list.count(True), list.index(True) of bools -/
def isTb : Value → Bool
  | .bool b => b
  | _ => false
theorem bools_at {bs : List Bool} {its : List Value} (r : Vals (bs.map V.bl) its) : its = bs.map Value.bool := by
  induction bs generalizing its with
  | nil => cases r; rfl
  | cons b bs ih =>
    rw [List.map_cons] at r
    cases r with
    | cons h t => rw [ih t, List.map_cons, show _ = Value.bool b from h]
theorem eqT {A : Around} {s : Shared} {bs : List Bool} {y : Value} (h : y ∈ bs.map Value.bool) : EqAt A s y (.bool true) (isTb y) := by
  obtain ⟨b, _, rfl⟩ := List.mem_map.mp h
  have := EqAt.bool_bool (A := A) (s := s) b true
  rw [show (b == true) = b by cases b <;> rfl] at this
  exact this
def rCountT : V → List V → Hp → VK → Prop := fun x vs H Q => ∃ (l : Addr) (bs : List Bool), x = .ref l ∧ vs = [.bl true] ∧ H l = some (.lst (bs.map V.bl)) ∧ Q (.int (bs.countP id : Nat)) H
theorem mt_countT : MtM X "list.count" rCountT := by
  intro pins s σ H x vs v us Q I rx rv h
  obtain ⟨l, bs, rfl, rfl, hH, q⟩ := h
  cases rx
  obtain ⟨u, rfl, ru⟩ := rv.one
  cases ru
  obtain ⟨z, its, n, r, hl, e⟩ := I.lstM hH
  have eb := bools_at r
  subst eb
  refine call_meets F.slot_list_count ⟨_, e, rfl⟩ F.entry_list_count (F.args_list_count_2 _ _) (list_countAt l (bs.map Value.bool).toArray n none #[] (.bool true) isTb) ⟨e, fun y hy => eqT (by simpa using hy), ?_⟩
  refine ⟨.int _, H, I.tok _, ⟨_, rfl⟩, ?_⟩
  have : ((bs.map Value.bool).toArray.toList.countP isTb) = bs.countP id := by
    rw [List.toList_toArray, List.countP_map]
    congr 1
  rw [this]
  exact q
def rIndexT : V → List V → Hp → VK → Prop := fun x vs H Q => ∃ (l : Addr) (bs : List Bool) (j : Nat), x = .ref l ∧ vs = [.bl true] ∧ H l = some (.lst (bs.map V.bl)) ∧ bs.length ≤ 1000 ∧ bs[j]? = some true ∧ (∀ i, i < j → bs[i]? = some false) ∧ Q (.int j) H
theorem mt_indexT : MtM X "list.index" rIndexT := by
  intro pins s σ H x vs v us Q I rx rv h
  obtain ⟨l, bs, j, rfl, rfl, hH, hz, hj, hno, q⟩ := h
  cases rx
  obtain ⟨u, rfl, ru⟩ := rv.one
  cases ru
  obtain ⟨z, its, n, r, hl, e⟩ := I.lstM hH
  have eb := bools_at r
  subst eb
  have hjl : j < bs.length := (List.getElem?_eq_some_iff.mp hj).1
  have hat : ∀ m (hm : m < (bs.map Value.bool).toArray.size), isTb (bs.map Value.bool).toArray[m] = (bs[m]?).getD false := fun m hm => by
    have : m < bs.length := by simpa using hm
    rw [List.getElem?_eq_getElem this]
    simp [isTb]
  refine call_meets F.slot_list_index ⟨_, e, rfl⟩ F.entry_list_index (F.args_list_index_2 _ _) (list_indexAt l (bs.map Value.bool).toArray n none #[] (.bool true) isTb j (by simpa using hjl) (by omega) ?_ (fun m hm hlt => ?_)) ⟨e, fun y hy => eqT (by simpa using hy), ?_⟩
  · rw [hat, hj]; rfl
  · rw [hat, hno m hlt]; rfl
  · exact ⟨.int _, H, I.tok _, ⟨_, rfl⟩, q⟩
end
/-! ### own classes out of the written part -/
theorem own_of {K : PySem.W.Frag} {h : Heap} {mg : Str → Option Value} {x : Str} {C : Addr} (X : K.In h) (G : h.Ns mainGlobals mg) (e : nsIn K mainGlobals x = some (some (.ref C))) (q : excIn K C bmVE "ValueError.__new__" = true) : OwnE mg h x C := by
  refine ⟨mg_of X G e, ?_⟩
  unfold excIn at q
  split at q
  · rename_i dd cd sl ho
    split at q
    · rename_i C' bm k0 k1 k2 k3 n k5 hm hs
      simp only [Bool.and_eq_true, beq_iff_eq, Bool.not_eq_true'] at q
      obtain ⟨⟨⟨⟨⟨rfl, rfl⟩, hdel⟩, ht⟩, hok⟩, hni⟩ := q
      obtain ⟨nm, bs, mro, ns, qn, hd, sn, sub, ab, col, del⟩ := cd
      dsimp only at hm hdel hok hni; subst hm hdel
      have hsl : sl = #[k0, k1, k2, k3, some (.builtin "ValueError.__new__"), k5] := by
        obtain ⟨l⟩ := sl
        rw [show l = _ from hs]
      subst hsl
      exact ⟨bm, ns, nm, qn, bs, hd, sn, sub, ab, col, dd, k0, k1, k2, k3, k5, _, X _ _ ho, .of_isNs (isNs_of_in X hok), nsMap_none_of_in X hok hni, (tail_of_in X ht)⟩
    · cases q
  · cases q
theorem under_of {K : PySem.W.Frag} {h : Heap} {C D : Addr} (X : K.In h) (q : excIn K C bmVE "ValueError.__new__" = true) (m : mroIn K C (.ref D) = some true) : Under h C D := by
  unfold excIn at q
  split at q
  · rename_i dd cd sl ho
    split at q
    · rename_i C' bm k0 k1 k2 k3 n k5 hm hs
      simp only [Bool.and_eq_true, beq_iff_eq, Bool.not_eq_true'] at q
      obtain ⟨⟨⟨⟨⟨rfl, rfl⟩, hdel⟩, ht⟩, hok⟩, hni⟩ := q
      obtain ⟨nm, bs, mro, ns, qn, hd, sn, sub, ab, col, del⟩ := cd
      dsimp only at hm hdel hok hni; subst hm hdel
      have hsl : sl = #[k0, k1, k2, k3, some (.builtin "ValueError.__new__"), k5] := by
        obtain ⟨l⟩ := sl
        rw [show l = _ from hs]
      subst hsl
      refine ⟨bm, ns, nm, qn, bs, hd, sn, sub, ab, col, dd, k0, k1, k2, k3, k5, _, X _ _ ho, ?_⟩
      unfold mroIn clsIn at m
      rw [ho] at m
      simpa using m
    · cases q
  · cases q
end L2

namespace L2
open PySem PySem.Spec PyProof.Rows
/-- a statement from which no exception leaves, in a def that may raise elsewhere -/
theorem PS.nox {X : Cx} {st : Stmt} {t : TS} (h : PS X.nox st t) : PS X st t := fun pins s σ H D I hw =>
  wpAny_mono (h pins s σ H D (I.wish _) hw) (fun _ _ q => q.unwish) fun _ _ z => False.elim z
end L2

namespace L2
open PySem PySem.Spec PyProof.Rows
/-! ### for c in text, the text of plain signs -/
def Itu (l : List Nat) : It := ⟨fun i _ => i < l.length, fun i H x H' => H' = H ∧ ∃ c, l[i]? = some c ∧ x = .str (txt [c]), fun i _ => l.length ≤ i⟩
theorem turn_txt {P : Program} {w : World} {K : PySem.W.Frag} {tg : Expr} (it : Addr) (l : List Nat) (t : Tok) : Turn P w K tg (Itu l) [it] it (fun i h => AscIt h it (txt l) t i) where
  mem := by simp
  obj := fun i h st b hb => by
    have e : b = it := by simpa using hb
    subst e
    obtain ⟨o, q, _, d⟩ := st
    exact ⟨o, q, fun v z => by rw [d] at z; cases z⟩
  keep := fun i h h' st k => by
    obtain ⟨o, q, r⟩ := st
    exact ⟨o, k it (by simp) o q, r⟩
  item := by
    intro X hP hw hK hc i pins s σ H E I hf st hg
    subst hP hw hK
    obtain ⟨f0, f1, f2, f3, f4, f5⟩ := hf it (by simp)
    have hi : i < l.length := hg
    refine wpAny_pyNext_ascii_item (c := l[i]) st (by simp [hi]) fun h' st' sb => ?_
    have I1 : Inv X pins σ H { s with heap := h', toks := s.toks + 1 } := I.turned (fun b o hb e => (sb.2 b (by simpa using hb)).trans e) f0 f1 f3 f4 f5
    obtain ⟨o', q', c', d'⟩ := id st'
    refine ⟨_, rfl, go_of (s := { s with heap := h', toks := s.toks + 1 }) (n := "str_ascii_iterator") q' c' d' (by decide) ⟨.str (txt [l[i]]), H, I1, ⟨_, rfl⟩, ⟨rfl, l[i], by simp [hi], rfl⟩, st', fun b hb => (hf b hb).1⟩⟩
  done := by
    intro X hP hw hK hc i pins s σ H E I hf st hg
    subst hP hw hK
    obtain ⟨f0, f1, f2, f3, f4, f5⟩ := hf it (by simp)
    have hi : l.length ≤ i := hg
    exact wpAny_pyNext_ascii_end (I.ok.hd hc) st (by simp [hi]) fun h' eb => ⟨rfl, I.turned (t' := s.toks) (fun b o hb e => eb b o (by simpa using hb) e) f0 f1 f3 f4 f5⟩
  self := fun _ _ _ _ _ st h => wpAny_pyIter_striter_ascii st h
section
variable {X : Cx} {tg : Expr}
def iTxt (te : TE) : TI := fun σ H R => te σ H fun v H1 => ∃ l, v = .str (txt l) ∧ (∀ c ∈ l, c < 128) ∧ R (Itu l) H1
theorem pi_txt {e : Expr} {te : TE} (he : PE X e te) : PI X tg e (iTxt te) := by
  intro pins s σ H R I h
  refine thn (he pins s σ H _ I h) fun v s1 ⟨x, H1, I1, r1, l, ex, hl, q⟩ => ?_
  subst ex
  obtain ⟨t, rfl⟩ := r1
  refine wpAny_pyIter_ascii (by simp [Array.all_eq_true]; intro c hc; exact hl c hc) ?_
  refine ⟨s1.heap.objs.size, [s1.heap.objs.size], _, _, H1, rfl, I1.kept (t' := s1.toks) fun b o e => Heap.get?_push_of_some _ e, turn_txt _ l t, ⟨_, Heap.get?_push_size _ rfl, rfl, rfl⟩, fun b hb => ?_, q⟩
  have e : b = s1.heap.objs.size := by simpa using hb
  subst e
  exact I1.fpOk (Nat.le_refl _) (I1.hok.fresh (Nat.le_refl _))
theorem lc_txt {l : List Nat} {σ0 : St} {g : TG} {tc : TT} {te : TE} {Q : VK} {H1 : Hp} (Pv : Addr → Nat → List V → Hp → Prop)
    (h0 : ∀ D, H1 D = none → Pv D 0 [] (upd H1 D (.lst [])))
    (hs : ∀ D i c acc H2, l[i]? = some c → Pv D i acc H2 → g (.str (txt [c])) σ0 H2 fun σ4 H4 => CapKeep σ0 σ4 ∧ tc σ4 H4 fun b H5 =>
      if b = true then te σ4 H5 fun y H6 => H6 D = some (.lst acc) ∧ acc.length < sizeLine ∧ Pv D (i + 1) (acc ++ [y]) (upd H6 D (.lst (acc ++ [y]))) else Pv D (i + 1) acc H5)
    (hd : ∀ D acc H2, Pv D l.length acc H2 → Q (.ref D) H2) : LCw σ0 g tc te Q (Itu l) H1 := by
  intro D hD
  refine ⟨fun i m acc H => m = l.length - i ∧ i ≤ l.length ∧ Pv D i acc H, ⟨l.length, by simp, Nat.zero_le _, h0 D hD⟩, ?_⟩
  rintro i m acc H2 ⟨rfl, hi, p⟩
  by_cases hlt : i < l.length
  · refine .inr ⟨hlt, Pv D (i + 1), fun acc' H' p' => ⟨l.length - (i + 1), by omega, rfl, hlt, p'⟩, fun x H' y => ?_⟩
    obtain ⟨e, c, ec, ex⟩ := y
    subst e ex
    exact hs D i c acc _ ec p
  · have e : i = l.length := by omega
    subst e
    exact .inl ⟨Nat.le_refl _, hd D acc H2 p⟩
/-! ### text * number -/
def repS (n : Nat) (z : Str) : Str := ⟨(List.replicate n z.cps).foldl (· ++ ·) #[]⟩
theorem rep_len (z : Str) : ∀ (n : Nat) (a : Array Nat), ((List.replicate n z.cps).foldl (· ++ ·) a).size = a.size + n * z.length
  | 0, a => by simp
  | n + 1, a => by
    rw [List.replicate_succ, List.foldl_cons, rep_len z n, Array.size_append, Nat.succ_mul]
    show a.size + z.length + n * z.length = _
    omega
theorem op_mul_str : OpR X (binaryOp .Mult) (fun x y H Q => ∃ (z : Str) (n : Nat), x = .str z ∧ y = .int (n : Int) ∧ 2 ≤ n ∧ n ≤ 1000 ∧ 1 ≤ z.length ∧ z.length ≤ 10 ∧ Q (.str (repS n z)) H) := by
  intro pins s σ H x y v u Q I rx ry h
  obtain ⟨z, n, rfl, rfl, n2, n1, z1, z10, q⟩ := h
  obtain ⟨t, rfl⟩ := rx
  obtain ⟨t', rfl⟩ := ry
  have b0 : ¬ ((n : Int) < 1) := by omega
  have b1 : ((n : Int) == 1 || z.length == 0) = false := by
    have : ¬ ((n : Int) = 1) := by omega
    have : ¬ (z.length = 0) := by omega
    simp [*]
  have zn : z.length * n ≤ 10000 := Nat.mul_le_mul z10 n1
  refine P.mul_str ?_ (fun _ _ => ?_) (fun _ _ => ?_) ?_
  · rw [decide_eq_false (by omega), decide_eq_false (by omega)]; rfl
  · have : ((2 : Int) ^ 63 - 1) / (n : Int) ≥ 10 := by
      rw [ge_iff_le, Int.le_ediv_iff_mul_le (by omega)]
      omega
    omega
  · rw [Int.toNat_natCast]
    unfold Builtin.Str.tooLong
    exact decide_eq_false (by rw [sizeLine_eq]; omega)
  · rw [if_neg b0, if_neg (by rw [b1]; decide)]
    refine ⟨?_, ⟨.str (repS n z), H, I.tok _, ⟨_, rfl⟩, q⟩⟩
    show ((List.replicate (n : Int).toNat z.cps).foldl (· ++ ·) #[]).size ≤ sizeLine
    rw [rep_len, sizeLine_eq, Int.toNat_natCast, Nat.mul_comm]
    simp
    omega
end
end L2

namespace L2
open PySem PySem.Spec PyProof.Rows
/-! ### long lists of written texts -/
def litE : Expr → Option Str
  | .Constant (.str x) _ _ => some x
  | .BinOp (.Constant (.str a) _ _) .Add (.BinOp (.Constant (.str b) _ _) .Mult (.Constant (.int n) _ _) _) _ => if 2 ≤ n ∧ n ≤ 100 ∧ 1 ≤ b.length ∧ b.length ≤ 10 ∧ a.length ≤ 100 then some (a ++ repS n.toNat b) else none
  | _ => none
def litL : List Expr → Option (List Str)
  | [] => some []
  | e :: r => match litE e, litL r with
    | some x, some xs => some (x :: xs)
    | _, _ => none
section
variable {X : Cx}
theorem repS_len (n : Nat) (z : Str) : (repS n z).length = n * z.length := by
  show ((List.replicate n z.cps).foldl (· ++ ·) #[]).size = _
  rw [rep_len]
  simp
theorem pe_lit {e : Expr} {x : Str} (h : litE e = some x) : PE X e (tC (.str x)) := by
  unfold litE at h
  split at h
  · cases h
    exact pe_str
  · split at h
    · rename_i c
      cases h
      obtain ⟨c1, c2, c3, c4, c5⟩ := c
      intro pins s σ H Q I q
      rename_i a _ _ b _ _ n _ _ _ _
      have e1 : n = ((n.toNat : Nat) : Int) := by omega
      have nb : n.toNat * b.length ≤ 100 * 10 := Nat.mul_le_mul (by omega) c4
      refine (pe_op op_add_str pe_str (pe_op op_mul_str pe_str pe_int)) pins s σ H Q I ?_
      refine ⟨b, n.toNat, rfl, congrArg V.int e1, by omega, by omega, c3, c4, a, _, rfl, rfl, ?_, q⟩
      rw [repS_len, sizeLine_eq]
      omega
    · cases h
  · cases h
def tLit (xs : List Str) : TA := fun _ H Q => Q (xs.map V.str) H
theorem pa_lit0 : ∀ {es : List Expr} {xs : List Str}, litL es = some xs → PA X es (tLit xs)
  | [], xs, h => by
    cases h
    exact fun pos pins s σ H Q I q => pa_nil pos pins s σ H Q I q
  | e :: r, xs, h => by
    unfold litL at h
    split at h
    · rename_i x ys h1 h2
      cases h
      have hs : starEach (e :: r) X.env = (false, eval e X.env) :: starEach r X.env := by
        unfold litE at h1
        split at h1
        · rfl
        · rfl
        · cases h1
      exact fun pos pins s σ H Q I q => (pa_cons (pe_lit h1) (pa_lit0 h2) hs) pos pins s σ H Q I q
    · cases h
theorem pa_lit {es : List Expr} (h : (litL es).isSome = true) : PA X es (tLit ((litL es).getD [])) := by
  cases e : litL es with
  | none => rw [e] at h; cases h
  | some xs => exact pa_lit0 e
end
end L2

namespace KH
open PySem L2
def top (i : Nat) : Stmt := PySem.Challenge.pw_kinghall_k18_read_or_refused.main.body.getD i (.Pass ⟨0, 0, 0, 0⟩)
abbrev s_beginning_for : Stmt := top 10
abbrev s_pairs_of : Stmt := top 11
abbrev s_read : Stmt := top 12
abbrev s_hall_of : Stmt := top 13
abbrev s_law_cell : Stmt := top 15
abbrev s_law_ints : Stmt := top 16
abbrev s_law_lists_like : Stmt := top 17
abbrev s_law_next : Stmt := top 18
abbrev s_law_order : Stmt := top 19
abbrev s_law_first_wins : Stmt := top 20
abbrev s_law_hall : Stmt := top 21
abbrev s_law_which : Stmt := top 22
abbrev s_law_written : Stmt := top 23
abbrev s_law_due : Stmt := top 24
abbrev s_law_sign : Stmt := top 25
abbrev s_law_odd : Stmt := top 26
abbrev s_law : Stmt := top 27

/-! ### the draws -/
def cell (ns : List Int) (k : Int) : Int := if k < ns.length then ns.getD k.toNat 0 else (ns.getD 0 0 % 65521 * 48271 + k * 30103) % 65521
def spCell (K : PySem.W.Frag) : Sp := fun vs H Q _ => ∃ (a : Addr) (ns : List Int) (k : Int), vs = [.ref a, .int k] ∧ SqL K H a (ns.map V.int) ∧ 0 ≤ k ∧ k ≤ 1000 ∧ Q (.int (cell ns k)) H
section
variable {P : Program} {w : World} {K : PySem.W.Frag} {mg : Str → Option Value} {base : Heap} {f : Addr} {fd : FuncData}
theorem sc_cell : FnScope ["script", "k", "base"] ["script", "k"] (defScope s_law_cell) := ⟨rfl, rfl, rfl, by decide +kernel, rfl, by decide +kernel, by decide +kernel⟩
theorem ok_cell (F : Fun K "_law_cell" "_law_cell" s_law_cell f fd) (z : Blt mg) : FnOk P w K mg base CX0 1 f fd ["script", "k"] (spCell K) := by
  refine F.ok sc_cell (fun vs H Q E h => ?_) (fun cdv A outer s H vs Q E hr h => ?_)
  · obtain ⟨a, ns, k, rfl, _⟩ := h
    rfl
  obtain ⟨a, ns, k, rfl, hS, h0, h1, q⟩ := h
  have nd := sc_cell.nd
  have hl : (ns.map V.int).length = ns.length := List.length_map _
  refine ⟨_, (pss_cons (ps_if (pt_cmpR op_lt (pv 1) (pe_callB call_len_seq rfl z.len (by decide +kernel) (pa_cons (pv 0) pa_nil)) (nomark _)) (pss_one (ps_ret (pe_ix ix_list (pv 0) (pv 1) (fun _ _ => rfl)))) pss_nil)
  (pss_cons (ps_set (i := 2) nd rfl (by first | exact Or.inl rfl | exact Or.inr rfl) pe_int)
  (pss_cons (ps_if (pt_cmpR op_gt (pe_callB call_len_seq rfl z.len (by decide +kernel) (pa_cons (pv 0) pa_nil)) pe_int (nomark _)) (pss_one (ps_set (i := 2) nd rfl (by first | exact Or.inl rfl | exact Or.inr rfl) (pe_ix ix_list (pv 0) pe_int (fun _ _ => rfl)))) pss_nil)
  (pss_one (ps_ret (pe_op op_mod (pe_op op_add (pe_op op_mul (pe_op op_mod (pv 2) pe_int) pe_int) (pe_op op_mul (pv 1) pe_int)) pe_int)))))), ?_⟩
  refine ⟨_, rfl, _, rfl, a, _, rfl, .inl hS, _, _, rfl, rfl, _, rfl, ?_⟩
  refine ite2 (fun c => ?_) (fun c => ?_)
  · have c' := of_decide_eq_true c
    rw [hl] at c'
    refine ⟨_, rfl, _, rfl, a, _, _, _, rfl, rfl, hS, at_int h0 c', ?_⟩
    show Q (.int (ns.getD k.toNat 0)) H
    unfold cell at q
    rw [if_pos c'] at q
    exact q
  · have c' : ¬ k < (ns.length : Int) := by
      have c' := of_decide_eq_false (Bool.eq_false_iff.mpr c)
      rw [hl] at c'
      exact c'
    unfold cell at q
    rw [if_neg c'] at q
    refine ⟨_, rfl, a, _, rfl, .inl hS, _, _, rfl, rfl, _, rfl, ?_⟩
    refine ite2 (fun d => ?_) (fun d => ?_)
    · have d' := of_decide_eq_true d
      rw [hl] at d'
      refine ⟨_, rfl, a, _, _, _, rfl, rfl, hS, at_int (Int.le_refl 0) d', ?_⟩
      refine ⟨_, rfl, _, _, rfl, rfl, (by show (0 : Int) < _; decide), _, _, rfl, rfl, .inr ⟨by decide, by decide⟩, _, rfl, _, _, rfl, rfl, .inr ⟨by decide, by decide⟩, _, _, rfl, rfl, _, _, rfl, rfl, (by show (0 : Int) < _; decide), ?_⟩
      exact q
    · have d' := of_decide_eq_false (Bool.eq_false_iff.mpr d)
      rw [hl] at d'
      have hn : ns = [] := by
        cases ns with
        | nil => rfl
        | cons x r => simp only [List.length_cons] at d'; omega
      subst hn
      refine ⟨_, rfl, _, _, rfl, rfl, (by show (0 : Int) < _; decide), _, _, rfl, rfl, .inr ⟨by decide, by decide⟩, _, rfl, _, _, rfl, rfl, .inr ⟨by decide, by decide⟩, _, _, rfl, rfl, _, _, rfl, rfl, (by show (0 : Int) < _; decide), ?_⟩
      exact q

end
end KH

namespace KH
open PySem L2
def nextI (s : Int) : Int := (s * 48271 + 11) % 2147483647
def spNext : Sp := fun vs H Q _ => ∃ s : Int, vs = [.int s] ∧ Q (.int (nextI s)) H
/-- a new list: an order of the players -/
def spOrder (K : PySem.W.Frag) : Sp := fun vs H Q _ => ∃ (a : Addr) (ns : List Int) (k m : Int), vs = [.ref a, .int k, .int m] ∧ SqL K H a (ns.map V.int) ∧ 0 ≤ k ∧ k ≤ 1000 ∧ 0 ≤ m ∧ m ≤ 100 ∧
  ∀ (r : Addr) (H' : Hp) (ord : List Int), H r = none → Same H H' → H' r = some (.lst (ord.map V.int)) → ord.Perm (nums m.toNat) → Q (.ref r) H'
def spFirst : Sp := fun vs H Q _ => ∃ (w o t m s : Int), vs = [.int w, .int o, .int t, .int m, .int s] ∧ 0 < m ∧ ∀ b : Bool, Q (.bl b) H
section
variable {P : Program} {w : World} {K : PySem.W.Frag} {mg : Str → Option Value} {base : Heap} {f : Addr} {fd : FuncData}
theorem sc_next : FnScope ["step"] ["step"] (defScope s_law_next) := ⟨rfl, rfl, rfl, by decide +kernel, rfl, by decide +kernel, by decide +kernel⟩
theorem ok_next (F : Fun K "_law_next" "_law_next" s_law_next f fd) : FnOk P w K mg base CX0 1 f fd ["step"] spNext := by
  refine F.ok sc_next (fun vs H Q E h => ?_) (fun cdv A outer s H vs Q E hr h => ?_)
  · obtain ⟨s, rfl, _⟩ := h
    rfl
  obtain ⟨s, rfl, q⟩ := h
  refine ⟨_, (pss_one (ps_ret (pe_op op_mod (pe_op op_add (pe_op op_mul (pv 0) pe_int) pe_int) pe_int))), ?_⟩
  refine ⟨_, rfl, _, _, rfl, rfl, .inr ⟨by decide, by decide⟩, _, _, rfl, rfl, _, _, rfl, rfl, (by show (0 : Int) < _; decide), ?_⟩
  exact q

theorem sc_order : FnScope ["script", "k", "many", "step", "order", "player"] ["script", "k", "many"] (defScope s_law_order) := ⟨rfl, rfl, rfl, by decide +kernel, rfl, by decide +kernel, by decide +kernel⟩
theorem ok_order (F : Fun K "_law_order" "_law_order" s_law_order f fd) (z : Blt mg) (C_law_cell : Has P w K mg base 1 "_law_cell" ["script", "k"] (spCell K)) (C_law_next : Has P w K mg base 1 "_law_next" ["step"] spNext) :
    FnOk P w K mg base CX0 2 f fd ["script", "k", "many"] (spOrder K) := by
  refine F.ok sc_order (fun vs H Q E h => ?_) (fun cdv A outer s H vs Q E hr h => ?_)
  · obtain ⟨a, ns, k, m, rfl, _⟩ := h
    rfl
  obtain ⟨a, ns, k, m, rfl, hS, h0, h1, m0, m1, q⟩ := h
  have nd := sc_order.nd
  refine ⟨_, (pss_cons (ps_set (i := 3) nd rfl (by first | exact Or.inl rfl | exact Or.inr rfl) (pe_callH C_law_next (hr.mono (by decide)) rfl (pa_cons (pe_op op_add (pe_op op_mod (pe_op op_mul (pe_callH C_law_cell (hr.mono (by decide)) rfl (pa_cons (pv 0) (pa_cons (pv 1) pa_nil))) pe_int) pe_int) pe_int) pa_nil)))
  (pss_cons (ps_set (i := 4) nd rfl (by first | exact Or.inl rfl | exact Or.inr rfl) (pe_lst pa_nil))
  (pss_cons (ps_for PassesOwn.never rfl (pi_range1 rfl z.range (pa_cons (pv 2) pa_nil)) (pg_name (i := 5) nd rfl (by first | exact Or.inl rfl | exact Or.inr rfl)) (pss_cons (ps_set (i := 3) nd rfl (by first | exact Or.inl rfl | exact Or.inr rfl) (pe_callH C_law_next (hr.mono (by decide)) rfl (pa_cons (pv 3) pa_nil)))
  (pss_one (ps_expr (pe_bm PySem.F.plainAttrs_list PySem.F.slot_list_insert PySem.F.type_list_insert mt_insert (pv 4) (pa_cons (pe_op op_mod (pe_op op_fdiv (pv 3) pe_int) (pe_op op_add (pv 5) pe_int)) (pa_cons (pv 5) pa_nil)))))))
  (pss_one (ps_ret (pv 4)))))), ?_⟩
  refine ⟨_, rfl, _, rfl, a, ns, k, rfl, hS, h0, h1, ?_⟩
  refine ⟨_, _, rfl, rfl, .inr ⟨by decide, by decide⟩, _, _, rfl, rfl, (by show (0 : Int) < _; decide), _, _, rfl, rfl, _, rfl, ?_⟩
  refine ⟨(by decide), fun L hL => ?_⟩
  refine ⟨_, rfl, _, rfl, by omega, by omega, ?_⟩
  refine for_range (lo := 0) (n := m.toNat) (fun i σ H2 => ∃ (st : Int) (v : Option V) (ord : List Int), σ = [some (.ref a), some (.int k), some (.int m), some (.int st), some (.ref L), v] ∧ Same H H2 ∧ H2 L = some (.lst (ord.map V.int)) ∧ ord.Perm (nums i))
    ⟨_, none, [], rfl, same_new hL _, upd_same, by simp [nums]⟩ ?_ ?_
  · rintro i σ H2 hi ⟨st, v, ord, rfl, s2, hL2, hp⟩
    have hlen : ord.length = i := hp.length_eq.trans (nums_length i)
    refine ⟨_, rfl, _, rfl, ?_⟩
    have pos : (0 : Int) < 0 + (i : Int) + 1 := by omega
    have mlt := Int.emod_lt_of_pos (nextI st / 64) pos
    have mge := Int.emod_nonneg (nextI st / 64) (Int.ne_of_gt pos)
    refine ⟨_, rfl, .inl ⟨rfl, _, SqL.of hL2⟩, _, rfl, _, _, rfl, rfl, ⟨by decide, by decide⟩, _, rfl, _, _, rfl, rfl, _, _, rfl, rfl, pos, _, rfl, _, _, _, _, rfl, rfl, hL2, mge, ?_, ?_, ?_⟩
    · rw [List.length_map]; omega
    · rw [List.length_map]; exact smallL (by omega)
    · refine ⟨_, _, ord.take (nextI st / 64 % (0 + (i : Int) + 1)).toNat ++ (0 + (i : Int)) :: ord.drop (nextI st / 64 % (0 + (i : Int) + 1)).toNat, rfl, fun b o e => ?_, ?_, ?_⟩
      · rw [upd_ne (fun z => by rw [z, hL] at e; cases e)]; exact s2 b o e
      · rw [upd_same]; simp [List.map_take, List.map_drop]
      · have pp := perm_insert (x := 0 + (i : Int)) hp (nextI st / 64 % (0 + (i : Int) + 1)).toNat
        rw [nums_succ]
        rw [show nums i ++ [(i : Int)] = nums i ++ [0 + (i : Int)] by rw [Int.zero_add]]
        exact pp
  · rintro σ H2 ⟨st, v, ord, rfl, s2, hL2, hp⟩
    refine ⟨_, rfl, ?_⟩
    exact q L H2 ord hL s2 hL2 hp
end
end KH

namespace KH
open PySem L2
/-- a new hall of m players -/
def spHall (K : PySem.W.Frag) : Sp := fun vs H Q _ => ∃ (a : Addr) (ns : List Int) (k m : Int), vs = [.ref a, .int k, .int m] ∧ SqL K H a (ns.map V.int) ∧ 0 ≤ k ∧ k ≤ 500 ∧ 1 ≤ m ∧ m ≤ 12 ∧
  ∀ (p : Addr) (as : List Addr) (rows : List (List Int)) (H' : Hp), NewHall H H' p as rows → IsHall rows → rows.length = m.toNat → Q (.ref p) H'
section
variable {P : Program} {w : World} {K : PySem.W.Frag} {mg : Str → Option Value} {base : Heap} {f : Addr} {fd : FuncData}
theorem sc_first : FnScope ["way", "one", "other", "many", "step", "far"] ["way", "one", "other", "many", "step"] (defScope s_law_first_wins) := ⟨rfl, rfl, rfl, by decide +kernel, rfl, by decide +kernel, by decide +kernel⟩
theorem ok_first (F : Fun K "_law_first_wins" "_law_first_wins" s_law_first_wins f fd) : FnOk P w K mg base CX0 1 f fd ["way", "one", "other", "many", "step"] spFirst := by
  refine F.ok sc_first (fun vs H Q E h => ?_) (fun cdv A outer s H vs Q E hr h => ?_)
  · obtain ⟨_, _, _, _, _, rfl, _⟩ := h
    rfl
  obtain ⟨way, one, other, m, st, rfl, hm, q⟩ := h
  have nd := sc_first.nd
  refine ⟨_, (pss_cons (ps_if (pt_cmpR op_eq (pv 0) pe_int (nomark _)) (pss_one (ps_ret (pe_cmpR op_eq (pe_cmpR op_lt (pv 1) (pv 2) (nomark _)) (pe_cmpR op_gt (pe_op op_mod (pe_op op_fdiv (pv 4) pe_int) pe_int) pe_int (nomark _)) (nomark _)))) pss_nil)
  (pss_cons (ps_if (pt_cmpR op_eq (pv 0) pe_int (nomark _)) (pss_cons (ps_set (i := 5) nd rfl (by first | exact Or.inl rfl | exact Or.inr rfl) (pe_op op_mod (pe_op op_sub (pv 2) (pv 1)) (pv 3)))
  (pss_one (ps_ret (pe_or (pe_cmpR op_lt (pe_op op_mul pe_int (pv 5)) (pv 3) (nomark _)) (pe_one (pe_and (pe_cmpR op_eq (pe_op op_mul pe_int (pv 5)) (pv 3) (nomark _)) (pe_one (pe_cmpR op_lt (pv 1) (pv 2) (nomark _))))))))) pss_nil)
  (pss_one (ps_ret (pe_cmpR op_eq (pe_op op_mod (pe_op op_fdiv (pv 4) pe_int) pe_int) pe_int (nomark _)))))), ?_⟩
  refine ⟨_, rfl, rfl, _, rfl, ?_⟩
  refine ite2 (fun _ => ?_) (fun _ => ?_)
  · exact ⟨_, rfl, _, rfl, _, _, rfl, rfl, _, rfl, _, _, rfl, rfl, ⟨by decide, by decide⟩, _, _, rfl, rfl, (by show (0 : Int) < _; decide), _, _, rfl, rfl, rfl, q _⟩
  refine ⟨_, rfl, rfl, _, rfl, ?_⟩
  refine ite2 (fun _ => ?_) (fun _ => ?_)
  · refine ⟨_, rfl, _, rfl, _, _, rfl, rfl, _, rfl, _, _, rfl, rfl, hm, ?_⟩
    refine ⟨_, rfl, _, _, rfl, rfl, .inl ⟨by decide, by decide⟩, _, rfl, _, _, rfl, rfl, _, rfl, ite2 (fun _ => q _) (fun _ => ?_)⟩
    exact ⟨_, rfl, _, _, rfl, rfl, .inl ⟨by decide, by decide⟩, _, rfl, rfl, _, rfl, ite2 (fun _ => ⟨_, rfl, _, rfl, _, _, rfl, rfl, q _⟩) (fun _ => q _)⟩
  · exact ⟨_, rfl, _, _, rfl, rfl, ⟨by decide, by decide⟩, _, _, rfl, rfl, (by show (0 : Int) < _; decide), rfl, q _⟩

theorem sc_hall : FnScope ["script", "k", "many", "way", "step", "order", "hall", "one", "other"] ["script", "k", "many"] (defScope s_law_hall) := ⟨rfl, rfl, rfl, by decide +kernel, rfl, by decide +kernel, by decide +kernel⟩
theorem ok_hall (F : Fun K "_law_hall" "_law_hall" s_law_hall f fd) (z : Blt mg) (C_law_cell : Has P w K mg base 1 "_law_cell" ["script", "k"] (spCell K)) (C_law_next : Has P w K mg base 1 "_law_next" ["step"] spNext)
    (C_law_order : Has P w K mg base 2 "_law_order" ["script", "k", "many"] (spOrder K)) (C_law_first_wins : Has P w K mg base 1 "_law_first_wins" ["way", "one", "other", "many", "step"] spFirst) :
    FnOk P w K mg base CX0 3 f fd ["script", "k", "many"] (spHall K) := by
  refine F.ok sc_hall (fun vs H Q E h => ?_) (fun cdv A outer s H vs Q E hr h => ?_)
  · obtain ⟨a, ns, k, m, rfl, _⟩ := h
    rfl
  obtain ⟨a, ns, k, m, rfl, hS, h0, h1, m1, m12, q⟩ := h
  have nd := sc_hall.nd
  refine ⟨_, (pss_cons (ps_set (i := 3) nd rfl (by first | exact Or.inl rfl | exact Or.inr rfl) (pe_op op_mod (pe_callH C_law_cell (hr.mono (by decide)) rfl (pa_cons (pv 0) (pa_cons (pv 1) pa_nil))) pe_int))
  (pss_cons (ps_set (i := 4) nd rfl (by first | exact Or.inl rfl | exact Or.inr rfl) (pe_callH C_law_next (hr.mono (by decide)) rfl (pa_cons (pe_op op_add (pe_op op_mod (pe_op op_mul (pe_callH C_law_cell (hr.mono (by decide)) rfl (pa_cons (pv 0) (pa_cons (pe_op op_add (pv 1) pe_int) pa_nil))) pe_int) pe_int) pe_int) pa_nil)))
  (pss_cons (ps_set (i := 5) nd rfl (by first | exact Or.inl rfl | exact Or.inr rfl) (pe_callH C_law_order (hr.mono (by decide)) rfl (pa_cons (pv 0) (pa_cons (pe_op op_add (pv 1) pe_int) (pa_cons (pv 2) pa_nil)))))
  (pss_cons (ps_setLC (i := 6) nd rfl (by first | exact Or.inl rfl | exact Or.inr rfl) rfl (cscope (N' := ["player"]) (caps := [none])) (pi_range1 rfl z.range (pa_cons (pv 2) pa_nil)) (fun s H fp => ⟨(pg_name (i := 0) (show (["player"] : List Str).Nodup by decide +kernel) rfl (by first | exact Or.inl rfl | exact Or.inr rfl)), pif_nil, (pe_lst pa_nil)⟩))
  (pss_cons (ps_for PassesOwn.never rfl (pi_range1 rfl z.range (pa_cons (pv 2) pa_nil)) (pg_name (i := 7) nd rfl (by first | exact Or.inl rfl | exact Or.inr rfl)) (pss_one (ps_for PassesOwn.never rfl (pi_range2 rfl z.range (pa_cons (pe_op op_add (pv 7) pe_int) (pa_cons (pv 2) pa_nil))) (pg_name (i := 8) nd rfl (by first | exact Or.inl rfl | exact Or.inr rfl)) (pss_cons (ps_set (i := 4) nd rfl (by first | exact Or.inl rfl | exact Or.inr rfl) (pe_callH C_law_next (hr.mono (by decide)) rfl (pa_cons (pv 4) pa_nil)))
  (pss_one (ps_if (pt_val (pe_callH C_law_first_wins (hr.mono (by decide)) rfl (pa_cons (pv 3) (pa_cons (pv 7) (pa_cons (pv 8) (pa_cons (pv 2) (pa_cons (pv 4) pa_nil))))))) (pss_one (ps_expr (pe_bm PySem.F.plainAttrs_list PySem.F.slot_list_append PySem.F.type_list_append mt_append (pe_ix ix_list (pv 6) (pe_ix ix_list (pv 5) (pv 7) (fun _ _ => rfl)) (fun _ _ => rfl)) (pa_cons (pe_ix ix_list (pv 5) (pv 8) (fun _ _ => rfl)) pa_nil)))) (pss_one (ps_expr (pe_bm PySem.F.plainAttrs_list PySem.F.slot_list_append PySem.F.type_list_append mt_append (pe_ix ix_list (pv 6) (pe_ix ix_list (pv 5) (pv 8) (fun _ _ => rfl)) (fun _ _ => rfl)) (pa_cons (pe_ix ix_list (pv 5) (pv 7) (fun _ _ => rfl)) pa_nil))))))))))
  (pss_one (ps_ret (pe_lc rfl (cscope (N' := ["row"]) (caps := [none])) (pi_list (pv 6)) (fun s H fp => ⟨(pg_name (i := 0) (show (["row"] : List Str).Nodup by decide +kernel) rfl (by first | exact Or.inl rfl | exact Or.inr rfl)), pif_nil, (pe_callB (call_sortedK (K := K) rfl) rfl z.sorted (by decide +kernel) (pa_cons (pv 0) pa_nil))⟩))))))))), ?_⟩
  -- way, step, order
  refine ⟨_, rfl, _, rfl, a, ns, k, rfl, hS, h0, by omega, _, _, rfl, rfl, (by show (0 : Int) < _; decide), ?_⟩
  refine ⟨_, rfl, _, rfl, _, _, rfl, rfl, a, ns, _, rfl, hS, by omega, by omega, _, _, rfl, rfl, .inr ⟨by decide, by decide⟩, _, _, rfl, rfl, (by show (0 : Int) < _; decide), _, _, rfl, rfl, _, rfl, ?_⟩
  refine ⟨_, rfl, _, rfl, _, _, rfl, rfl, _, rfl, a, ns, _, _, rfl, hS, by omega, by omega, by omega, by omega, fun r H1 ord hr1 s1 hr2 hp => ?_⟩
  have hn : ((m.toNat : Nat) : Int) = m := by omega
  have O := ord_of_perm hp
  -- hall = [[] for player in range(many)]
  refine ⟨_, rfl, _, rfl, by omega, by omega, ?_⟩
  refine lc_range (lo := 0) (n := m.toNat) (fun D i acc H2 => ∃ as, acc = as.map V.ref ∧ i ≤ m.toNat ∧ NewHall H1 H2 D as (List.replicate i [])) (fun D hD => ⟨[], rfl, Nat.zero_le _, NewHall.start hD⟩) ?_ ?_
  · rintro D i acc H2 hi ⟨as, rfl, _, N⟩
    have hl := N.at_.len
    rw [List.length_replicate] at hl
    refine ⟨CapKeep.set rfl, tt_intro ⟨(by decide), fun b hb => ⟨?_, ?_, ?_⟩⟩⟩
    · rw [upd_ne (ne_of_none N.at_.top hb)]; exact N.at_.top
    · rw [List.length_map]; exact smallL (by omega)
    · refine ⟨as ++ [b], by simp, hi, ?_⟩
      rw [List.replicate_succ']
      exact N.snoc' (r := []) (same_new hb _) upd_same hb
  rintro D acc H2 ⟨as, rfl, _, N⟩
  -- the wins
  refine ⟨_, rfl, _, rfl, by omega, by omega, ?_⟩
  refine for_range (lo := 0) (n := m.toNat) (fun i σ H3 => ∃ (st : Int) (wy : Int) (v1 v2 : Option V) (rows : List (List Int)), σ = [some (.ref a), some (.int k), some (.int m), some (.int wy), some (.int st), some (.ref r), some (.ref D), v1, v2] ∧ NewHall H1 H3 D as rows ∧ Drawn m.toNat ord rows i 0)
    ⟨_, _, none, none, _, rfl, N, drawn_start O⟩ ?_ ?_
  · rintro i σ H3 hi ⟨st, wy, v1, v2, rows, rfl, N3, D3⟩
    refine ⟨_, rfl, _, _, rfl, rfl, _, rfl, _, _, rfl, ⟨by omega, by omega, by omega, by omega⟩, ?_⟩
    refine for_range (lo := 0 + (i : Int) + 1) (n := (m - (0 + (i : Int) + 1)).toNat) (fun j σ H4 => ∃ (st : Int) (v2 : Option V) (rows : List (List Int)), σ = [some (.ref a), some (.int k), some (.int m), some (.int wy), some (.int st), some (.ref r), some (.ref D), some (.int (0 + (i : Int))), v2] ∧ NewHall H1 H4 D as rows ∧ Drawn m.toNat ord rows i (i + 1 + j))
      ⟨_, _, _, rfl, N3, D3.skip⟩ ?_ ?_
    · rintro j σ H4 hj ⟨st, v2, rows, rfl, N4, D4⟩
      have hjn : i + 1 + j < m.toNat := by omega
      refine ⟨_, rfl, _, rfl, ?_⟩
      refine ⟨_, rfl, _, rfl, _, rfl, _, rfl, _, rfl, _, _, _, _, _, rfl, by omega, fun b => ⟨_, rfl, ?_⟩⟩
      have hord : SqL K H4 r (ord.map V.int) := SqL.of (N4.same _ _ hr2)
      have ei : (0 + (i : Int)).toNat = i := by omega
      have ej : (0 + (i : Int) + 1 + (j : Int)).toNat = i + 1 + j := by omega
      have a1 : atI (ord.map V.int) (0 + (i : Int)) = some (.int (ord.getD i 0)) := by
        have := at_int (ns := ord) (k := 0 + (i : Int)) (by omega) (by rw [O.len]; omega)
        rw [ei] at this; exact this
      have a2 : atI (ord.map V.int) (0 + (i : Int) + 1 + (j : Int)) = some (.int (ord.getD (i + 1 + j) 0)) := by
        have := at_int (ns := ord) (k := 0 + (i : Int) + 1 + (j : Int)) (by omega) (by rw [O.len]; omega)
        rw [ej] at this; exact this
      have step : ∀ (u v : Int), ((u = ord.getD i 0 ∧ v = ord.getD (i + 1 + j) 0) ∨ (u = ord.getD (i + 1 + j) 0 ∧ v = ord.getD i 0)) →
          ∃ au, atI (as.map V.ref) u = some (.ref au) ∧ H4 au = some (.lst ((R rows u).map V.int)) ∧ (R rows u).length ≤ 12 ∧
            ∃ (st : Int) (v2 : Option V) (rows' : List (List Int)), NewHall H1 (upd H4 au (.lst ((R rows u).map V.int ++ [.int v]))) D as rows' ∧ Drawn m.toNat ord rows' i (i + 1 + (j + 1)) := fun u v huv => by
        have hu : 0 ≤ u ∧ u < (m.toNat : Int) := by
          rcases huv with ⟨e, _⟩ | ⟨e, _⟩ <;> rw [e]
          · exact O.rng i (by omega)
          · exact O.rng (i + 1 + j) hjn
        have hur : u.toNat < rows.length := by rw [D4.len]; omega
        obtain ⟨au, e1, e2⟩ := paired_get N4.at_.row (i := u.toNat) (b := R rows u) (by rw [List.getElem?_eq_getElem hur]; unfold R; rw [getD_of_lt hur])
        refine ⟨au, at_ref hu.1 e1, e2, ?_, st, v2, push rows u v, ?_, ?_⟩
        · have := D4.few u.toNat (by omega)
          unfold rowAt at this
          unfold R
          omega
        · have q := N4.put (r' := R rows u ++ [v]) e1
          rw [List.map_append] at q
          exact q
        · exact D4.win O (by omega) hjn huv
      refine ite2 (fun _ => ?_) (fun _ => ?_)
      · obtain ⟨au, e1, e2, e3, st', v2', rows', N5, D5⟩ := step _ _ (.inl ⟨rfl, rfl⟩)
        refine ⟨_, rfl, _, rfl, _, rfl, _, _, _, _, rfl, rfl, hord, a1, _, _, _, _, rfl, rfl, N4.at_.sq, e1, .inl ⟨rfl, _, SqL.of e2⟩, _, rfl, _, rfl, _, _, _, _, rfl, rfl, hord, a2, _, _, _, rfl, rfl, e2, ?_, ?_⟩
        · rw [List.length_map]; exact smallL (by omega)
        · exact ⟨_, _, rows', rfl, N5, D5⟩
      · obtain ⟨au, e1, e2, e3, st', v2', rows', N5, D5⟩ := step _ _ (.inr ⟨rfl, rfl⟩)
        refine ⟨_, rfl, _, rfl, _, rfl, _, _, _, _, rfl, rfl, hord, a2, _, _, _, _, rfl, rfl, N4.at_.sq, e1, .inl ⟨rfl, _, SqL.of e2⟩, _, rfl, _, rfl, _, _, _, _, rfl, rfl, hord, a1, _, _, _, rfl, rfl, e2, ?_, ?_⟩
        · rw [List.length_map]; exact smallL (by omega)
        · exact ⟨_, _, rows', rfl, N5, D5⟩
    · rintro σ H4 ⟨st, v2, rows, rfl, N4, D4⟩
      refine ⟨_, _, _, _, _, rfl, N4, ?_⟩
      have e : i + 1 + (m - (0 + (i : Int) + 1)).toNat = m.toNat := by omega
      rw [e] at D4
      exact D4.next
  rintro σ H3 ⟨st, wy, v1, v2, rows, rfl, N3, D3⟩
  have hlen : as.length = m.toNat := N3.at_.len.trans D3.len
  -- return [sorted(row) for row in hall]
  refine ⟨_, rfl, _, rfl, ⟨_, N3.at_.sq⟩, ?_⟩
  refine lc_list (K := K) (a := D) (xs := as.map V.ref) (fun E i acc H4 => ∃ (bs : List Addr) (rows' : List (List Int)), acc = bs.map V.ref ∧ NewHall H3 H4 E bs rows' ∧ rows'.length = i ∧ i ≤ m.toNat ∧
      ∀ j, j < i → (rowAt rows' j).Perm (rowAt rows j) ∧ (rowAt rows' j).Pairwise (· ≤ ·)) (fun E hE => ⟨[], [], rfl, NewHall.start hE, rfl, Nat.zero_le _, fun j hj => by omega⟩)
    (fun E i acc H4 _ ⟨_, _, _, N4, _⟩ => N4.same.seq N3.at_.sq) ?_ ?_
  · rintro E i x acc H4 hx ⟨bs, rows', rfl, N4, l4, hi4, s4⟩
    rw [List.getElem?_map] at hx
    cases ha : as[i]? with
    | none => rw [ha] at hx; cases hx
    | some au =>
      rw [ha] at hx
      have ex : x = .ref au := (Option.some.inj hx).symm
      subst ex
      have hi : i < as.length := (List.getElem?_eq_some_iff.mp ha).1
      obtain ⟨row, er, sr⟩ := paired_getA N3.at_.row ha
      have erow : rowAt rows i = row := by unfold rowAt; rw [List.getD_eq_getElem?_getD, er]; rfl
      have few := D3.few i (by omega)
      rw [erow] at few
      have hb4 := N4.at_.len
      refine ⟨CapKeep.set rfl, tt_intro ⟨_, rfl, au, row, rfl, N4.same.seq (SqL.of sr), by omega, fun L ns' hL hp' hs' => ⟨?_, ?_, ?_⟩⟩⟩
      · rw [upd_ne (ne_of_none N4.at_.top hL)]; exact N4.at_.top
      · rw [List.length_map]; exact smallL (by omega)
      · refine ⟨bs ++ [L], rows' ++ [ns'], by simp, N4.snoc' (same_new hL _) upd_same hL, by simp [l4], by omega, fun j hj => ?_⟩
        by_cases hji : j < i
        · have e : rowAt (rows' ++ [ns']) j = rowAt rows' j := by
            unfold rowAt
            rw [List.getD_eq_getElem?_getD, List.getElem?_append_left (by omega), ← List.getD_eq_getElem?_getD]
          rw [e]
          exact s4 j hji
        · have ej : j = i := by omega
          subst ej
          have e : rowAt (rows' ++ [ns']) j = ns' := by
            unfold rowAt
            rw [List.getD_eq_getElem?_getD, List.getElem?_append_right (by omega), l4]
            simp
          rw [e, erow]
          exact ⟨hp', hs'⟩
  · rintro E acc H4 ⟨bs, rows', rfl, N4, l4, hi4, s4⟩
    rw [List.length_map, hlen] at l4 s4
    exact q E bs rows' H4 (N4.base (s1.trans N3.same)) (D3.hall O (by omega) (by omega) l4 s4) l4
end
end KH

namespace KH
open PySem L2
/-! ### what is_hall and its like promise -/
def spBeaten (K : PySem.W.Frag) : Sp := fun vs H Q _ => ∃ (a : Addr) (row : List Int) (p m : Int), vs = [.ref a, .int p, .int m] ∧ SqL K H a (row.map V.int) ∧ Q (.bl (dec (BeatenOk row p m))) H
/-- a list of lists of ints is handed in -/
def RdHall (K : PySem.W.Frag) (H : Hp) (p : Addr) (rows : List (List Int)) : Prop := ∃ as : List Addr, SqL K H p (as.map V.ref) ∧ RowsAt K H as rows
theorem RdHall.same {K : PySem.W.Frag} {H H' : Hp} {p : Addr} {rows : List (List Int)} (h : RdHall K H p rows) (s : Same H H') : RdHall K H' p rows := by
  obtain ⟨as, a, b⟩ := h
  exact ⟨as, s.seq a, rows_same b s⟩
theorem HallAt.rd {K : PySem.W.Frag} {H : Hp} {p : Addr} {as : List Addr} {rows : List (List Int)} (h : HallAt H p as rows) : RdHall K H p rows := ⟨as, h.sq, h.rows⟩
def spOneEach (K : PySem.W.Frag) : Sp := fun vs H Q _ => ∃ (p : Addr) (rows : List (List Int)), vs = [.ref p] ∧ RdHall K H p rows ∧ rows.length ≤ 1000 ∧ Q (.bl (dec (OneEach rows))) H
def spIsHall (K : PySem.W.Frag) : Sp := fun vs H Q _ => ∃ (p : Addr) (rows : List (List Int)), vs = [.ref p] ∧ RdHall K H p rows ∧ rows.length ≤ 1000 ∧ ∀ H', Same H H' → Q (.bl (dec (IsHall rows))) H'
/-- a new copy -/
def spCopy (K : PySem.W.Frag) : Sp := fun vs H Q _ => ∃ (p : Addr) (rows : List (List Int)), vs = [.ref p] ∧ RdHall K H p rows ∧ rows.length ≤ 500 ∧
  ∀ (p' : Addr) (as' : List Addr) (H' : Hp), NewHall H H' p' as' rows → Q (.ref p') H'

theorem getElem_rowAt {rows : List (List Int)} {i : Nat} {r : List Int} (h : rows[i]? = some r) : rowAt rows i = r := by
  unfold rowAt; rw [List.getD_eq_getElem?_getD, h]; rfl
theorem map_ref_get {as : List Addr} {i : Nat} {x : V} (h : (as.map V.ref)[i]? = some x) : ∃ a, x = .ref a ∧ as[i]? = some a := by
  rw [List.getElem?_map] at h
  cases e : as[i]? with
  | none => rw [e] at h; cases h
  | some a => rw [e] at h; exact ⟨a, (Option.some.inj h).symm, rfl⟩
theorem map_int_get {ns : List Int} {i : Nat} {x : V} (h : (ns.map V.int)[i]? = some x) : ∃ a, x = .int a ∧ ns[i]? = some a := by
  rw [List.getElem?_map] at h
  cases e : ns[i]? with
  | none => rw [e] at h; cases h
  | some a => rw [e] at h; exact ⟨a, (Option.some.inj h).symm, rfl⟩
section
variable {P : Program} {w : World} {K : PySem.W.Frag} {mg : Str → Option Value} {base : Heap} {f : Addr} {fd : FuncData}
/-- [list(row) for row in hall] -/
theorem copy_comp {H : Hp} {p : Addr} {as : List Addr} {rows : List (List Int)} {σ0 : St} {Q : VK} (hS : SqL K H p (as.map V.ref)) (hR : RowsAt K H as rows) (hz : rows.length ≤ 500) (h0 : σ0[0]? = some none)
    (q : ∀ (p' : Addr) (as' : List Addr) (H' : Hp), NewHall H H' p' as' rows → Q (.ref p') H') :
    LCw σ0 (gName 0) tTrue (tCB (fun xs H Q => ∃ p ys, xs = [.ref p] ∧ (SqL K H p ys ∨ SqT K H p ys) ∧ ∀ l, H l = none → Q (.ref l) (upd H l (.lst ys))) (tCons (tVar 0) tNil)) Q (Itl K p) H := by
  have hlen := hR.length
  refine lc_list (K := K) (a := p) (xs := as.map V.ref) (fun E i acc H4 => ∃ bs : List Addr, acc = bs.map V.ref ∧ NewHall H H4 E bs (rows.take i)) (fun E hE => ⟨[], rfl, NewHall.start hE⟩)
    (fun E i acc H4 _ ⟨_, _, N4⟩ => N4.same.seq hS) ?_ ?_
  · rintro E i x acc H4 hx ⟨bs, rfl, N4⟩
    obtain ⟨a, rfl, ha⟩ := map_ref_get hx
    obtain ⟨row, er, sr⟩ := RowsAt.getA hR ha
    have hi : i < rows.length := (List.getElem?_eq_some_iff.mp er).1
    have hb4 := N4.at_.len
    rw [List.length_take] at hb4
    have g0 : (σ0.set 0 (some (V.ref a)))[0]? = some (some (.ref a)) := List.getElem?_set_self (List.getElem?_eq_some_iff.mp h0).1
    refine ⟨CapKeep.set h0, tt_intro ⟨_, g0, a, _, rfl, .inl (N4.same.seq sr), fun L hL => ⟨?_, ?_, ?_⟩⟩⟩
    · rw [upd_ne (ne_of_none N4.at_.top hL)]; exact N4.at_.top
    · rw [List.length_map]; exact smallL (by omega)
    · refine ⟨bs ++ [L], by simp, ?_⟩
      rw [take_snoc er]
      exact N4.snoc' (same_new hL _) upd_same hL
  · rintro E acc H4 ⟨bs, rfl, N4⟩
    rw [List.length_map, hlen, List.take_length] at N4
    exact q E bs H4 N4
end
end KH

namespace KH
open PySem L2
/-! ### beginning_for, pairs_of -/
theorem head_txt (n : Nat) : headS n = txt (headN n) := txt_of _
theorem gt_txt : ((">" : String) : Str) = txt [62] := by decide +kernel
theorem lt_txt : (("<" : String) : Str) = txt [60] := by decide +kernel
theorem nil_txt : (("" : String) : Str) = txt [] := by decide +kernel
theorem head_fits : ∀ n : Nat, n ≤ 12 → (n : Int).natAbs.log2 < 1920 ∧ (((toString (n : Int) : String) : Str) ++ ((":" : String) : Str)).length ≤ 3 := by decide +kernel
def spBegin : Sp := fun vs H Q _ => ∃ n : Nat, vs = [.int (n : Int)] ∧ n ≤ 12 ∧ Q (.str (headS n)) H
def spPairs : Sp := fun vs H Q _ => ∃ n : Nat, vs = [.int (n : Int)] ∧ n ≤ 12 ∧ ∀ (T : Addr) (ps : List Addr) (H' : Hp), Pairs H H' T ps (plTo n n) → Q (.ref T) H'
theorem paired_appN {α β : Type} {F : α → β → Prop} : ∀ {as as' : List α} {bs bs' : List β}, Paired F as bs → Paired F as' bs' → Paired F (as ++ as') (bs ++ bs')
  | _, _, _, _, .nil, h => h
  | _, _, _, _, .cons r t, h => .cons r (paired_appN t h)
section
variable {P : Program} {w : World} {K : PySem.W.Frag} {mg : Str → Option Value} {base : Heap} {f : Addr} {fd : FuncData}
theorem sc_begin : FnScope ["many"] ["many"] (defScope s_beginning_for) := ⟨rfl, rfl, rfl, by decide +kernel, rfl, by decide +kernel, by decide +kernel⟩
theorem ok_begin (F : Fun K "beginning_for" "beginning_for" s_beginning_for f fd) : FnOk P w K mg base CX0 1 f fd ["many"] spBegin := by
  refine F.ok sc_begin (fun vs H Q E h => ?_) (fun cdv A outer s H vs Q E hr h => ?_)
  · obtain ⟨n, rfl, _⟩ := h
    rfl
  obtain ⟨n, rfl, h12, q⟩ := h
  obtain ⟨k1, k2⟩ := head_fits n h12
  refine ⟨_, (pss_one (ps_ret (pe_fstr (pv 0)))), ?_⟩
  exact ⟨_, rfl, (n : Int), rfl, k1, Nat.le_of_lt (small (by omega)), q⟩
theorem sc_pairs : FnScope ["many", "pairs", "one"] ["many"] (defScope s_pairs_of) := ⟨rfl, rfl, rfl, by decide +kernel, rfl, by decide +kernel, by decide +kernel⟩
set_option maxHeartbeats 0 in
theorem ok_pairs (F : Fun K "pairs_of" "pairs_of" s_pairs_of f fd) (z : Blt mg) : FnOk P w K mg base CX0 1 f fd ["many"] spPairs := by
  refine F.ok sc_pairs (fun vs H Q E h => ?_) (fun cdv A outer s H vs Q E hr h => ?_)
  · obtain ⟨n, rfl, _⟩ := h
    rfl
  obtain ⟨n, rfl, h12, q⟩ := h
  have nd := sc_pairs.nd
  refine ⟨_, (pss_cons (ps_set (i := 1) nd rfl (by first | exact Or.inl rfl | exact Or.inr rfl) (pe_lst pa_nil))
  (pss_cons (ps_for PassesOwn.never rfl (pi_range1 rfl z.range (pa_cons (pv 0) pa_nil)) (pg_name (i := 2) nd rfl (by first | exact Or.inl rfl | exact Or.inr rfl)) (pss_one (ps_expr (pe_bm PySem.F.plainAttrs_list PySem.F.slot_list_extend PySem.F.type_list_extend mt_extend (pv 1) (pa_cons (pe_lc rfl (cscope (N' := ["other", "one"]) (caps := [none, some 2])) (pi_range2 rfl z.range (pa_cons (pe_op op_add (pv 2) pe_int) (pa_cons (pv 0) pa_nil))) (fun s H fp => ⟨(pg_name (i := 0) (show (["other", "one"] : List Str).Nodup by decide +kernel) rfl (by first | exact Or.inl rfl | exact Or.inr rfl)), pif_nil, (pe_tup (pa_cons (pv 1) (pa_cons (pv 0) pa_nil)))⟩)) pa_nil)))))
  (pss_one (ps_ret (pv 1))))), ?_⟩
  refine ⟨(by decide), fun T hT => ?_⟩
  have P0 := Pairs.start hT
  refine ⟨_, rfl, _, rfl, by omega, by omega, ?_⟩
  rw [Int.toNat_natCast]
  refine for_range (lo := 0) (n := n) (fun i σ H2 => ∃ (ps : List Addr) (v2 : Option V), σ = [some (.int (n : Int)), some (.ref T), v2] ∧ Pairs H H2 T ps (plTo n i)) ⟨[], none, rfl, P0⟩ ?_ ?_
  · rintro i σ H2 hi ⟨ps, v2, rfl, P2⟩
    rw [Int.zero_add]
    refine ⟨_, rfl, .inl ⟨rfl, _, SqL.of P2.top⟩, _, rfl, _, _, rfl, rfl, _, rfl, _, _, rfl, ⟨by omega, by omega, by omega, by omega⟩, ?_⟩
    refine lc_range (lo := (i : Int) + 1) (n := ((n : Int) - ((i : Int) + 1)).toNat) (fun D j acc H3 => ∃ qs : List Addr, acc = qs.map V.ref ∧ Pairs H2 H3 D qs ((rowP n i).take j)) (fun D hD => ⟨[], rfl, by simpa using Pairs.start hD⟩) ?_ ?_
    · rintro D j acc H3 hj ⟨qs, rfl, P3⟩
      have lq := P3.len
      rw [List.length_take, rowP_len] at lq
      refine ⟨CapKeep.set rfl, tt_intro ⟨_, rfl, _, rfl, small (by simp), fun t ht => ⟨?_, ?_, ?_⟩⟩⟩
      · rw [upd_ne (ne_of_none P3.top ht)]; exact P3.top
      · rw [List.length_map]; exact smallL (by omega)
      · refine ⟨qs ++ [t], by simp, ?_⟩
        rw [take_snoc (rowP_get (by omega : j < n - 1 - i))]
        have e : ((i : Int) + 1 + (j : Int)) = ((i + 1 + j : Nat) : Int) := by omega
        rw [e]
        exact P3.add ht i (i + 1 + j)
    · rintro D acc H3 ⟨qs, rfl, P3⟩
      rw [show ((n : Int) - ((i : Int) + 1)).toNat = (rowP n i).length by rw [rowP_len]; omega, List.take_length] at P3
      have P2' := P2.keep P3.same
      have l2 := P2'.len
      have l3 := P3.len
      have pl2 := plTo_len n i
      rw [rowP_len] at l3
      have mi : n * i ≤ 144 := Nat.mul_le_mul h12 (show i ≤ 12 by omega)
      refine ⟨T, D, _, _, rfl, rfl, P2'.top, P3.top, ?_, ?_⟩
      · rw [List.length_map, List.length_map]; exact small (by omega)
      · have no : ∀ {b : Addr} {e : Nat × Nat}, H3 b = some (.tup [.int (e.1 : Int), .int (e.2 : Int)]) → (upd H3 T (.lst (ps.map V.ref ++ qs.map V.ref))) b = some (.tup [.int (e.1 : Int), .int (e.2 : Int)]) := fun {b e} h => by
          rw [upd_ne (fun z => by have := P2'.top; rw [← z, h] at this; cases this)]; exact h
        refine ⟨ps ++ qs, _, rfl, ⟨fun b0 o0 e0 => ?_, P2.new, by rw [upd_same, List.map_append], ?_⟩⟩
        · rw [upd_ne (fun z => by have := P2.new; rw [← z, e0] at this; cases this)]; exact P2'.same _ _ e0
        · rw [plTo_succ]
          exact paired_appN (paired_imp P2'.el fun _ _ _ e => no e) (paired_imp P3.el fun _ _ _ e => no e)
  · rintro σ H2 ⟨ps, v2, rfl, P2⟩
    exact ⟨_, rfl, q T ps H2 P2⟩
end
end KH

namespace KH
open PySem L2
/-- [sorted(row) for row in hall] -/
theorem sort_comp {K : PySem.W.Frag} {H : Hp} {p : Addr} {as : List Addr} {rows : List (List Int)} {σ0 : St} {Q : VK} (hS : SqL K H p (as.map V.ref)) (hR : RowsAt K H as rows) (hz : rows.length ≤ 500) (few : ∀ i, i < rows.length → (rowAt rows i).length < 64) (h0 : σ0[0]? = some none)
    (q : ∀ (p' : Addr) (as' : List Addr) (rows' : List (List Int)) (H' : Hp), NewHall H H' p' as' rows' → rows'.length = rows.length → (∀ j, j < rows.length → (rowAt rows' j).Perm (rowAt rows j) ∧ (rowAt rows' j).Pairwise (· ≤ ·)) → Q (.ref p') H') :
    LCw σ0 (gName 0) tTrue (tCB (rSorted K) (tCons (tVar 0) tNil)) Q (Itl K p) H := by
  have hlen := hR.length
  refine lc_list (K := K) (a := p) (xs := as.map V.ref) (fun E i acc H4 => ∃ (bs : List Addr) (rows' : List (List Int)), acc = bs.map V.ref ∧ NewHall H H4 E bs rows' ∧ rows'.length = i ∧ ∀ j, j < i → (rowAt rows' j).Perm (rowAt rows j) ∧ (rowAt rows' j).Pairwise (· ≤ ·)) (fun E hE => ⟨[], [], rfl, NewHall.start hE, rfl, fun j hj => by omega⟩)
    (fun E i acc H4 _ ⟨_, _, _, N4, _⟩ => N4.same.seq hS) ?_ ?_
  · rintro E i x acc H4 hx ⟨bs, rows', rfl, N4, l4, s4⟩
    obtain ⟨au, rfl, ha⟩ := map_ref_get hx
    obtain ⟨row, er, sr⟩ := RowsAt.getA hR ha
    have hi : i < rows.length := (List.getElem?_eq_some_iff.mp er).1
    have erow := getElem_rowAt er
    have fw := few i hi
    rw [erow] at fw
    have hb4 := N4.at_.len
    have g0 : (σ0.set 0 (some (V.ref au)))[0]? = some (some (.ref au)) := List.getElem?_set_self (List.getElem?_eq_some_iff.mp h0).1
    refine ⟨CapKeep.set h0, tt_intro ⟨_, g0, au, row, rfl, N4.same.seq sr, fw, fun L ns' hL hp' hs' => ⟨?_, ?_, ?_⟩⟩⟩
    · rw [upd_ne (ne_of_none N4.at_.top hL)]; exact N4.at_.top
    · rw [List.length_map]; exact smallL (by omega)
    · refine ⟨bs ++ [L], rows' ++ [ns'], by simp, N4.snoc' (same_new hL _) upd_same hL, by simp [l4], fun j hj => ?_⟩
      by_cases hji : j < i
      · have e : rowAt (rows' ++ [ns']) j = rowAt rows' j := by
          unfold rowAt
          rw [List.getD_eq_getElem?_getD, List.getElem?_append_left (by omega), ← List.getD_eq_getElem?_getD]
        rw [e]
        exact s4 j hji
      · have ej : j = i := by omega
        subst ej
        have e : rowAt (rows' ++ [ns']) j = ns' := by
          unfold rowAt
          rw [List.getD_eq_getElem?_getD, List.getElem?_append_right (by omega), l4]
          simp
        rw [e, erow]
        exact ⟨hp', hs'⟩
  · rintro E acc H4 ⟨bs, rows', rfl, N4, l4, s4⟩
    rw [List.length_map, hlen] at l4 s4
    exact q E bs rows' H4 N4 l4 s4
end KH

namespace KH
open PySem L2
/-! ### read -/
def HalfOk (n : Nat) (sg : List Nat) : Prop := sg.length = (plTo n n).length ∧ IsSigns sg
def spHallOf (K : PySem.W.Frag) (CN : Addr) : Sp := fun vs H Q E => ∃ (n : Nat) (sg : List Nat), vs = [.int (n : Int), .str (txt sg)] ∧ n ≤ 12 ∧ sg.length ≤ 1000 ∧
  (HalfOk n sg → ∀ (p : Addr) (as : List Addr) (r : List (List Int)) (H' : Hp), NewHall H H' p as r → Srt n sg r → Q (.ref p) H') ∧ (¬ HalfOk n sg → ∀ H', Same H H' → E (.ref CN) none H')
def spReadE (K : PySem.W.Frag) (CN : Addr) : Sp := fun vs H Q E => ∃ l : List Nat, vs = [.str (txt l)] ∧ l.length ≤ 1000 ∧
  (∀ n sg, Wr l n sg → ∀ (p : Addr) (as : List Addr) (r : List (List Int)) (H' : Hp), NewHall H H' p as r → Srt n sg r → Q (.ref p) H') ∧ ((∀ n sg, ¬ Wr l n sg) → ∀ H', Same H H' → E (.ref CN) none H')
theorem fil_lens {n : Nat} {sg : List Nat} {k : Nat} {rs : List (List Int)} (h : Fil n sg k rs) (h12 : n ≤ 12) (i : Nat) : (rowAt rs i).length ≤ 12 := Nat.le_trans (h.few i) h12
section
variable {P : Program} {w : World} {K : PySem.W.Frag} {mg : Str → Option Value} {base : Heap} {f : Addr} {fd : FuncData} {CN : Addr}
theorem sc_hallof : FnScope ["many", "signs", "pairs", "hall", "pair", "sign"] ["many", "signs"] (defScope s_hall_of) := ⟨rfl, rfl, rfl, by decide +kernel, rfl, by decide +kernel, by decide +kernel⟩
set_option maxHeartbeats 0 in
theorem ok_hallof (F : Fun K "hall_of" "hall_of" s_hall_of f fd) (z : Blt mg) (O_NoNote : OwnE mg base "NoNote" CN) (C_pairs_of : Has P w K mg base 1 "pairs_of" ["many"] spPairs) : FnOk P w K mg base (CXE P w) 2 f fd ["many", "signs"] (spHallOf K CN) := by
  refine F.okE sc_hallof (fun vs H Q E h => ?_) (fun cdv A outer s H vs Q E hr h => ?_)
  · obtain ⟨n, sg, rfl, _⟩ := h
    rfl
  obtain ⟨n, sg, rfl, h12, hz, q, e⟩ := h
  have nd := sc_hallof.nd
  have hz' : (txt sg).length ≤ sizeLine := by rw [txt_len]; exact small hz
  obtain ⟨f66, _⟩ := pl_few n h12
  refine ⟨_, (pss_cons (ps_set (i := 2) nd rfl (by first | exact Or.inl rfl | exact Or.inr rfl) (pe_callH C_pairs_of (hr.mono (by decide)) rfl (pa_cons (pv 0) pa_nil)))
  (pss_cons (ps_if (PW.pt (pw_or (pt_cmpR op_ne (pe_callB call_len_str rfl z.len (by decide +kernel) (pa_cons (pv 1) pa_nil)) (pe_callB call_len_seq rfl z.len (by decide +kernel) (pa_cons (pv 2) pa_nil)) (nomark _)) (pw_or1 (pt_cmpR op_ne (pe_op op_add (pe_bm PySem.F.plainAttrs_str PySem.F.slot_str_count PySem.F.type_str_count mt_countS (pv 1) (pa_cons pe_str pa_nil)) (pe_bm PySem.F.plainAttrs_str PySem.F.slot_str_count PySem.F.type_str_count mt_countS (pv 1) (pa_cons pe_str pa_nil))) (pe_callB call_len_str rfl z.len (by decide +kernel) (pa_cons (pv 1) pa_nil)) (nomark _))))) (pss_one (ps_raise O_NoNote rfl (pa_cons pe_str pa_nil))) pss_nil)
  (pss_cons (ps_setLC (i := 3) nd rfl (by first | exact Or.inl rfl | exact Or.inr rfl) rfl (cscope (N' := ["player"]) (caps := [none])) (pi_range1 rfl z.range (pa_cons (pv 0) pa_nil)) (fun s H fp => ⟨(pg_name (i := 0) (show (["player"] : List Str).Nodup by decide +kernel) rfl (by first | exact Or.inl rfl | exact Or.inr rfl)), pif_nil, (pe_lst pa_nil)⟩))
  (pss_cons (ps_for PassesOwn.leaving rfl (pi_zs rfl z.zip (pa_cons (pv 2) (pa_cons (pv 1) pa_nil))) (pg_tup rfl (pgs_cons (pg_name (i := 4) nd rfl (by first | exact Or.inl rfl | exact Or.inr rfl)) (pgs_cons (pg_name (i := 5) nd rfl (by first | exact Or.inl rfl | exact Or.inr rfl)) pgs_nil))) (pss_one (ps_if (pt_cmpR op_eq (pv 5) pe_str (nomark _)) (pss_one (ps_expr (pe_bm PySem.F.plainAttrs_list PySem.F.slot_list_append PySem.F.type_list_append mt_append (pe_ix ix_list (pv 3) (pe_ix ix_tup (pv 4) pe_int (fun _ _ => rfl)) (fun _ _ => rfl)) (pa_cons (pe_ix ix_tup (pv 4) pe_int (fun _ _ => rfl)) pa_nil)))) (pss_one (ps_expr (pe_bm PySem.F.plainAttrs_list PySem.F.slot_list_append PySem.F.type_list_append mt_append (pe_ix ix_list (pv 3) (pe_ix ix_tup (pv 4) pe_int (fun _ _ => rfl)) (fun _ _ => rfl)) (pa_cons (pe_ix ix_tup (pv 4) pe_int (fun _ _ => rfl)) pa_nil)))))))
  (pss_one (ps_ret (pe_lc rfl (cscope (N' := ["beaten"]) (caps := [none])) (pi_list (pv 3)) (fun s H fp => ⟨(pg_name (i := 0) (show (["beaten"] : List Str).Nodup by decide +kernel) rfl (by first | exact Or.inl rfl | exact Or.inr rfl)), pif_nil, (pe_callB (call_sortedK (K := K) rfl) rfl z.sorted (by decide +kernel) (pa_cons (pv 0) pa_nil))⟩)))))))), ?_⟩
  refine ⟨_, rfl, n, rfl, h12, fun T ps H1 P1 => ?_⟩
  have pl := P1.len
  refine ⟨_, rfl, _, rfl, hz', _, rfl, _, _, rfl, .inl (SqL.of P1.top), rfl, _, rfl, ?_⟩
  by_cases c1 : sg.length = (plTo n n).length
  rotate_left
  · rw [decide_eq_false (fun z => c1 (by injection z with z; rw [txt_len, List.length_map] at z; omega))]
    exact iteT (iteT ⟨by decide, e (fun z => c1 z.1) H1 P1.same⟩)
  rw [decide_eq_true (show V.int ((txt sg).length : Int) = V.int ((ps.map V.ref).length : Int) by rw [txt_len, List.length_map, pl, c1])]
  refine iteF ?_
  refine ⟨_, rfl, rfl, sg, 62, rfl, by rw [gt_txt], _, rfl, rfl, sg, 60, rfl, by rw [lt_txt], _, _, rfl, rfl, _, rfl, _, rfl, hz', rfl, _, rfl, ?_⟩
  obtain ⟨_, cnt⟩ := sg_count sg
  by_cases c2 : IsSigns sg
  rotate_left
  · rw [decide_eq_false (fun z => c2 (cnt.mp (by
      injection z with z
      rw [txt_len] at z
      have z' : ((cntN 62 sg : Nat) : Int) + ((cntN 60 sg : Nat) : Int) = (sg.length : Int) := z
      unfold cntN at z'
      omega)))]
    exact iteT ⟨by decide, e (fun z => c2 z.2) H1 P1.same⟩
  rw [decide_eq_true (show (fun (i j : Int) => V.int (i + j)) ((cntN 62 sg : Nat) : Int) ((cntN 60 sg : Nat) : Int) = V.int ((txt sg).length : Int) by
    have := cnt.mpr c2
    show V.int (((cntN 62 sg : Nat) : Int) + ((cntN 60 sg : Nat) : Int)) = _
    rw [txt_len]
    unfold cntN
    congr 1
    omega)]
  refine iteF ?_
  have ok : HalfOk n sg := ⟨c1, c2⟩
  -- hall
  refine ⟨_, rfl, _, rfl, by omega, by omega, ?_⟩
  rw [Int.toNat_natCast]
  refine lc_range (lo := 0) (n := n) (fun D i acc H2 => ∃ as, acc = as.map V.ref ∧ i ≤ n ∧ NewHall H1 H2 D as (List.replicate i [])) (fun D hD => ⟨[], rfl, Nat.zero_le _, NewHall.start hD⟩) ?_ ?_
  · rintro D i acc H2 hi ⟨as, rfl, _, N⟩
    have hl := N.at_.len
    rw [List.length_replicate] at hl
    refine ⟨CapKeep.set rfl, tt_intro ⟨(by decide), fun b hb => ⟨?_, ?_, ?_⟩⟩⟩
    · rw [upd_ne (ne_of_none N.at_.top hb)]; exact N.at_.top
    · rw [List.length_map]; exact smallL (by omega)
    · refine ⟨as ++ [b], by simp, hi, ?_⟩
      rw [List.replicate_succ']
      exact N.snoc' (r := []) (same_new hb _) upd_same hb
  rintro D acc H2 ⟨as, rfl, _, N2⟩
  -- pair by pair
  refine ⟨_, rfl, _, rfl, T, sg, rfl, ⟨_, SqL.of (N2.same _ _ P1.top)⟩, fun c hc => by rcases c2 c hc with z | z <;> omega, ?_⟩
  refine for_zs (K := K) (a := T) (xs := ps.map V.ref) (l := sg) (by rw [List.length_map]; omega) (fun i σ H3 => ∃ (v4 v5 : Option V) (rs : List (List Int)), σ = [some (.int (n : Int)), some (.str (txt sg)), some (.ref T), some (.ref D), v4, v5] ∧ NewHall H1 H3 D as rs ∧ Fil n sg i rs)
    ⟨none, none, _, rfl, N2, Fil.start n sg⟩ (fun i σ H3 _ ⟨_, _, _, _, N3, _⟩ => SqL.of (N3.same _ _ P1.top)) ?_ ?_
  · rintro i x c u σ H3 hx hc ⟨v4, v5, rs, rfl, N3, F3⟩ hu
    obtain ⟨t, rfl, ht⟩ := map_ref_get hx
    obtain ⟨q2, eq, et⟩ := paired_getA P1.el ht
    obtain ⟨a, b⟩ := q2
    have m := (plTo_mem (Nat.le_refl _)).mp (List.mem_of_getElem? eq)
    have s4 := same_new hu (.tup [.ref t, .str (txt [c])])
    have N4 := N3.grow s4
    refine ⟨u, _, rfl, SqT.of upd_same, rfl, _, _, rfl, _, _, rfl, rfl, ?_⟩
    generalize upd H3 u (.tup [.ref t, .str (txt [c])]) = H4 at N4
    have ec : sg.getD i 0 = c := by rw [List.getD_eq_getElem?_getD, hc]; rfl
    have hT4 : SqT K H4 t [.int (a : Int), .int (b : Int)] := SqT.of (N4.same _ _ et)
    have z0 : atI [V.int (a : Int), V.int (b : Int)] 0 = some (.int (a : Int)) := rfl
    have z1 : atI [V.int (a : Int), V.int (b : Int)] 1 = some (.int (b : Int)) := rfl
    have lr := F3.len
    have add : ∀ g h : Nat, g < n → (((plTo n n)[i]? = some (g, h) ∧ sg.getD i 0 = 62) ∨ ((plTo n n)[i]? = some (h, g) ∧ sg.getD i 0 ≠ 62)) → ∃ ag, atI (as.map V.ref) (g : Int) = some (.ref ag) ∧ H4 ag = some (.lst ((rowAt rs g).map V.int)) ∧
        NewHall H1 (upd H4 ag (.lst ((rowAt rs g).map V.int ++ [.int (h : Int)]))) D as (rs.set g (rowAt rs g ++ [(h : Int)])) ∧ Fil n sg (i + 1) (rs.set g (rowAt rs g ++ [(h : Int)])) := fun g h hg hp => by
      obtain ⟨ag, f1, f2⟩ := paired_get N4.at_.row (i := g) (b := rowAt rs g) (by unfold rowAt; rw [List.getElem?_eq_getElem (by omega), getD_of_lt (by omega)])
      have N5 := N4.put (r' := rowAt rs g ++ [(h : Int)]) f1
      rw [List.map_append] at N5
      exact ⟨ag, at_ref (by omega) (by rw [Int.toNat_natCast]; exact f1), f2, N5, F3.next h12 hp⟩
    refine ⟨_, rfl, rfl, _, rfl, ?_⟩
    rw [gt_txt, dec_txt]
    by_cases d : c = 62
    · rw [decide_eq_true (by rw [d])]
      obtain ⟨ag, e1, f2, N5, F5⟩ := add a b (by have := m.2; simp at this; omega) (.inl ⟨eq, by rw [ec, d]⟩)
      refine iteT ⟨_, rfl, _, rfl, _, _, _, _, rfl, rfl, hT4, z0, _, _, _, _, rfl, rfl, N4.at_.sq, e1, .inl ⟨rfl, _, SqL.of f2⟩, _, rfl, _, _, _, _, rfl, rfl, hT4, z1, _, _, _, rfl, rfl, f2, ?_, ?_⟩
      · have := fil_lens F3 h12 a; rw [List.length_map]; exact smallL (by omega)
      · exact ⟨_, _, _, rfl, N5, F5⟩
    · rw [decide_eq_false (fun z => d (by simpa using z))]
      obtain ⟨ag, e1, f2, N5, F5⟩ := add b a (by have := m.2; simp at this; omega) (.inr ⟨eq, by rw [ec]; exact d⟩)
      refine iteF ⟨_, rfl, _, rfl, _, _, _, _, rfl, rfl, hT4, z1, _, _, _, _, rfl, rfl, N4.at_.sq, e1, .inl ⟨rfl, _, SqL.of f2⟩, _, rfl, _, _, _, _, rfl, rfl, hT4, z0, _, _, _, rfl, rfl, f2, ?_, ?_⟩
      · have := fil_lens F3 h12 b; rw [List.length_map]; exact smallL (by omega)
      · exact ⟨_, _, _, rfl, N5, F5⟩
  · rintro σ H3 ⟨v4, v5, rs, rfl, N3, F3⟩
    rw [List.length_map, pl] at F3
    have lr := F3.len
    refine ⟨_, rfl, _, rfl, ⟨_, N3.at_.sq⟩, sort_comp N3.at_.sq N3.at_.rows (by omega) (fun i hi => by have := fil_lens F3 h12 i; omega) rfl fun p' as' rows' H5 N5 l5 ss => ?_⟩
    rw [lr] at l5 ss
    exact q ok p' as' rows' H5 (N5.base (P1.same.trans N3.same)) ⟨rs, F3, l5, ss⟩
theorem sc_read : FnScope ["text", "many", "beginning"] ["text"] (defScope s_read) := ⟨rfl, rfl, rfl, by decide +kernel, rfl, by decide +kernel, by decide +kernel⟩
set_option maxHeartbeats 0 in
theorem ok_read (F : Fun K "read" "read" s_read f fd) (z : Blt mg) {tkM : Tok} (g_MOST_PLAYERS : mg "MOST_PLAYERS" = some (.int 12 tkM)) (O_NoNote : OwnE mg base "NoNote" CN) (C_beginning_for : Has P w K mg base 1 "beginning_for" ["many"] spBegin) (C_hall_of : HasE P w K mg base 2 "hall_of" ["many", "signs"] (spHallOf K CN)) :
    FnOk P w K mg base (CXE P w) 3 f fd ["text"] (spReadE K CN) := by
  refine F.okE sc_read (fun vs H Q E h => ?_) (fun cdv A outer s H vs Q E hr h => ?_)
  · obtain ⟨l, rfl, _⟩ := h
    rfl
  obtain ⟨l, rfl, hz, q, e⟩ := h
  have nd := sc_read.nd
  refine ⟨_, (pss_cons (ps_for PassesOwn.leaving rfl (pi_range2 rfl z.range (pa_cons pe_int (pa_cons (pe_op op_add (pe_glob (v := .int 12) rfl g_MOST_PLAYERS ⟨_, rfl⟩) pe_int) pa_nil))) (pg_name (i := 1) nd rfl (by first | exact Or.inl rfl | exact Or.inr rfl)) (pss_cons (ps_set (i := 2) nd rfl (by first | exact Or.inl rfl | exact Or.inr rfl) (pe_callH C_beginning_for (hr.mono (by decide)) rfl (pa_cons (pv 1) pa_nil)))
  (pss_one (ps_if (pt_val (pe_bm PySem.F.plainAttrs_str PySem.F.slot_str_startswith PySem.F.type_str_startswith mt_starts (pv 0) (pa_cons (pv 2) pa_nil))) (pss_one (ps_ret (pe_callE C_hall_of (hr.mono (by decide)) passE rfl (pa_cons (pv 1) (pa_cons (pe_slice sl_str (pv 0) (po_some (pe_callB call_len_str rfl z.len (by decide +kernel) (pa_cons (pv 2) pa_nil))) po_none) pa_nil))))) pss_nil))))
  (pss_one (ps_raise O_NoNote rfl (pa_cons pe_str pa_nil)))), ?_⟩
  refine ⟨_, _, rfl, rfl, _, _, rfl, ⟨by decide, by decide, by decide, by decide⟩, ?_⟩
  refine for_range (lo := 1) (n := 12) (fun i σ H2 => ∃ v1 v2 : Option V, σ = [some (.str (txt l)), v1, v2] ∧ H = H2 ∧ ∀ m, 1 ≤ m → m ≤ i → (headN m).isPrefixOf l = false) ⟨none, none, rfl, rfl, fun m m1 m0 => by omega⟩ ?_ ?_
  · rintro i σ H2 hi ⟨v1, v2, rfl, rfl, no⟩
    have ei : (1 : Int) + (i : Int) = ((i + 1 : Nat) : Int) := by omega
    rw [ei]
    refine ⟨_, rfl, i + 1, rfl, by omega, ?_⟩
    rw [head_txt]
    refine ⟨_, rfl, rfl, _, rfl, l, headN (i + 1), rfl, rfl, _, rfl, ?_⟩
    cases c : (headN (i + 1)).isPrefixOf l with
    | false =>
      refine iteF ⟨_, _, rfl, rfl, fun m m1 m2 => ?_⟩
      by_cases d : m = i + 1
      · rw [d]; exact c
      · exact no m m1 (by omega)
    | true =>
      have hl := head_few (i + 1) (by omega)
      obtain ⟨sg, esg⟩ := List.isPrefixOf_iff_prefix.mp c
      have ed : l.drop (headN (i + 1)).length = sg := by rw [← esg, List.drop_left]
      refine iteT ⟨_, rfl, _, rfl, _, rfl, _, rfl, by rw [txt_len]; exact Nat.le_of_lt (small (by omega)), _, rfl, l, rfl, small hz, ?_⟩
      rw [cutN_drop (k := (headN (i + 1)).length) (by rw [txt_len]), ed]
      have sl : sg.length ≤ l.length := by rw [← esg, List.length_append]; omega
      refine ⟨i + 1, sg, rfl, by omega, by omega, fun ok p as r H' N S => q (i + 1) sg ⟨by omega, by omega, esg.symm, ok.1, ok.2⟩ p as r H' N S, fun bad H' s' => e (fun n sg' W => ?_) H' s'⟩
      have en : n = i + 1 := head_uniq (l := l) W.hi (by omega) (by rw [List.isPrefixOf_iff_prefix, W.eq]; exact List.prefix_append _ _) c
      subst en
      have es : sg' = sg := by
        have := W.eq
        rw [← esg] at this
        exact (List.append_cancel_left this).symm
      subst es
      exact bad ⟨W.len, W.ok⟩
  · rintro σ H2 ⟨v1, v2, rfl, rfl, no⟩
    refine ⟨by decide, e (fun n sg W => ?_) H (Same.refl H)⟩
    have a := no n W.lo W.hi
    have b : (headN n).isPrefixOf l = true := by rw [List.isPrefixOf_iff_prefix, W.eq]; exact List.prefix_append _ _
    rw [a] at b
    cases b
end
end KH

namespace KH
open PySem L2
/-! ### the hall that a text writes, by the law -/
def spDue (K : PySem.W.Frag) : Sp := fun vs H Q _ => ∃ l : List Nat, vs = [.str (txt l)] ∧ l.length ≤ 1000 ∧ (∀ c ∈ l, c < 128) ∧
  (∀ n sg, Wr l n sg → ∀ (p : Addr) (as : List Addr) (r : List (List Int)) (H' : Hp), NewHall H H' p as r → Srt n sg r → Q (.ref p) H') ∧ ((∀ n sg, ¬ Wr l n sg) → ∀ H', Same H H' → Q .non H')
theorem head_len1 : ∀ n : Nat, n ≤ 12 → ((toString (n : Int) : String) : Str).length + 1 = (headN n).length ∧ ((toString (n : Int) : String) : Str).length ≤ 3 := by decide +kernel
theorem inV_signs (c : Nat) : inV (V.str (txt [c])) [V.str (("<" : String) : Str), V.str ((">" : String) : Str)] = decide (c = 60 ∨ c = 62) := by
  rw [lt_txt, gt_txt]
  unfold inV
  simp only [List.any_cons, List.any_nil, Bool.or_false]
  show ((txt [60] == txt [c]) || (txt [62] == txt [c])) = _
  rw [Bool.eq_iff_iff, Bool.or_eq_true, beq_iff_eq, beq_iff_eq, decide_eq_true_iff]
  constructor
  · rintro (z | z)
    · have := txt_inj z; simp at this; exact .inl this.symm
    · have := txt_inj z; simp at this; exact .inr this.symm
  · rintro (rfl | rfl)
    · exact .inl rfl
    · exact .inr rfl
theorem pl_prefix (n : Nat) : ∀ k i : Nat, plTo n i <+: plTo n (i + k)
  | 0, i => List.prefix_refl _
  | k + 1, i => by
    refine (pl_prefix n k i).trans ?_
    rw [show i + (k + 1) = (i + k) + 1 from rfl, plTo_succ]
    exact List.prefix_append _ _
theorem pl_at {n i j : Nat} (hi : i < n) (hj : j < n - 1 - i) : (plTo n n)[(plTo n i).length + j]? = some (i, i + 1 + j) := by
  have a := pl_prefix n (n - (i + 1)) (i + 1)
  rw [show i + 1 + (n - (i + 1)) = n by omega] at a
  obtain ⟨r, er⟩ := a
  rw [← er, plTo_succ, List.append_assoc, List.getElem?_append_right (by omega), Nat.add_sub_cancel_left, List.getElem?_append_left (by rw [rowP_len]; exact hj)]
  exact rowP_get hj
theorem pref_take {m l : List Nat} : decide (l.take m.length = m) = m.isPrefixOf l := by
  rw [Bool.eq_iff_iff, decide_eq_true_iff, List.isPrefixOf_iff_prefix, List.prefix_iff_eq_take]
  exact ⟨fun h => h.symm, fun h => h.symm⟩
section
variable {P : Program} {w : World} {K : PySem.W.Frag} {mg : Str → Option Value} {base : Heap} {f : Addr} {fd : FuncData}
theorem sc_due : FnScope ["text", "many", "number", "head", "signs", "hall", "at", "one", "other"] ["text"] (defScope s_law_due) := ⟨rfl, rfl, rfl, by decide +kernel, rfl, by decide +kernel, by decide +kernel⟩
set_option maxHeartbeats 0 in
theorem ok_due (F : Fun K "_law_due" "_law_due" s_law_due f fd) (z : Blt mg) : FnOk P w K mg base CX0 1 f fd ["text"] (spDue K) := by
  refine F.ok sc_due (fun vs H Q E h => ?_) (fun cdv A outer s H vs Q E hr h => ?_)
  · obtain ⟨l, rfl, _⟩ := h
    rfl
  obtain ⟨l, rfl, hz, hasc, q, e⟩ := h
  have nd := sc_due.nd
  refine ⟨_, (pss_cons (ps_set (i := 1) nd rfl (by first | exact Or.inl rfl | exact Or.inr rfl) (pe_un un_neg pe_int))
  (pss_cons (ps_for PassesOwn.never rfl (pi_range2 rfl z.range (pa_cons pe_int (pa_cons pe_int pa_nil))) (pg_name (i := 2) nd rfl (by first | exact Or.inl rfl | exact Or.inr rfl)) (pss_cons (ps_set (i := 3) nd rfl (by first | exact Or.inl rfl | exact Or.inr rfl) (pe_op op_add_str (pe_callTy call_str_int rfl z.str (by decide +kernel) (pa_cons (pv 2) pa_nil)) pe_str))
  (pss_one (ps_if (pt_cmpR op_eq (pe_slice sl_str (pv 0) po_none (po_some (pe_callB call_len_str rfl z.len (by decide +kernel) (pa_cons (pv 3) pa_nil)))) (pv 3) (nomark _)) (pss_one (ps_set (i := 1) nd rfl (by first | exact Or.inl rfl | exact Or.inr rfl) (pv 2))) pss_nil))))
  (pss_cons (ps_if (pt_cmpR op_lt (pv 1) pe_int (nomark _)) (pss_one (ps_ret pe_non)) pss_nil)
  (pss_cons (ps_set (i := 4) nd rfl (by first | exact Or.inl rfl | exact Or.inr rfl) (pe_slice sl_str (pv 0) (po_some (pe_op op_add (pe_callB call_len_str rfl z.len (by decide +kernel) (pa_cons (pe_callTy call_str_int rfl z.str (by decide +kernel) (pa_cons (pv 1) pa_nil)) pa_nil)) pe_int)) po_none))
  (pss_cons (ps_if (PW.pt (pw_or (pt_cmpR op_ne (pe_callB call_len_str rfl z.len (by decide +kernel) (pa_cons (pv 4) pa_nil)) (pe_op op_fdiv (pe_op op_mul (pv 1) (pe_op op_sub (pv 1) pe_int)) pe_int) (nomark _)) (pw_or1 (pt_cmpR op_gt (pe_callB call_len_seq rfl z.len (by decide +kernel) (pa_cons (pe_lc rfl (cscope (N' := ["sign"]) (caps := [none])) (pi_txt (pv 4)) (fun s H fp => ⟨(pg_name (i := 0) (show (["sign"] : List Str).Nodup by decide +kernel) rfl (by first | exact Or.inl rfl | exact Or.inr rfl)), (pif_one (pt_cmpR (op_notIn_seqK (K := K) rfl) (pv 0) (pe_lst (pa_cons pe_str (pa_cons pe_str pa_nil))) (by with_unfolding_all rfl))), (pv 0)⟩)) pa_nil)) pe_int (nomark _))))) (pss_one (ps_ret pe_non)) pss_nil)
  (pss_cons (ps_setLC (i := 5) nd rfl (by first | exact Or.inl rfl | exact Or.inr rfl) rfl (cscope (N' := ["player"]) (caps := [none])) (pi_range1 rfl z.range (pa_cons (pv 1) pa_nil)) (fun s H fp => ⟨(pg_name (i := 0) (show (["player"] : List Str).Nodup by decide +kernel) rfl (by first | exact Or.inl rfl | exact Or.inr rfl)), pif_nil, (pe_lst pa_nil)⟩))
  (pss_cons (ps_set (i := 6) nd rfl (by first | exact Or.inl rfl | exact Or.inr rfl) pe_int)
  (pss_cons (ps_for PassesOwn.never rfl (pi_range1 rfl z.range (pa_cons (pv 1) pa_nil)) (pg_name (i := 7) nd rfl (by first | exact Or.inl rfl | exact Or.inr rfl)) (pss_one (ps_for PassesOwn.never rfl (pi_range2 rfl z.range (pa_cons (pe_op op_add (pv 7) pe_int) (pa_cons (pv 1) pa_nil))) (pg_name (i := 8) nd rfl (by first | exact Or.inl rfl | exact Or.inr rfl)) (pss_cons (ps_if (pt_cmpR op_eq (pe_ix ix_str (pv 4) (pv 6) (fun _ _ => rfl)) pe_str (nomark _)) (pss_one (ps_expr (pe_bm PySem.F.plainAttrs_list PySem.F.slot_list_append PySem.F.type_list_append mt_append (pe_ix ix_list (pv 5) (pv 7) (fun _ _ => rfl)) (pa_cons (pv 8) pa_nil)))) (pss_one (ps_expr (pe_bm PySem.F.plainAttrs_list PySem.F.slot_list_append PySem.F.type_list_append mt_append (pe_ix ix_list (pv 5) (pv 8) (fun _ _ => rfl)) (pa_cons (pv 7) pa_nil)))))
  (pss_one (ps_set (i := 6) nd rfl (by first | exact Or.inl rfl | exact Or.inr rfl) (pe_op op_add (pv 6) pe_int)))))))
  (pss_one (ps_ret (pe_lc rfl (cscope (N' := ["row"]) (caps := [none])) (pi_list (pv 5)) (fun s H fp => ⟨(pg_name (i := 0) (show (["row"] : List Str).Nodup by decide +kernel) rfl (by first | exact Or.inl rfl | exact Or.inr rfl)), pif_nil, (pe_callB (call_sortedK (K := K) rfl) rfl z.sorted (by decide +kernel) (pa_cons (pv 0) pa_nil))⟩)))))))))))), ?_⟩
  refine ⟨_, rfl, ?_⟩
  refine ⟨_, _, rfl, ⟨by decide, by decide, by decide, by decide⟩, ?_⟩
  refine for_range (lo := 1) (n := 12) (fun i σ H2 => ∃ (M : Int) (v2 v3 : Option V), H = H2 ∧ σ = [some (.str (txt l)), some (.int M), v2, v3, none, none, none, none, none] ∧ ((M = -1 ∧ ∀ m, 1 ≤ m → m ≤ i → (headN m).isPrefixOf l = false) ∨ ∃ n : Nat, 1 ≤ n ∧ n ≤ i ∧ M = (n : Int) ∧ (headN n).isPrefixOf l = true))
    ⟨-1, none, none, rfl, rfl, .inl ⟨rfl, fun m m1 m0 => by omega⟩⟩ ?_ ?_
  · rintro i σ H2 hi ⟨M, v2, v3, rfl, rfl, C⟩
    have ei : (1 : Int) + (i : Int) = ((i + 1 : Nat) : Int) := by omega
    rw [ei]
    obtain ⟨k1, k2⟩ := head_fits (i + 1) (by omega)
    have hl := head_few (i + 1) (by omega)
    refine ⟨_, rfl, _, rfl, k1, _, _, rfl, rfl, by rw [← app_len]; exact small (by omega), ?_⟩
    rw [show (((toString ((i + 1 : Nat) : Int) : String) : Str) ++ ((":" : String) : Str)) = txt (headN (i + 1)) from head_txt (i + 1)]
    refine ⟨_, rfl, _, rfl, _, rfl, by rw [txt_len]; exact small (by omega), _, rfl, l, rfl, small hz, _, rfl, rfl, _, rfl, ?_⟩
    rw [cutN_take (k := (headN (i + 1)).length) (by rw [txt_len]), dec_txt, pref_take]
    cases c : (headN (i + 1)).isPrefixOf l with
    | true => exact iteT ⟨_, rfl, _, _, _, rfl, rfl, .inr ⟨i + 1, by omega, by omega, rfl, c⟩⟩
    | false =>
      refine iteF ⟨M, _, _, rfl, rfl, ?_⟩
      rcases C with ⟨c1, c2⟩ | ⟨n, n1, n2, n3, n4⟩
      · refine .inl ⟨c1, fun m m1 m2 => ?_⟩
        by_cases d : m = i + 1
        · rw [d]; exact c
        · exact c2 m m1 (by omega)
      · exact .inr ⟨n, n1, by omega, n3, n4⟩
  rintro σ H2 ⟨M, v2, v3, rfl, rfl, C⟩
  refine ⟨_, rfl, _, _, rfl, rfl, _, rfl, ?_⟩
  rcases C with ⟨rfl, no⟩ | ⟨n, n1, n12, rfl, c⟩
  · refine iteT (e (fun n sg W => ?_) H (Same.refl H))
    have a := no n W.lo W.hi
    have b : (headN n).isPrefixOf l = true := by rw [List.isPrefixOf_iff_prefix, W.eq]; exact List.prefix_append _ _
    rw [a] at b
    cases b
  rw [decide_eq_false (show ¬ ((n : Int) < 0) by omega)]
  refine iteF ?_
  obtain ⟨sg, esg⟩ := List.isPrefixOf_iff_prefix.mp c
  have ed : l.drop (headN n).length = sg := by rw [← esg, List.drop_left]
  have sl : sg.length ≤ 1000 := by
    have : l.length = (headN n).length + sg.length := by rw [← esg, List.length_append]
    omega
  have sasc : ∀ c ∈ sg, c < 128 := fun c hc => hasc c (by rw [← esg]; exact List.mem_append_right _ hc)
  have one : ∀ n' sg', Wr l n' sg' → n' = n ∧ sg' = sg := fun n' sg' W => by
    have en : n' = n := head_uniq (l := l) W.hi n12 (by rw [List.isPrefixOf_iff_prefix, W.eq]; exact List.prefix_append _ _) c
    subst en
    exact ⟨rfl, List.append_cancel_left (W.eq.symm.trans esg.symm)⟩
  obtain ⟨k1, k2⟩ := head_fits n n12
  obtain ⟨k3, k4⟩ := head_len1 n n12
  obtain ⟨f66, f2⟩ := pl_few n n12
  -- signs
  refine ⟨_, rfl, _, rfl, _, rfl, k1, _, rfl, small (by omega), _, _, rfl, rfl, _, rfl, l, rfl, small hz, ?_⟩
  rw [cutN_drop (k := (headN n).length) (by omega), ed]
  have hz' : (txt sg).length ≤ sizeLine := by rw [txt_len]; exact small sl
  refine ⟨_, rfl, _, rfl, hz', _, rfl, _, rfl, _, _, rfl, rfl, _, _, rfl, rfl, .inl ⟨by omega, by omega⟩, _, _, rfl, rfl, ⟨by decide, by decide⟩, rfl, _, rfl, ?_⟩
  have ev : (fun (i j : Int) => V.int (i / j)) ((n : Int) * ((n : Int) - 1)) 2 = V.int ((plTo n n).length : Int) := by
    refine congrArg V.int ?_
    have h1 : ((n : Int) * ((n : Int) - 1)) = 2 * ((plTo n n).length : Int) := by
      have : ((n : Int) - 1) = ((n - 1 : Nat) : Int) := by omega
      rw [this, ← Int.natCast_mul, ← f2]
      omega
    rw [h1]
    omega
  rw [ev, txt_len]
  by_cases c1 : sg.length = (plTo n n).length
  rotate_left
  · rw [decide_eq_false (fun z => c1 (by injection z with z; omega))]
    exact iteT (iteT (e (fun n' sg' W => by obtain ⟨e1, e2⟩ := one n' sg' W; subst e1 e2; exact c1 W.len) H (Same.refl H)))
  rw [decide_eq_true (show V.int (sg.length : Int) = V.int ((plTo n n).length : Int) by rw [c1])]
  refine iteF ?_
  -- the odd signs
  refine ⟨_, rfl, sg, rfl, sasc, ?_⟩
  refine lc_txt (l := sg) (fun D i acc H2 => acc = ((sg.take i).filter fun c => !decide (c = 60 ∨ c = 62)).map (fun c => V.str (txt [c])) ∧ H D = none ∧ Same H H2 ∧ H2 D = some (.lst acc)) (fun D hD => ⟨rfl, hD, same_new hD _, upd_same⟩) ?_ ?_
  · rintro D i c acc H2 hc ⟨rfl, hD, s2, h2⟩
    have hi : i < sg.length := (List.getElem?_eq_some_iff.mp hc).1
    refine ⟨CapKeep.set rfl, _, rfl, small (by simp), fun L hL => ?_⟩
    have s3 := same_new hL (.lst [V.str (("<" : String) : Str), V.str ((">" : String) : Str)])
    have h3 := s3 _ _ h2
    refine ⟨_, _, rfl, .inl (SqL.of upd_same), rfl, rfl, _, rfl, ?_⟩
    generalize upd H2 L (.lst [V.str (("<" : String) : Str), V.str ((">" : String) : Str)]) = H3 at s3 h3
    simp only [if_true, inV_signs]
    by_cases d : c = 60 ∨ c = 62
    · rw [decide_eq_true d]
      refine iteF ⟨?_, hD, s2.trans s3, h3⟩
      rw [take_snoc hc, List.filter_append, List.filter_cons_of_neg (by rw [decide_eq_true d]; decide), List.filter_nil, List.append_nil]
    · rw [decide_eq_false d]
      refine iteT ⟨_, rfl, h3, ?_, ?_, hD, fun b0 o0 e0 => ?_, upd_same⟩
      · have q1 := List.length_filter_le (fun c => !decide (c = 60 ∨ c = 62)) (sg.take i)
        rw [List.length_take] at q1
        rw [List.length_map]
        exact smallL (by omega)
      · rw [take_snoc hc, List.filter_append, List.map_append, List.filter_cons_of_pos (by rw [decide_eq_false d]; decide)]
        rfl
      · rw [upd_ne (fun z => by rw [z, hD] at e0; cases e0)]; exact (s2.trans s3) b0 o0 e0
  rintro D acc H2 ⟨rfl, hD, s2, h2⟩
  rw [List.take_length] at h2
  refine ⟨_, _, rfl, .inl (SqL.of h2), _, _, rfl, rfl, _, rfl, ?_⟩
  rw [List.length_map]
  by_cases c2 : IsSigns sg
  rotate_left
  · have ne : 0 < (sg.filter fun c => !decide (c = 60 ∨ c = 62)).length := by
      refine Nat.pos_of_ne_zero fun z => c2 fun c hc => ?_
      have e0 : (sg.filter fun c => !decide (c = 60 ∨ c = 62)) = [] := List.length_eq_zero_iff.mp z
      have := List.filter_eq_nil_iff.mp e0 c hc
      simp at this
      omega
    rw [decide_eq_true (by omega)]
    exact iteT (e (fun n' sg' W => by obtain ⟨e1, e2⟩ := one n' sg' W; subst e1 e2; exact c2 W.ok) H2 s2)
  have e0 : (sg.filter fun c => !decide (c = 60 ∨ c = 62)) = [] := List.filter_eq_nil_iff.mpr fun c hc => by have := c2 c hc; simp; omega
  rw [e0]
  refine iteF ?_
  have W : Wr l n sg := ⟨n1, n12, esg.symm, c1, c2⟩
  -- hall
  refine ⟨_, rfl, _, rfl, by omega, by omega, ?_⟩
  rw [Int.toNat_natCast]
  refine lc_range (lo := 0) (n := n) (fun D i acc H3 => ∃ as, acc = as.map V.ref ∧ i ≤ n ∧ NewHall H2 H3 D as (List.replicate i [])) (fun D hD => ⟨[], rfl, Nat.zero_le _, NewHall.start hD⟩) ?_ ?_
  · rintro D i acc H3 hi ⟨as, rfl, _, N⟩
    have hl := N.at_.len
    rw [List.length_replicate] at hl
    refine ⟨CapKeep.set rfl, tt_intro ⟨(by decide), fun b hb => ⟨?_, ?_, ?_⟩⟩⟩
    · rw [upd_ne (ne_of_none N.at_.top hb)]; exact N.at_.top
    · rw [List.length_map]; exact smallL (by omega)
    · refine ⟨as ++ [b], by simp, hi, ?_⟩
      rw [List.replicate_succ']
      exact N.snoc' (r := []) (same_new hb _) upd_same hb
  rintro D3 acc H3 ⟨as, rfl, _, N3⟩
  -- pair by pair
  refine ⟨_, rfl, _, rfl, by omega, by omega, ?_⟩
  rw [Int.toNat_natCast]
  refine for_range (lo := 0) (n := n) (fun i σ H4 => ∃ (v7 v8 : Option V) (rs : List (List Int)), σ = [some (.str (txt l)), some (.int (n : Int)), v2, v3, some (.str (txt sg)), some (.ref D3), some (.int ((plTo n i).length : Int)), v7, v8] ∧ NewHall H2 H4 D3 as rs ∧ Fil n sg (plTo n i).length rs)
    ⟨none, none, _, rfl, N3, Fil.start n sg⟩ ?_ ?_
  · rintro i σ H4 hi ⟨v7, v8, rs, rfl, N4, F4⟩
    rw [Int.zero_add]
    refine ⟨_, rfl, _, _, rfl, rfl, _, rfl, _, _, rfl, ⟨by omega, by omega, by omega, by omega⟩, ?_⟩
    refine for_range (lo := (i : Int) + 1) (n := ((n : Int) - ((i : Int) + 1)).toNat) (fun j σ H5 => ∃ (v8 : Option V) (rs : List (List Int)), σ = [some (.str (txt l)), some (.int (n : Int)), v2, v3, some (.str (txt sg)), some (.ref D3), some (.int (((plTo n i).length + j : Nat) : Int)), some (.int (i : Int)), v8] ∧ NewHall H2 H5 D3 as rs ∧ Fil n sg ((plTo n i).length + j) rs)
      ⟨v8, rs, rfl, N4, F4⟩ ?_ ?_
    · rintro j σ H5 hj ⟨v8, rs, rfl, N5, F5⟩
      have hp := pl_at hi (show j < n - 1 - i by omega)
      have kl : (plTo n i).length + j < sg.length := by rw [c1]; exact (List.getElem?_eq_some_iff.mp hp).1
      obtain ⟨c, hc⟩ : ∃ c, sg[(plTo n i).length + j]? = some c := ⟨_, List.getElem?_eq_getElem kl⟩
      have ec : sg.getD ((plTo n i).length + j) 0 = c := by rw [List.getD_eq_getElem?_getD, hc]; rfl
      have lr := F5.len
      have ej : (i : Int) + 1 + (j : Int) = ((i + 1 + j : Nat) : Int) := by omega
      rw [ej]
      have add : ∀ g h : Nat, g < n → (((plTo n n)[(plTo n i).length + j]? = some (g, h) ∧ sg.getD ((plTo n i).length + j) 0 = 62) ∨ ((plTo n n)[(plTo n i).length + j]? = some (h, g) ∧ sg.getD ((plTo n i).length + j) 0 ≠ 62)) → ∃ ag, atI (as.map V.ref) (g : Int) = some (.ref ag) ∧ H5 ag = some (.lst ((rowAt rs g).map V.int)) ∧
          NewHall H2 (upd H5 ag (.lst ((rowAt rs g).map V.int ++ [.int (h : Int)]))) D3 as (rs.set g (rowAt rs g ++ [(h : Int)])) ∧ Fil n sg ((plTo n i).length + (j + 1)) (rs.set g (rowAt rs g ++ [(h : Int)])) := fun g h hg hp => by
        obtain ⟨ag, f1, f2⟩ := paired_get N5.at_.row (i := g) (b := rowAt rs g) (by unfold rowAt; rw [List.getElem?_eq_getElem (by omega), getD_of_lt (by omega)])
        have N6 := N5.put (r' := rowAt rs g ++ [(h : Int)]) f1
        rw [List.map_append] at N6
        exact ⟨ag, at_ref (by omega) (by rw [Int.toNat_natCast]; exact f1), f2, N6, F5.next n12 hp⟩
      have ea : atI (txt sg).cps.toList (((plTo n i).length + j : Nat) : Int) = some c := atI_nat (by simpa using hc)
      refine ⟨_, rfl, _, rfl, txt sg, _, c, rfl, rfl, hz', ea, rfl, _, rfl, ?_⟩
      rw [gt_txt, show (⟨#[c]⟩ : Str) = txt [c] from rfl, dec_txt]
      have ne1 : (((plTo n i).length + j : Nat) : Int) + 1 = (((plTo n i).length + (j + 1) : Nat) : Int) := by omega
      by_cases d : c = 62
      · rw [decide_eq_true (by rw [d])]
        obtain ⟨ag, e1, f2, N6, F6⟩ := add i (i + 1 + j) hi (.inl ⟨hp, by rw [ec, d]⟩)
        refine iteT ⟨_, rfl, _, rfl, _, _, _, _, rfl, rfl, N5.at_.sq, e1, .inl ⟨rfl, _, SqL.of f2⟩, _, rfl, _, _, _, rfl, rfl, f2, ?_, ?_⟩
        · have := fil_lens F5 n12 i; rw [List.length_map]; exact smallL (by omega)
        · refine ⟨_, rfl, _, _, rfl, rfl, ?_⟩
          rw [show (fun (i j : Int) => V.int (i + j)) (((plTo n i).length + j : Nat) : Int) 1 = V.int (((plTo n i).length + (j + 1) : Nat) : Int) from congrArg V.int ne1]
          exact ⟨_, _, rfl, N6, F6⟩
      · rw [decide_eq_false (fun z => d (by simpa using z))]
        obtain ⟨ag, e1, f2, N6, F6⟩ := add (i + 1 + j) i (by omega) (.inr ⟨hp, by rw [ec]; exact d⟩)
        refine iteF ⟨_, rfl, _, rfl, _, _, _, _, rfl, rfl, N5.at_.sq, e1, .inl ⟨rfl, _, SqL.of f2⟩, _, rfl, _, _, _, rfl, rfl, f2, ?_, ?_⟩
        · have := fil_lens F5 n12 (i + 1 + j); rw [List.length_map]; exact smallL (by omega)
        · refine ⟨_, rfl, _, _, rfl, rfl, ?_⟩
          rw [show (fun (i j : Int) => V.int (i + j)) (((plTo n i).length + j : Nat) : Int) 1 = V.int (((plTo n i).length + (j + 1) : Nat) : Int) from congrArg V.int ne1]
          exact ⟨_, _, rfl, N6, F6⟩
    · rintro σ H5 ⟨v8, rs, rfl, N5, F5⟩
      have el : (plTo n i).length + ((n : Int) - ((i : Int) + 1)).toNat = (plTo n (i + 1)).length := by rw [plTo_succ, List.length_append, rowP_len]; omega
      rw [el] at F5
      exact ⟨_, _, rs, by rw [el], N5, F5⟩
  · rintro σ H4 ⟨v7, v8, rs, rfl, N4, F4⟩
    have lr := F4.len
    refine ⟨_, rfl, _, rfl, ⟨_, N4.at_.sq⟩, sort_comp N4.at_.sq N4.at_.rows (by omega) (fun i hi => by have := fil_lens F4 n12 i; omega) rfl fun p' as' rows' H5 N5 l5 ss => ?_⟩
    rw [lr] at l5 ss
    exact q n sg W p' as' rows' H5 (N5.base (s2.trans N4.same)) ⟨rs, F4, l5, ss⟩
end
end KH

namespace KH
open PySem L2
/-! ### a sign, an odd text, by the law -/
def spSignL (K : PySem.W.Frag) : Sp := fun vs H Q _ => ∃ c v : Int, vs = [.int c, .int v] ∧ ∀ ch : Nat, ch < 128 → Q (.str (txt [ch])) H
def spOddL (K : PySem.W.Frag) : Sp := fun vs H Q _ => ∃ c : Int, vs = [.int c] ∧ ∀ (l : List Nat) (H' : Hp), Same H H' → l.length ≤ 100 → (∀ x ∈ l, x < 128) → Q (.str (txt l)) H'
theorem ix_pick {z : Str} {k : Int} {H : Hp} {Q : VK} (h0 : 0 ≤ k) (h1 : k < (z.length : Int)) (hz : z.length ≤ 1000) (ha : z.cps.all (· < 128) = true) (q : ∀ ch : Nat, ch < 128 → Q (.str (txt [ch])) H) : rIxS (.str z) (.int k) H Q := by
  have hl : z.cps.toList.length = z.length := by simp [Str.length]
  obtain ⟨j, ej⟩ : ∃ j : Nat, k = (j : Int) := ⟨k.toNat, by omega⟩
  have hj : j < z.cps.toList.length := by omega
  refine ⟨z, k, z.cps.toList[j], rfl, rfl, small hz, ?_, q _ ?_⟩
  · rw [ej]
    exact atI_nat (List.getElem?_eq_getElem hj)
  · have := Array.all_eq_true.mp ha j (by simpa using hj)
    simpa using this
section
variable {P : Program} {w : World} {K : PySem.W.Frag} {mg : Str → Option Value} {base : Heap} {f : Addr} {fd : FuncData}
theorem sc_sign : FnScope ["cell", "way", "some"] ["cell", "way"] (defScope s_law_sign) := ⟨rfl, rfl, rfl, by decide +kernel, rfl, by decide +kernel, by decide +kernel⟩
theorem ok_signL (F : Fun K "_law_sign" "_law_sign" s_law_sign f fd) (z : Blt mg) : FnOk P w K mg base CX0 1 f fd ["cell", "way"] (spSignL K) := by
  refine F.ok sc_sign (fun vs H Q E h => ?_) (fun cdv A outer s H vs Q E hr h => ?_)
  · obtain ⟨c, v, rfl, _⟩ := h
    rfl
  obtain ⟨c, v, rfl, q⟩ := h
  have nd := sc_sign.nd
  refine ⟨_, (pss_cons (ps_if (pt_cmpR op_eq (pe_op op_mod (pv 1) pe_int) pe_int (nomark _)) (pss_one (ps_ret (pe_ix ix_str pe_str (pe_op op_mod (pv 0) pe_int) (fun _ _ => rfl)))) pss_nil)
  (pss_cons (ps_set (i := 2) nd rfl (by first | exact Or.inl rfl | exact Or.inr rfl) pe_str)
  (pss_cons (ps_set (i := 2) nd rfl (by first | exact Or.inl rfl | exact Or.inr rfl) (pe_op op_add_str (pv 2) pe_str))
  (pss_one (ps_ret (pe_ix ix_str (pv 2) (pe_op op_mod (pv 0) (pe_callB call_len_str rfl z.len (by decide +kernel) (pa_cons (pv 2) pa_nil))) (fun _ _ => rfl))))))), ?_⟩
  refine ⟨_, rfl, _, _, rfl, rfl, (by show (0 : Int) < _; decide), rfl, _, rfl, ite2 (fun d => ?_) (fun d => ?_)⟩
  · refine ⟨_, rfl, _, _, rfl, rfl, (by show (0 : Int) < _; decide), ?_⟩
    exact ix_pick (Int.emod_nonneg c (by decide)) (Int.lt_of_lt_of_le (Int.emod_lt_of_pos c (show (0 : Int) < 16 by decide)) (by decide +kernel)) (by decide +kernel) (by decide +kernel) q
  · refine ⟨_, rfl, _, _, rfl, rfl, by decide +kernel, ?_⟩
    refine ⟨_, rfl, _, rfl, _, rfl, _, rfl, by decide +kernel, _, _, rfl, rfl, (by show (0 : Int) < _; decide +kernel), ?_⟩
    exact ix_pick (Int.emod_nonneg c (by decide +kernel)) (Int.emod_lt_of_pos c (by decide +kernel)) (by decide +kernel) (by decide +kernel) q
end
end KH

set_option pp.maxSteps 400
set_option pp.deepTerms false
namespace KH
open PySem L2
section
variable {P : Program} {w : World} {K : PySem.W.Frag} {mg : Str → Option Value} {base : Heap} {f : Addr} {fd : FuncData}
theorem pick_lit (xs : List Str) (k : Int) (h0 : 0 ≤ k) (h1 : k < (xs.length : Int)) (ha : (xs.all fun x => decide (x.cps.toList.length ≤ 100) && x.cps.toList.all (· < 128)) = true) : ∃ x : Str, atI (xs.map V.str) k = some (.str x) ∧ x.cps.toList.length ≤ 100 ∧ ∀ c ∈ x.cps.toList, c < 128 := by
  obtain ⟨j, ej⟩ : ∃ j : Nat, k = (j : Int) := ⟨k.toNat, by omega⟩
  have hj : j < xs.length := by omega
  have := List.all_eq_true.mp ha xs[j] (List.getElem_mem hj)
  rw [Bool.and_eq_true, decide_eq_true_iff, List.all_eq_true] at this
  refine ⟨xs[j], ?_, this.1, fun c hc => by simpa using this.2 c hc⟩
  rw [ej]
  exact atI_nat (by rw [List.getElem?_map, List.getElem?_eq_getElem hj]; rfl)
/-- what the rest of the def wants of the two lists -/
theorem odd_end {H : Hp} {Q : VK} {c : Int} {xs ys : List Str} {L : Addr} (h1 : 1 ≤ xs.length) (hok : ((xs ++ ys).all fun x => decide (x.cps.toList.length ≤ 100) && x.cps.toList.all (· < 128)) = true)
    (q : ∀ (l : List Nat) (H' : Hp), Same H H' → l.length ≤ 100 → (∀ x ∈ l, x < 128) → Q (.str (txt l)) H') {H3 : Hp} (s3 : Same H H3) (h3 : H3 L = some (.lst (xs.map V.str ++ ys.map V.str))) : 
    ((0 : Int) < ((xs.map V.str ++ ys.map V.str).length : Int)) ∧ rIxL K (.ref L) (.int (c % ((xs.map V.str ++ ys.map V.str).length : Int))) H3 Q := by
  have lp : (0 : Int) < ((xs.map V.str ++ ys.map V.str).length : Int) := by rw [List.length_append, List.length_map]; omega
  refine ⟨lp, ?_⟩
  have em : xs.map V.str ++ ys.map V.str = (xs ++ ys).map V.str := by rw [List.map_append]
  obtain ⟨x, e1, e2, e3⟩ := pick_lit (xs ++ ys) (c % ((xs.map V.str ++ ys.map V.str).length : Int)) (Int.emod_nonneg c (Int.ne_of_gt lp)) (by have := Int.emod_lt_of_pos c lp; rw [em, List.length_map] at this ⊢; exact this) hok
  refine ⟨L, _, _, _, rfl, rfl, SqL.of h3, by rw [em]; rw [em] at e1; exact e1, ?_⟩
  rw [txt_of x]
  exact q _ H3 s3 e2 e3
theorem sc_odd : FnScope ["cell", "some"] ["cell"] (defScope s_law_odd) := ⟨rfl, rfl, rfl, by decide +kernel, rfl, by decide +kernel, by decide +kernel⟩
set_option maxHeartbeats 0 in
theorem ok_oddL (F : Fun K "_law_odd" "_law_odd" s_law_odd f fd) (z : Blt mg) : FnOk P w K mg base CX0 1 f fd ["cell"] (spOddL K) := by
  refine F.ok sc_odd (fun vs H Q E h => ?_) (fun cdv A outer s H vs Q E hr h => ?_)
  · obtain ⟨c, rfl, _⟩ := h
    rfl
  obtain ⟨c, rfl, q⟩ := h
  have nd := sc_odd.nd
  refine ⟨_, (@pss_cons _ _ _ _ _ (@ps_set _ _ 1 _ _ _ _ nd rfl (by first | exact Or.inl rfl | exact Or.inr rfl) (@pe_lst _ _ _ _ (@pa_lit _ _ (by decide +kernel))) rfl (.inl rfl))
  (@pss_cons _ _ _ _ _ (@ps_set _ _ 1 _ _ _ _ nd rfl (by first | exact Or.inl rfl | exact Or.inr rfl) (@pe_op _ _ _ _ _ _ _ _ op_cat (pv 1) (@pe_lst _ _ _ _ (@pa_lit _ _ (by decide +kernel)))) rfl (.inl rfl))
  (pss_one (ps_ret (pe_ix ix_list (pv 1) (pe_op op_mod (pv 0) (pe_callB call_len_seq rfl z.len (by decide +kernel) (pa_cons (pv 1) pa_nil))) (fun _ _ => rfl)))))), ?_⟩
  refine ⟨small (by decide +kernel), fun L hL => ⟨_, rfl, small (by decide +kernel), fun L2 hL2 => ⟨L, L2, _, _, rfl, rfl, (same_new hL2 _) _ _ upd_same, upd_same, small (by decide +kernel), fun L3 hL3 => ⟨_, rfl, _, rfl, _, rfl, _, _, rfl, .inl (SqL.of upd_same), _, _, rfl, rfl, ?_, ?_⟩⟩⟩⟩
  · exact (odd_end (K := K) (c := c) (by decide +kernel) (by decide +kernel) q (((same_new hL _).trans (same_new hL2 _)).trans (same_new hL3 _)) upd_same).1
  · exact (odd_end (K := K) (c := c) (by decide +kernel) (by decide +kernel) q (((same_new hL _).trans (same_new hL2 _)).trans (same_new hL3 _)) upd_same).2
end
end KH

namespace KH
open PySem L2
/-! ### the text of a hall, by the law -/
def spWritten (K : PySem.W.Frag) : Sp := fun vs H Q _ => ∃ (p : Addr) (rows : List (List Int)), vs = [.ref p] ∧ RdHall K H p rows ∧ IsHall rows ∧ Q (.str (note rows)) H
section
variable {P : Program} {w : World} {K : PySem.W.Frag} {mg : Str → Option Value} {base : Heap} {f : Addr} {fd : FuncData}
theorem sc_written : FnScope ["hall", "text", "one", "other"] ["hall"] (defScope s_law_written) := ⟨rfl, rfl, rfl, by decide +kernel, rfl, by decide +kernel, by decide +kernel⟩
set_option maxHeartbeats 0 in
theorem ok_written (F : Fun K "_law_written" "_law_written" s_law_written f fd) (z : Blt mg) : FnOk P w K mg base CX0 1 f fd ["hall"] (spWritten K) := by
  refine F.ok sc_written (fun vs H Q E h => ?_) (fun cdv A outer s H vs Q E hr h => ?_)
  · obtain ⟨p, rows, rfl, _⟩ := h
    rfl
  obtain ⟨p, rows, rfl, RH, IH, q⟩ := h
  have nd := sc_written.nd
  refine ⟨_, (pss_cons (ps_set (i := 1) nd rfl (by first | exact Or.inl rfl | exact Or.inr rfl) (pe_op op_add_str (pe_callTy call_str_int rfl z.str (by decide +kernel) (pa_cons (pe_callB call_len_seq rfl z.len (by decide +kernel) (pa_cons (pv 0) pa_nil)) pa_nil)) pe_str))
  (pss_cons (ps_for PassesOwn.never rfl (pi_range1 rfl z.range (pa_cons (pe_callB call_len_seq rfl z.len (by decide +kernel) (pa_cons (pv 0) pa_nil)) pa_nil)) (pg_name (i := 2) nd rfl (by first | exact Or.inl rfl | exact Or.inr rfl)) (pss_one (ps_for PassesOwn.never rfl (pi_range2 rfl z.range (pa_cons (pe_op op_add (pv 2) pe_int) (pa_cons (pe_callB call_len_seq rfl z.len (by decide +kernel) (pa_cons (pv 0) pa_nil)) pa_nil))) (pg_name (i := 3) nd rfl (by first | exact Or.inl rfl | exact Or.inr rfl)) (pss_one (ps_set (i := 1) nd rfl (by first | exact Or.inl rfl | exact Or.inr rfl) (pe_op op_add_str (pv 1) (pe_ix ix_str pe_str (pe_callTy call_int1 rfl z.int (by decide +kernel) (pa_cons (pe_cmpR op_in_seq (pv 3) (pe_ix ix_list (pv 0) (pv 2) (fun _ _ => rfl)) (by with_unfolding_all rfl)) pa_nil)) (fun _ _ => rfl))))))))
  (pss_one (ps_ret (pv 1))))), ?_⟩
  have h12 := IH.hi
  have h1 := IH.lo
  obtain ⟨as', hS1, hR1⟩ := RH
  have hal : (as'.map V.ref).length = rows.length := by rw [List.length_map]; exact hR1.length
  have small12 : ∀ n : Nat, n ≤ 12 → (n : Int).natAbs.log2 < 1920 ∧ (headS n).length ≤ 3 ∧ ((toString (n : Int) : String) : Str).length + ((":" : String) : Str).length ≤ sizeLine := by decide +kernel
  obtain ⟨k1, k2, k3⟩ := small12 rows.length h12
  -- due
  refine ⟨_, rfl, _, _, rfl, .inl hS1, _, rfl, ?_⟩
  rw [hal]
  refine ⟨k1, _, _, rfl, rfl, k3, ?_⟩
  rw [show (((toString ((rows.length : Nat) : Int) : String) : Str) ++ ((":" : String) : Str)) = upTo (headS rows.length) (sgTo rows rows.length 0) from (upTo_nil _).symm]
  refine ⟨_, rfl, _, _, rfl, .inl hS1, _, rfl, by omega, by omega, ?_⟩
  rw [hal, show (((rows.length : Nat)) : Int).toNat = rows.length by omega]
  refine for_range (lo := 0) (n := rows.length) (fun i σ H' => ∃ v3 v4 : Option V, H = H' ∧ σ = [some (.ref p), some (.str (upTo (headS rows.length) (sgTo rows rows.length i))), v3, v4]) ⟨none, none, rfl, rfl⟩ ?_ ?_
  · rintro i σ H' hi ⟨v3, v4, rfl, rfl⟩
    rw [Int.zero_add]
    refine ⟨_, rfl, _, _, rfl, rfl, _, rfl, _, _, rfl, .inl hS1, _, _, rfl, ⟨by omega, by omega, by omega, by omega⟩, ?_⟩
    have il := sgTo_len rows rows.length i
    refine for_range (lo := (i : Int) + 1) (n := (((as'.map V.ref).length : Int) - ((i : Int) + 1)).toNat) (fun j σ H' => ∃ v4 : Option V, H = H' ∧ σ = [some (.ref p), some (.str (upTo (headS rows.length) (sgTo rows rows.length i ++ rowS rows i j))), some (.int (i : Int)), v4]) ⟨v4, rfl, by rw [rowS_zero, List.append_nil]; rfl⟩ ?_ ?_
    · rintro j σ H' hj ⟨v4, rfl, rfl⟩
      obtain ⟨b1, e1, _, r1⟩ := rows_at hR1 (k := (i : Int)) (by omega) (by omega)
      rw [Int.toNat_natCast] at r1
      have jl := rowS_len rows i j
      have mi : rows.length * i ≤ 144 := Nat.mul_le_mul h12 (show i ≤ 12 by omega)
      have ll : (sgTo rows rows.length i ++ rowS rows i j).length ≤ 200 := by rw [List.length_append]; omega
      refine ⟨_, rfl, _, rfl, _, rfl, _, rfl, _, _, _, _, rfl, rfl, hS1, e1, _, _, rfl, .inl r1, rfl, flat_ints _, .inr ⟨_, rfl, ?_⟩⟩
      simp only [Bool.false_eq_true, if_false, inV_int]
      have eo : (((i + 1 + j : Nat)) : Int) = (i : Int) + 1 + (j : Int) := by omega
      have fin : ∀ c : Nat, c = sgn rows i (i + 1 + j) → upTo (headS rows.length) (sgTo rows rows.length i ++ rowS rows i j) ++ (⟨#[c]⟩ : Str) = upTo (headS rows.length) (sgTo rows rows.length i ++ rowS rows i (j + 1)) := fun c e => by
        rw [upTo_one, rowS_succ, e, List.append_assoc]
      by_cases c : ((i : Int) + 1 + (j : Int)) ∈ rowAt rows i
      · rw [decide_eq_true c]
        refine ⟨_, _, 62, rfl, rfl, by decide, rfl, _, _, rfl, rfl, ?_, ?_⟩
        · rw [upTo_len, show ∀ c : Nat, (⟨#[c]⟩ : Str).length = 1 from fun _ => rfl]; exact Nat.le_of_lt (small (by show _ + 1 ≤ 1000; omega))
        · rw [fin 62 (by unfold sgn; rw [if_pos (by rw [eo]; exact c)])]
          exact ⟨_, rfl, rfl⟩
      · rw [decide_eq_false c]
        refine ⟨_, _, 60, rfl, rfl, by decide, rfl, _, _, rfl, rfl, ?_, ?_⟩
        · rw [upTo_len, show ∀ c : Nat, (⟨#[c]⟩ : Str).length = 1 from fun _ => rfl]; exact Nat.le_of_lt (small (by show _ + 1 ≤ 1000; omega))
        · rw [fin 60 (by unfold sgn; rw [if_neg (by rw [eo]; exact c)])]
          exact ⟨_, rfl, rfl⟩
    · rintro σ H' ⟨v4, rfl, rfl⟩
      refine ⟨some (.int (i : Int)), v4, rfl, ?_⟩
      rw [sgTo_succ, show (((as'.map V.ref).length : Int) - ((i : Int) + 1)).toNat = rows.length - 1 - i by omega]
  rintro σ H' ⟨v3, v4, rfl, rfl⟩
  rw [show upTo (headS rows.length) (sgTo rows rows.length rows.length) = note rows from rfl]
  exact ⟨_, rfl, q⟩
end
end KH

namespace KH
open PySem L2
/-! ### lists of whole numbers -/
def spInts (K : PySem.W.Frag) : Sp := fun vs H Q _ => ∃ (a b : Addr) (ns : List Int), vs = [.ref a, .ref b] ∧ H a = some (.lst (ns.map V.int)) ∧ SqL K H b (ns.map V.int) ∧ ns.length ≤ 1000 ∧ Q (.bl true) H
/-- sorted, and of the same numbers: the same list -/
theorem sorted_same : ∀ {l m : List Int}, l.Perm m → l.Pairwise (· ≤ ·) → m.Pairwise (· ≤ ·) → l = m
  | [], m, h, _, _ => (List.nil_perm.mp h).symm
  | x :: r, m, h, h1, h2 => by
    cases m with
    | nil => exact absurd h.length_eq (by simp)
    | cons y s =>
      have hx : x ∈ y :: s := h.mem_iff.mp List.mem_cons_self
      have hy : y ∈ x :: r := h.mem_iff.mpr List.mem_cons_self
      rw [List.pairwise_cons] at h1 h2
      have e : x = y := by
        rcases List.mem_cons.mp hx with q | q
        · exact q
        · rcases List.mem_cons.mp hy with q' | q'
          · exact q'.symm
          · have a := h2.1 x q
            have b := h1.1 y q'
            omega
      subst e
      rw [sorted_same (List.Perm.cons_inv h) h1.2 h2.2]
theorem nums_sorted (n : Nat) : (nums n).Pairwise (· ≤ ·) := by
  unfold nums
  rw [List.pairwise_map]
  exact List.pairwise_lt_range.imp fun h => by omega
theorem nums_map (n : Nat) : (List.range n).map (fun (i : Nat) => V.int (i : Int)) = (nums n).map V.int := by simp [nums]
section
variable {P : Program} {w : World} {K : PySem.W.Frag} {mg : Str → Option Value} {base : Heap} {f : Addr} {fd : FuncData}
theorem sc_ints : FnScope ["found", "due", "k"] ["found", "due"] (defScope s_law_ints) := ⟨rfl, rfl, rfl, by decide +kernel, rfl, by decide +kernel, by decide +kernel⟩
theorem ok_ints (F : Fun K "_law_ints" "_law_ints" s_law_ints f fd) (z : Blt mg) : FnOk P w K mg base CX0 1 f fd ["found", "due"] (spInts K) := by
  refine F.ok sc_ints (fun vs H Q E h => ?_) (fun cdv A outer s H vs Q E hr h => ?_)
  · obtain ⟨a, b, ns, rfl, _⟩ := h
    rfl
  obtain ⟨a, b, ns, rfl, hA, hB, hz, q⟩ := h
  have nd := sc_ints.nd
  have hml : (ns.map V.int).length = ns.length := List.length_map _
  refine ⟨_, (pss_cons (ps_if (PW.pt (pw_or (pt_not (pt_val (pe_callB call_isinst rfl z.isinstance (by decide +kernel) (pa_cons (pv 0) (pa_cons (pe_bltn (v := .ty "list") (u := .type "list") rfl z.list (by decide +kernel) rfl) pa_nil))))) (pw_or1 (pt_cmpR op_ne (pe_callB call_len_seq rfl z.len (by decide +kernel) (pa_cons (pv 0) pa_nil)) (pe_callB call_len_seq rfl z.len (by decide +kernel) (pa_cons (pv 1) pa_nil)) (nomark _))))) (pss_one (ps_ret pe_bl)) pss_nil)
  (pss_cons (ps_for PassesOwn.never rfl (pi_range1 rfl z.range (pa_cons (pe_callB call_len_seq rfl z.len (by decide +kernel) (pa_cons (pv 1) pa_nil)) pa_nil)) (pg_name (i := 2) nd rfl (by first | exact Or.inl rfl | exact Or.inr rfl)) (pss_one (ps_if (PW.pt (pw_or (pt_not (pt_val (pe_callB call_isinst rfl z.isinstance (by decide +kernel) (pa_cons (pe_ix ix_list (pv 0) (pv 2) (fun _ _ => rfl)) (pa_cons (pe_bltn (v := .ty "int") (u := .type "int") rfl z.int (by decide +kernel) rfl) pa_nil))))) (pw_or (pt_val (pe_callB call_isinst rfl z.isinstance (by decide +kernel) (pa_cons (pe_ix ix_list (pv 0) (pv 2) (fun _ _ => rfl)) (pa_cons (pe_bltn (v := .ty "bool") (u := .type "bool") rfl z.bool (by decide +kernel) rfl) pa_nil)))) (pw_or1 (pt_cmpR op_ne (pe_ix ix_list (pv 0) (pv 2) (fun _ _ => rfl)) (pe_ix ix_list (pv 1) (pv 2) (fun _ _ => rfl)) (nomark _)))))) (pss_one (ps_ret pe_bl)) pss_nil)))
  (pss_one (ps_ret pe_bl)))), ?_⟩
  refine ⟨_, rfl, _, _, _, _, rfl, TyOf.lst hA, kit_list_list K, _, rfl, iteF ?_⟩
  refine ⟨_, rfl, _, _, rfl, .inl (SqL.of hA), _, rfl, _, _, rfl, .inl hB, rfl, _, rfl, iteNS rfl ?_⟩
  refine ⟨_, rfl, _, _, rfl, .inl hB, _, rfl, by omega, by omega, ?_⟩
  have hn : (((ns.map V.int).length : Nat) : Int).toNat = ns.length := by omega
  rw [hn]
  refine for_range (lo := 0) (n := ns.length) (fun i σ H2 => ∃ v : Option V, H = H2 ∧ σ = [some (.ref a), some (.ref b), v]) ⟨none, rfl, rfl⟩ ?_ ?_
  · rintro i σ H2 hi ⟨v, rfl, rfl⟩
    have ak := at_int (ns := ns) (k := 0 + (i : Int)) (by omega) (by omega)
    refine ⟨_, rfl, _, rfl, _, _, _, _, rfl, rfl, SqL.of hA, ak, _, _, _, _, rfl, TyOf.int _, kit_int_int K, _, rfl, iteF ?_⟩
    refine ⟨_, rfl, _, rfl, _, _, _, _, rfl, rfl, SqL.of hA, ak, _, _, _, _, rfl, TyOf.int _, kit_int_bool K, _, rfl, iteF ?_⟩
    refine ⟨_, rfl, _, rfl, _, _, _, _, rfl, rfl, SqL.of hA, ak, _, rfl, _, rfl, _, _, _, _, rfl, rfl, hB, ak, rfl, _, rfl, iteNS rfl ?_⟩
    exact ⟨_, rfl, rfl⟩
  · rintro σ H2 ⟨v, rfl, rfl⟩
    exact q
end
end KH

namespace KH
open PySem L2
/-! ### what the law asks of groups -/
def spLike (K : PySem.W.Frag) : Sp := fun vs H Q _ => ∃ (p q : Addr) (as bs : List Addr) (rows : List (List Int)), vs = [.ref p, .ref q] ∧ HallAt H p as rows ∧ HallAt H q bs rows ∧ rows.length ≤ 100 ∧ (∀ r ∈ rows, r.length ≤ 1000) ∧ ∀ H', Same H H' → Q (.bl true) H'
section
variable {P : Program} {w : World} {K : PySem.W.Frag} {mg : Str → Option Value} {base : Heap} {f : Addr} {fd : FuncData}
theorem sc_like : FnScope ["found", "due", "one", "other"] ["found", "due"] (defScope s_law_lists_like) := ⟨rfl, rfl, rfl, by decide +kernel, rfl, by decide +kernel, by decide +kernel⟩
theorem ok_like (F : Fun K "_law_lists_like" "_law_lists_like" s_law_lists_like f fd) (z : Blt mg) (C_law_ints : Has P w K mg base 1 "_law_ints" ["found", "due"] (spInts K)) : FnOk P w K mg base CX0 2 f fd ["found", "due"] (spLike K) := by
  refine F.ok sc_like (fun vs H Q E h => ?_) (fun cdv A outer s H vs Q E hr h => ?_)
  · obtain ⟨p, q, as, bs, rows, rfl, _⟩ := h
    rfl
  obtain ⟨p, q, as, bs, rows, rfl, A1, A2, hz, hz2, k⟩ := h
  have nd := sc_like.nd
  have l1 := A1.len
  have l2 := A2.len
  refine ⟨_, (pss_cons (ps_if (PW.pt (pw_or (pt_not (pt_val (pe_callB call_isinst rfl z.isinstance (by decide +kernel) (pa_cons (pv 0) (pa_cons (pe_bltn (v := .ty "list") (u := .type "list") rfl z.list (by decide +kernel) rfl) pa_nil))))) (pw_or1 (pt_cmpR op_ne (pe_callB call_len_seq rfl z.len (by decide +kernel) (pa_cons (pv 0) pa_nil)) (pe_callB call_len_seq rfl z.len (by decide +kernel) (pa_cons (pv 1) pa_nil)) (nomark _))))) (pss_one (ps_ret pe_bl)) pss_nil)
  (pss_cons (ps_for PassesOwn.never rfl (pi_zip rfl z.zip (pa_cons (pv 0) (pa_cons (pv 1) pa_nil))) (pg_tup rfl (pgs_cons (pg_name (i := 2) nd rfl (by first | exact Or.inl rfl | exact Or.inr rfl)) (pgs_cons (pg_name (i := 3) nd rfl (by first | exact Or.inl rfl | exact Or.inr rfl)) pgs_nil))) (pss_one (ps_if (pt_not (pt_val (pe_callH C_law_ints (hr.mono (by decide)) rfl (pa_cons (pv 2) (pa_cons (pv 3) pa_nil))))) (pss_one (ps_ret pe_bl)) pss_nil)))
  (pss_one (ps_ret pe_bl)))), ?_⟩
  refine ⟨_, rfl, _, _, _, _, rfl, TyOf.lst A1.top, kit_list_list K, _, rfl, iteF ?_⟩
  refine ⟨_, rfl, _, _, rfl, .inl A1.sq, _, rfl, _, _, rfl, .inl A2.sq, rfl, _, rfl, iteNS (congrArg V.int (by rw [List.length_map, List.length_map]; omega)) ?_⟩
  refine ⟨_, rfl, _, rfl, p, q, rfl, ⟨_, A1.sq⟩, ⟨_, A2.sq⟩, ?_⟩
  refine for_zip (K := K) (a := p) (b := q) (xs := as.map V.ref) (ys := bs.map V.ref) (by rw [List.length_map, List.length_map]; omega) (fun i σ H2 => ∃ v1 v2 : Option V, σ = [some (.ref p), some (.ref q), v1, v2] ∧ Same H H2)
    ⟨none, none, rfl, Same.refl H⟩ (fun i σ H2 _ ⟨_, _, _, s2⟩ => ⟨s2.seq A1.sq, s2.seq A2.sq⟩) ?_ ?_
  · rintro i x y t σ H2 hx hy ⟨v1, v2, rfl, s2⟩ ht
    obtain ⟨a, rfl, ha⟩ := map_ref_get hx
    obtain ⟨b, rfl, hb⟩ := map_ref_get hy
    obtain ⟨r1, er1, q1⟩ := paired_getA A1.row ha
    obtain ⟨r2, er2, q2⟩ := paired_getA A2.row hb
    rw [er1] at er2
    cases er2
    have s3 := s2.trans (same_new ht (.tup [.ref a, .ref b]))
    refine ⟨t, _, rfl, SqT.of upd_same, rfl, _, _, rfl, _, _, rfl, rfl, ?_⟩
    refine ⟨_, rfl, _, rfl, a, b, r1, rfl, s3 _ _ q1, SqL.of (s3 _ _ q2), hz2 r1 (List.mem_of_getElem? er1), _, rfl, iteF ?_⟩
    exact ⟨_, _, rfl, s3⟩
  · rintro σ H2 ⟨v1, v2, rfl, s2⟩
    exact k H2 s2
end
end KH

namespace KH
open PySem L2
/-! ### which of the six classes an exception is of -/
/-- the class at C is the i-th of the six, and of no other of them -/
structure Which (K : PySem.W.Frag) (D_NoHall D_NoPlayer D_NoRing D_NoRow D_Unlike D_NoNote C : Addr) (bs : List Bool) (i : Nat) : Prop where
  f : ExcFacts K C
  b : ∃ b0 b1 b2 b3 b4 b5, bs = [b0, b1, b2, b3, b4, b5] ∧ PySem.W.kitOne K (.ref C) (.ref D_NoHall) = some b0 ∧ PySem.W.kitOne K (.ref C) (.ref D_NoPlayer) = some b1 ∧ PySem.W.kitOne K (.ref C) (.ref D_NoRing) = some b2 ∧
    PySem.W.kitOne K (.ref C) (.ref D_NoRow) = some b3 ∧ PySem.W.kitOne K (.ref C) (.ref D_Unlike) = some b4 ∧ PySem.W.kitOne K (.ref C) (.ref D_NoNote) = some b5
  v : PySem.W.kitOne K (.ref C) (.type "ValueError") = some true
  c : bs.countP id = 1
  j : bs[i]? = some true
  n : ∀ k, k < i → bs[k]? = some false
def spWhich (K : PySem.W.Frag) (D_NoHall D_NoPlayer D_NoRing D_NoRow D_Unlike D_NoNote : Addr) : Sp := fun vs H Q _ => ∃ (ea C : Addr) (bs : List Bool) (i : Nat), vs = [.ref ea] ∧ H ea = some (ExcOb ea C) ∧ Which K D_NoHall D_NoPlayer D_NoRing D_NoRow D_Unlike D_NoNote C bs i ∧ ∀ H', Same H H' → Q (.int i) H'
section
variable {P : Program} {w : World} {K : PySem.W.Frag} {mg : Str → Option Value} {base : Heap} {f : Addr} {fd : FuncData} {D_NoHall D_NoPlayer D_NoRing D_NoRow D_Unlike D_NoNote : Addr}
theorem sc_which : FnScope ["e", "low", "high", "told"] ["e"] (defScope s_law_which) := ⟨rfl, rfl, rfl, by decide +kernel, rfl, by decide +kernel, by decide +kernel⟩
theorem ok_which (F : Fun K "_law_which" "_law_which" s_law_which f fd) (z : Blt mg) (g_NoHall : mg "NoHall" = some (.ref D_NoHall)) (g_NoPlayer : mg "NoPlayer" = some (.ref D_NoPlayer)) (g_NoRing : mg "NoRing" = some (.ref D_NoRing)) (g_NoRow : mg "NoRow" = some (.ref D_NoRow))
    (g_Unlike : mg "Unlike" = some (.ref D_Unlike)) (g_NoNote : mg "NoNote" = some (.ref D_NoNote)) : FnOkM P w K mg base 1 f fd ["e"] (spWhich K D_NoHall D_NoPlayer D_NoRing D_NoRow D_Unlike D_NoNote) := by
  refine F.okM sc_which (fun vs H Q E h => ?_) (fun cdv A outer s H vs Q E hr h => ?_)
  · obtain ⟨ea, C, bs, i, rfl, _⟩ := h
    rfl
  obtain ⟨ea, C, bs, i, rfl, he, Wh, q⟩ := h
  obtain ⟨WF, ⟨b0, b1, b2, b3, b4, b5, rfl, k0, k1, k2, k3, k4, k5⟩, wv, wc, wj, wn⟩ := Wh
  have nd := sc_which.nd
  refine ⟨_, (pss_cons (ps_set (i := 1) nd rfl (by first | exact Or.inl rfl | exact Or.inr rfl) (pe_lst (pa_cons (pe_callB call_isinstE rfl z.isinstance (by decide +kernel) (pa_cons (pv 0) (pa_cons (pe_glob (v := .ref D_NoHall) rfl g_NoHall rfl) pa_nil))) (pa_cons (pe_callB call_isinstE rfl z.isinstance (by decide +kernel) (pa_cons (pv 0) (pa_cons (pe_glob (v := .ref D_NoPlayer) rfl g_NoPlayer rfl) pa_nil))) (pa_cons (pe_callB call_isinstE rfl z.isinstance (by decide +kernel) (pa_cons (pv 0) (pa_cons (pe_glob (v := .ref D_NoRing) rfl g_NoRing rfl) pa_nil))) pa_nil)))))
  (pss_cons (ps_set (i := 2) nd rfl (by first | exact Or.inl rfl | exact Or.inr rfl) (pe_lst (pa_cons (pe_callB call_isinstE rfl z.isinstance (by decide +kernel) (pa_cons (pv 0) (pa_cons (pe_glob (v := .ref D_NoRow) rfl g_NoRow rfl) pa_nil))) (pa_cons (pe_callB call_isinstE rfl z.isinstance (by decide +kernel) (pa_cons (pv 0) (pa_cons (pe_glob (v := .ref D_Unlike) rfl g_Unlike rfl) pa_nil))) (pa_cons (pe_callB call_isinstE rfl z.isinstance (by decide +kernel) (pa_cons (pv 0) (pa_cons (pe_glob (v := .ref D_NoNote) rfl g_NoNote rfl) pa_nil))) pa_nil)))))
  (pss_cons (ps_set (i := 3) nd rfl (by first | exact Or.inl rfl | exact Or.inr rfl) (pe_op op_cat (pv 1) (pv 2)))
  (pss_cons (ps_if (PW.pt (pw_or (pt_not (pt_val (pe_callB call_isinstE rfl z.isinstance (by decide +kernel) (pa_cons (pv 0) (pa_cons (pe_bltn (v := .ty "ValueError") (u := .type "ValueError") rfl z.ValueError (by decide +kernel) rfl) pa_nil))))) (pw_or1 (pt_cmpR op_ne (pe_bm PySem.F.plainAttrs_list PySem.F.slot_list_count PySem.F.type_list_count mt_countT (pv 3) (pa_cons pe_bl pa_nil)) pe_int (nomark _))))) (pss_one (ps_ret pe_int)) pss_nil)
  (pss_one (ps_ret (pe_bm PySem.F.plainAttrs_list PySem.F.slot_list_index PySem.F.type_list_index mt_indexT (pv 3) (pa_cons pe_bl pa_nil)))))))), ?_⟩
  have un : ∀ D : Addr, ∀ u, RelV (.ref D) u → u = .ref D := fun D u r => r
  refine ⟨_, rfl, _, _, _, _, _, rfl, rfl, un _, he, WF, k0, _, rfl, _, _, _, _, _, rfl, rfl, un _, he, WF, k1, _, rfl, _, _, _, _, _, rfl, rfl, un _, he, WF, k2, small (by simp), fun L1 hL1 => ?_⟩
  have s1 := same_new hL1 (.lst [.bl b0, .bl b1, .bl b2])
  have he1 := s1 _ _ he
  refine ⟨_, rfl, _, _, _, _, _, rfl, rfl, un _, he1, WF, k3, _, rfl, _, _, _, _, _, rfl, rfl, un _, he1, WF, k4, _, rfl, _, _, _, _, _, rfl, rfl, un _, he1, WF, k5, small (by simp), fun L2 hL2 => ?_⟩
  have s2 := same_new hL2 (.lst [.bl b3, .bl b4, .bl b5])
  refine ⟨_, rfl, _, rfl, L1, L2, _, _, rfl, rfl, s2 _ _ upd_same, upd_same, small (by simp), fun L3 hL3 => ?_⟩
  have s3 := same_new hL3 (.lst ([.bl b0, .bl b1, .bl b2] ++ [.bl b3, .bl b4, .bl b5]))
  have s13 := (s1.trans s2).trans s3
  have h3 : (upd (upd (upd H L1 (.lst [.bl b0, .bl b1, .bl b2])) L2 (.lst [.bl b3, .bl b4, .bl b5])) L3 (.lst ([.bl b0, .bl b1, .bl b2] ++ [.bl b3, .bl b4, .bl b5]))) L3 = some (.lst ([b0, b1, b2, b3, b4, b5].map V.bl)) := upd_same
  refine ⟨_, rfl, _, _, _, _, _, rfl, rfl, fun u r => r, s13 _ _ he, WF, wv, _, rfl, iteF ?_⟩
  refine ⟨_, rfl, .inl ⟨rfl, _, SqL.of h3⟩, L3, _, rfl, rfl, h3, rfl, _, rfl, ?_⟩
  rw [wc]
  refine iteNS rfl ?_
  exact ⟨_, rfl, .inl ⟨rfl, _, SqL.of h3⟩, L3, _, i, rfl, rfl, h3, (by simp), wj, wn, q _ s13⟩
end
end KH

namespace KH
open PySem L2
def spLaw (K : PySem.W.Frag) : Sp := fun vs H Q _ => ∃ (a : Addr) (ns : List Int), vs = [.ref a] ∧ SqL K H a (ns.map V.int) ∧ ns.length ≤ 63 ∧ ∀ H', Q (.bl true) H'
theorem wr_uniq {l : List Nat} {n m : Nat} {sg sh : List Nat} (a : Wr l n sg) (b : Wr l m sh) : n = m ∧ sg = sh := by
  have e : n = m := head_uniq (l := l) a.hi b.hi (by rw [List.isPrefixOf_iff_prefix, a.eq]; exact List.prefix_append _ _) (by rw [List.isPrefixOf_iff_prefix, b.eq]; exact List.prefix_append _ _)
  subst e
  exact ⟨rfl, List.append_cancel_left (a.eq.symm.trans b.eq)⟩
/-- a text of plain signs, not too long -/
def OkT (n : Nat) (l : List Nat) : Prop := l.length ≤ n ∧ ∀ c ∈ l, c < 128
theorem note_ok {rows : List (List Int)} (h : IsHall rows) : OkT 69 (note rows).cps.toList ∧ 1 ≤ (note rows).cps.toList.length := by
  have W := note_wr h
  have a := head_few rows.length h.hi
  have b := pl_few rows.length h.hi
  have l : (note rows).cps.toList.length = (headN rows.length).length + (plTo rows.length rows.length).length := by rw [W.eq, List.length_append, W.len]
  refine ⟨⟨by omega, fun c hc => ?_⟩, by omega⟩
  rw [W.eq] at hc
  rcases List.mem_append.mp hc with z | z
  · exact head_asc _ h.hi c z
  · rcases W.ok c z with y | y <;> omega
theorem cutN_len (l : List Nat) (lo hi : Option Int) : (cutN l lo hi).length ≤ l.length := by
  unfold cutN
  rw [List.length_take, List.length_drop]
  omega
theorem cutN_mem {l : List Nat} {lo hi : Option Int} {c : Nat} (h : c ∈ cutN l lo hi) : c ∈ l := List.mem_of_mem_drop (List.mem_of_mem_take h)
theorem ok_two {n : Nat} {l : List Nat} (h : OkT n l) (a b c d : Option Int) : OkT (2 * n) (cutN l a b ++ cutN l c d) := by
  refine ⟨?_, fun x hx => ?_⟩
  · have := cutN_len l a b
    have := cutN_len l c d
    have := h.1
    rw [List.length_append]
    omega
  · rcases List.mem_append.mp hx with z | z
    · exact h.2 x (cutN_mem z)
    · exact h.2 x (cutN_mem z)
theorem ok_three {n : Nat} {l : List Nat} (h : OkT n l) {ch : Nat} (hc : ch < 128) (a b c d : Option Int) : OkT (2 * n + 1) ((cutN l a b ++ [ch]) ++ cutN l c d) := by
  refine ⟨?_, fun x hx => ?_⟩
  · have := cutN_len l a b
    have := cutN_len l c d
    have := h.1
    rw [List.length_append, List.length_append, List.length_singleton]
    omega
  · rcases List.mem_append.mp hx with z | z
    · rcases List.mem_append.mp z with y | y
      · exact h.2 x (cutN_mem y)
      · have : x = ch := by simpa using y
        omega
    · exact h.2 x (cutN_mem z)
theorem srt_lens {n : Nat} {sg : List Nat} {r : List (List Int)} (h12 : n ≤ 12) (S : Srt n sg r) : r.length = n ∧ ∀ x ∈ r, x.length ≤ 1000 := by
  obtain ⟨rs, F, l, p⟩ := S
  refine ⟨l, fun x hx => ?_⟩
  obtain ⟨i, hi, e⟩ := List.mem_iff_getElem.mp hx
  have := (p i (by omega)).1.length_eq
  have := F.few i
  unfold rowAt at *
  rw [getD_of_lt hi, e] at *
  omega
section
variable {P : Program} {w : World} {K : PySem.W.Frag} {mg : Str → Option Value} {base : Heap} {f : Addr} {fd : FuncData} {D_HallError D_NoHall D_NoPlayer D_NoRing D_NoRow D_Unlike D_NoNote : Addr}
theorem sc_law : FnScope ["script", "text", "way", "at", "sign", "due", "found", "which", "e"] ["script"] (defScope s_law) := ⟨rfl, rfl, rfl, by decide +kernel, rfl, by decide +kernel, by decide +kernel⟩
set_option maxHeartbeats 0 in
theorem ok_law (F : Fun K "law" "law" s_law f fd) (z : Blt mg) (O_HallError : OwnE mg base "HallError" D_HallError) (UN : Under base D_NoNote D_HallError) (WN : Which K D_NoHall D_NoPlayer D_NoRing D_NoRow D_Unlike D_NoNote D_NoNote [false, false, false, false, false, true] 5)
    (C_law_cell : Has P w K mg base 1 "_law_cell" ["script", "k"] (spCell K)) (C_law_hall : Has P w K mg base 3 "_law_hall" ["script", "k", "many"] (spHall K)) (C_law_written : Has P w K mg base 1 "_law_written" ["hall"] (spWritten K))
    (C_law_sign : Has P w K mg base 1 "_law_sign" ["cell", "way"] (spSignL K)) (C_law_odd : Has P w K mg base 1 "_law_odd" ["cell"] (spOddL K)) (C_law_due : Has P w K mg base 1 "_law_due" ["text"] (spDue K))
    (CE_read : HasE P w K mg base 3 "read" ["text"] (spReadE K D_NoNote)) (C_law_which : HasM P w K mg base 1 "_law_which" ["e"] (spWhich K D_NoHall D_NoPlayer D_NoRing D_NoRow D_Unlike D_NoNote))
    (C_law_lists_like : Has P w K mg base 2 "_law_lists_like" ["found", "due"] (spLike K)) : FnOk P w K mg base CX0 4 f fd ["script"] (spLaw K) := by
  refine F.ok sc_law (fun vs H Q E h => ?_) (fun cdv A outer s H vs Q E hr h => ?_)
  · obtain ⟨a, ns, rfl, _⟩ := h
    rfl
  obtain ⟨a, ns, rfl, hS, h63, q⟩ := h
  have nd := sc_law.nd
  refine ⟨_, (pss_cons (ps_set (i := 1) nd rfl (by first | exact Or.inl rfl | exact Or.inr rfl) (pe_callH C_law_written (hr.mono (by decide)) rfl (pa_cons (pe_callH C_law_hall (hr.mono (by decide)) rfl (pa_cons (pv 0) (pa_cons pe_int (pa_cons (pe_op op_add pe_int (pe_op op_mod (pe_callH C_law_cell (hr.mono (by decide)) rfl (pa_cons (pv 0) (pa_cons pe_int pa_nil))) pe_int)) pa_nil)))) pa_nil)))
  (pss_cons (ps_set (i := 2) nd rfl (by first | exact Or.inl rfl | exact Or.inr rfl) (pe_op op_mod (pe_callH C_law_cell (hr.mono (by decide)) rfl (pa_cons (pv 0) (pa_cons pe_int pa_nil))) pe_int))
  (pss_cons (ps_set (i := 3) nd rfl (by first | exact Or.inl rfl | exact Or.inr rfl) (pe_op op_mod (pe_callH C_law_cell (hr.mono (by decide)) rfl (pa_cons (pv 0) (pa_cons pe_int pa_nil))) (pe_callB call_len_str rfl z.len (by decide +kernel) (pa_cons (pv 1) pa_nil))))
  (pss_cons (ps_set (i := 4) nd rfl (by first | exact Or.inl rfl | exact Or.inr rfl) (pe_callH C_law_sign (hr.mono (by decide)) rfl (pa_cons (pe_callH C_law_cell (hr.mono (by decide)) rfl (pa_cons (pv 0) (pa_cons pe_int pa_nil))) (pa_cons (pe_callH C_law_cell (hr.mono (by decide)) rfl (pa_cons (pv 0) (pa_cons pe_int pa_nil))) pa_nil))))
  (pss_cons (ps_join (ps_if (pt_cmpR op_eq (pv 2) pe_int (nomark _)) (pss_one (ps_set (i := 1) nd rfl (by first | exact Or.inl rfl | exact Or.inr rfl) (pe_op op_add_str (pe_slice sl_str (pv 1) po_none (po_some (pv 3))) (pe_slice sl_str (pv 1) (po_some (pe_op op_add (pv 3) pe_int)) po_none)))) pss_nil))
  (pss_cons (ps_join (ps_if (pt_cmpR op_eq (pv 2) pe_int (nomark _)) (pss_one (ps_set (i := 1) nd rfl (by first | exact Or.inl rfl | exact Or.inr rfl) (pe_op op_add_str (pe_op op_add_str (pe_slice sl_str (pv 1) po_none (po_some (pv 3))) (pv 4)) (pe_slice sl_str (pv 1) (po_some (pv 3)) po_none)))) pss_nil))
  (pss_cons (ps_join (ps_if (pt_cmpR op_eq (pv 2) pe_int (nomark _)) (pss_one (ps_set (i := 1) nd rfl (by first | exact Or.inl rfl | exact Or.inr rfl) (pe_op op_add_str (pe_op op_add_str (pe_slice sl_str (pv 1) po_none (po_some (pv 3))) (pv 4)) (pe_slice sl_str (pv 1) (po_some (pe_op op_add (pv 3) pe_int)) po_none)))) pss_nil))
  (pss_cons (ps_join (ps_if (pt_cmpR op_eq (pe_op op_mod (pe_callH C_law_cell (hr.mono (by decide)) rfl (pa_cons (pv 0) (pa_cons pe_int pa_nil))) pe_int) pe_int (nomark _)) (pss_one (ps_set (i := 1) nd rfl (by first | exact Or.inl rfl | exact Or.inr rfl) (pe_callH C_law_odd (hr.mono (by decide)) rfl (pa_cons (pe_callH C_law_cell (hr.mono (by decide)) rfl (pa_cons (pv 0) (pa_cons pe_int pa_nil))) pa_nil)))) pss_nil))
  (pss_cons (ps_set (i := 5) nd rfl (by first | exact Or.inl rfl | exact Or.inr rfl) (pe_callH C_law_due (hr.mono (by decide)) rfl (pa_cons (pv 1) pa_nil)))
  (pss_cons (ps_set (i := 6) nd rfl (by first | exact Or.inl rfl | exact Or.inr rfl) pe_non)
  (pss_cons (ps_set (i := 7) nd rfl (by first | exact Or.inl rfl | exact Or.inr rfl) (pe_un un_neg pe_int))
  (pss_cons (ps_tryS (j := 6) (i := 8) CE_read (hr.mono (by decide)) rfl (fun _ => (pa_cons (pv 1) pa_nil)) rfl rfl nd rfl rfl rfl rfl rfl O_HallError (fun _ => (pss_one (ps_set (i := 7) nd rfl (by first | exact Or.inl rfl | exact Or.inr rfl) (pe_callM C_law_which (RoomM.mark (Room.toM (hr.mono (by decide)))) rfl (pa_cons (pv 8) pa_nil))))))
  (pss_cons (ps_if (pt_cmp (pc_isN (pv 5))) (pss_one (ps_ret (pe_and (pe_cmp (pc_isN (pv 6))) (pe_one (pe_cmpR op_eq (pv 7) pe_int (nomark _)))))) pss_nil)
  (pss_one (ps_ret (pe_and (pe_cmpR op_eq (pv 7) (pe_un un_neg pe_int) (nomark _)) (pe_one (pe_callH C_law_lists_like (hr.mono (by decide)) rfl (pa_cons (pv 6) (pa_cons (pv 5) pa_nil)))))))))))))))))))), ?_⟩
  have c1 := Int.emod_lt_of_pos (cell ns 0) (show (0 : Int) < 12 by decide)
  have c0 := Int.emod_nonneg (cell ns 0) (show (12 : Int) ≠ 0 by decide)
  refine ⟨_, rfl, _, rfl, a, ns, _, rfl, hS, by decide, by decide, _, _, rfl, rfl, (by show (0 : Int) < _; decide), _, _, rfl, rfl, a, ns, _, _, rfl, hS, by decide, by decide, by omega, by omega, fun p as rows H1 N1 IH hlen => ?_⟩
  refine ⟨p, rows, rfl, N1.at_.rd, IH, ?_⟩
  have hS1 := N1.same.seq hS
  obtain ⟨ok0, pos0⟩ := note_ok IH
  rw [txt_of (note rows)]
  generalize (note rows).cps.toList = l0 at ok0 pos0
  have lz : ∀ {n : Nat} {l : List Nat}, OkT n l → n ≤ 1000 → (txt l).length ≤ sizeLine := fun h hn => by rw [txt_len]; exact small (Nat.le_trans h.1 hn)
  -- way, at, sign
  refine ⟨_, rfl, a, ns, _, rfl, hS1, by decide, by decide, _, _, rfl, rfl, (by show (0 : Int) < _; decide), ?_⟩
  obtain ⟨W, eW⟩ : ∃ W, cell ns 4 % 4 = W := ⟨_, rfl⟩
  rw [show (fun (i j : Int) => V.int (i % j)) (cell ns 4) 4 = V.int W from congrArg V.int eW]
  refine ⟨_, rfl, a, ns, _, rfl, hS1, by decide, by decide, _, rfl, _, rfl, lz ok0 (by decide), _, _, rfl, rfl, (by show (0 : Int) < ((txt l0).length : Int); rw [txt_len]; omega), ?_⟩
  obtain ⟨x, ex⟩ : ∃ x, cell ns 5 % ((txt l0).length : Int) = x := ⟨_, rfl⟩
  rw [show (fun (i j : Int) => V.int (i % j)) (cell ns 5) ((txt l0).length : Int) = V.int x from congrArg V.int ex]
  refine ⟨_, rfl, a, ns, _, rfl, hS1, by decide, by decide, _, rfl, a, ns, _, rfl, hS1, by decide, by decide, _, _, rfl, fun ch hch => ?_⟩
  -- a sign out
  refine ⟨fun σ' H' => ∃ l : List Nat, OkT 138 l ∧ H1 = H' ∧ σ' = [some (.ref a), some (.str (txt l)), some (.int W), some (.int x), some (.str (txt [ch])), none, none, none, none], ?_, ?_⟩
  · refine ⟨_, rfl, rfl, _, rfl, ite2 (fun c => ?_) fun c => ⟨l0, ⟨by have := ok0.1; omega, ok0.2⟩, rfl, rfl⟩⟩
    have ok1 := ok_two ok0 none (some x) (some (x + 1)) none
    refine ⟨_, rfl, _, rfl, _, rfl, l0, rfl, small (by have := ok0.1; omega), _, rfl, _, rfl, _, _, rfl, rfl, _, rfl, l0, rfl, small (by have := ok0.1; omega), _, _, rfl, rfl, ?_, ?_⟩
    · rw [← app_len, txt_app]; exact lz ok1 (by decide)
    · rw [txt_app]
      exact ⟨_, ok1, rfl, rfl⟩
  rintro σ' H' ⟨l1, ok1, rfl, rfl⟩
  -- a sign in
  refine ⟨fun σ' H' => ∃ l : List Nat, OkT 277 l ∧ H1 = H' ∧ σ' = [some (.ref a), some (.str (txt l)), some (.int W), some (.int x), some (.str (txt [ch])), none, none, none, none], ?_, ?_⟩
  · refine ⟨_, rfl, rfl, _, rfl, ite2 (fun c => ?_) fun c => ⟨l1, ⟨by have := ok1.1; omega, ok1.2⟩, rfl, rfl⟩⟩
    have ok2 := ok_three ok1 hch none (some x) (some x) none
    refine ⟨_, rfl, _, rfl, _, rfl, l1, rfl, small (by have := ok1.1; omega), _, rfl, _, _, rfl, rfl, ?_, _, rfl, _, rfl, _, rfl, l1, rfl, small (by have := ok1.1; omega), _, _, rfl, rfl, ?_, ?_⟩
    · have := cutN_len l1 none (some x)
      have := ok1.1
      rw [txt_len, txt_len]
      exact small (by simp; omega)
    · rw [txt_app, ← app_len, txt_app]; exact lz ok2 (by decide)
    · rw [txt_app, txt_app]
      exact ⟨_, ok2, rfl, rfl⟩
  rintro σ' H' ⟨l2, ok2, rfl, rfl⟩
  -- a sign for another
  refine ⟨fun σ' H' => ∃ l : List Nat, OkT 555 l ∧ H1 = H' ∧ σ' = [some (.ref a), some (.str (txt l)), some (.int W), some (.int x), some (.str (txt [ch])), none, none, none, none], ?_, ?_⟩
  · refine ⟨_, rfl, rfl, _, rfl, ite2 (fun c => ?_) fun c => ⟨l2, ⟨by have := ok2.1; omega, ok2.2⟩, rfl, rfl⟩⟩
    have ok3 := ok_three ok2 hch none (some x) (some (x + 1)) none
    refine ⟨_, rfl, _, rfl, _, rfl, l2, rfl, small (by have := ok2.1; omega), _, rfl, _, _, rfl, rfl, ?_, _, rfl, _, rfl, _, _, rfl, rfl, _, rfl, l2, rfl, small (by have := ok2.1; omega), _, _, rfl, rfl, ?_, ?_⟩
    · have := cutN_len l2 none (some x)
      have := ok2.1
      rw [txt_len, txt_len]
      exact small (by simp; omega)
    · rw [txt_app, ← app_len, txt_app]; exact lz ok3 (by decide)
    · rw [txt_app, txt_app]
      exact ⟨_, ok3, rfl, rfl⟩
  rintro σ' H' ⟨l3, ok3, rfl, rfl⟩
  -- an odd one
  refine ⟨fun σ' H' => ∃ l : List Nat, OkT 555 l ∧ Same H1 H' ∧ σ' = [some (.ref a), some (.str (txt l)), some (.int W), some (.int x), some (.str (txt [ch])), none, none, none, none], ?_, ?_⟩
  · refine ⟨_, rfl, a, ns, _, rfl, hS1, by decide, by decide, _, _, rfl, rfl, (by show (0 : Int) < _; decide), rfl, _, rfl, ite2 (fun c => ?_) fun c => ⟨l3, ok3, Same.refl _, rfl⟩⟩
    exact ⟨_, rfl, a, ns, _, rfl, hS1, by decide, by decide, _, rfl, fun l H' s' h1 h2 => ⟨l, ⟨by omega, h2⟩, s', rfl⟩⟩
  rintro σ' H2 ⟨l, ok, s2, rfl⟩
  have ll : l.length ≤ 1000 := by have := ok.1; omega
  by_cases Wx : ∃ n sg, Wr l n sg
  · obtain ⟨n, sg, W0⟩ := Wx
    refine ⟨_, rfl, l, rfl, ll, ok.2, fun n' sg' W1 p2 as2 r2 H3 N3 S3 => ?_, fun no => absurd W0 (no n sg)⟩
    obtain ⟨e1, e2⟩ := wr_uniq W1 W0
    subst e1 e2
    refine ⟨_, rfl, ?_⟩
    refine ⟨_, rfl, l, rfl, ll, fun n2 sg2 W2 p4 as4 r4 H4 N4 S4 => ?_, fun no => absurd W0 (no n' sg')⟩
    obtain ⟨e1, e2⟩ := wr_uniq W2 W0
    subst e1 e2
    have er := S4.uniq S3
    subst er
    obtain ⟨rl, rz⟩ := srt_lens W0.hi S3
    have := W0.hi
    refine ⟨_, rfl, _, rfl, ?_⟩
    rw [decide_eq_false (by intro z; cases z)]
    refine iteF ⟨_, rfl, _, rfl, rfl, _, rfl, ?_⟩
    rw [decide_eq_true rfl]
    exact iteT ⟨_, rfl, _, rfl, p4, p2, as4, as2, r4, rfl, N4.at_, N3.at_.same N4.same, by omega, rz, fun H5 s5 => q H5⟩
  · have no : ∀ n sg, ¬ Wr l n sg := fun n sg W0 => Wx ⟨n, sg, W0⟩
    refine ⟨_, rfl, l, rfl, ll, ok.2, fun n sg W0 => absurd W0 (no n sg), fun _ H3 s3 => ?_⟩
    refine ⟨_, rfl, ?_⟩
    refine ⟨_, rfl, l, rfl, ll, fun n sg W0 => absurd W0 (no n sg), fun _ H4 s4 => ⟨D_NoNote, rfl, UN, fun ea hea => ?_⟩⟩
    have sE := same_new hea (ExcOb ea D_NoNote)
    refine ⟨_, rfl, ea, D_NoNote, _, 5, rfl, upd_same, WN, fun H6 s6 => ?_⟩
    refine ⟨_, rfl, _, rfl, ?_⟩
    rw [decide_eq_true rfl]
    refine iteT ⟨_, rfl, _, rfl, ?_⟩
    rw [decide_eq_true rfl]
    refine iteT ⟨_, rfl, rfl, ?_⟩
    rw [decide_eq_true (show V.int ((5 : Nat) : Int) = V.int 5 from rfl)]
    exact q _
end
theorem all_mk {l : PySem.W.OpenLaw} {w : World} {K : PySem.W.Frag} {h : Heap} {mg : Str → Option Value} {fa f1 f2 f3 f4 f5 f6 f7 f8 f9 f10 f11 f12 f13 f14 f15 f16 f17 : Addr} (X : K.In h) (G : h.Ns mainGlobals mg) (hfa : mg "law" = some (.ref fa))
    {od1 an1 od2 an2 od3 an3 od4 an4 od5 an5 od6 an6 od7 an7 od8 an8 od9 an9 od10 an10 od11 an11 od12 an12 od13 an13 od14 an14 od15 an15 od16 an16 od17 an17 : Option Addr} {sl1 sl2 sl3 sl4 sl5 sl6 sl7 sl8 sl9 sl10 sl11 sl12 sl13 sl14 sl15 sl16 sl17 : Array (Option Value)} {oc1 kV1 dc1 pm1 cd1 ct1 oc2 kV2 dc2 pm2 cd2 ct2 oc3 kV3 dc3 pm3 cd3 ct3 oc4 kV4 dc4 pm4 cd4 ct4 oc5 kV5 dc5 pm5 cd5 ct5 oc6 kV6 dc6 pm6 cd6 ct6 oc7 kV7 dc7 pm7 cd7 ct7 oc8 kV8 dc8 pm8 cd8 ct8 oc9 kV9 dc9 pm9 cd9 ct9 oc10 kV10 dc10 pm10 cd10 ct10 oc11 kV11 dc11 pm11 cd11 ct11 oc12 kV12 dc12 pm12 cd12 ct12 oc13 kV13 dc13 pm13 cd13 ct13 oc14 kV14 dc14 pm14 cd14 ct14 oc15 kV15 dc15 pm15 cd15 ct15 oc16 kV16 dc16 pm16 cd16 ct16 oc17 kV17 dc17 pm17 cd17 ct17 : Value}
    {tk_MOST_PLAYERS : Tok} (g_MOST_PLAYERS : PySem.W.nsIn K mainGlobals "MOST_PLAYERS" = some (some (.int 12 tk_MOST_PLAYERS)))
    (a1 : PySem.W.nsIn K mainGlobals "beginning_for" = some (some (.ref f1))) (l1 : K.lookup f1 = some ⟨oc1, od1, .func (PySem.W.fnOf "beginning_for" "beginning_for" (defArgs s_beginning_for) (defBody s_beginning_for) (defScope s_beginning_for) .none kV1 dc1 pm1 an1 cd1 ct1), sl1⟩) (c1 : PySem.W.codeIn K cd1 "beginning_for" = true) (k1 : PySem.W.keepIn K (.ref f1) = true)
    (a2 : PySem.W.nsIn K mainGlobals "pairs_of" = some (some (.ref f2))) (l2 : K.lookup f2 = some ⟨oc2, od2, .func (PySem.W.fnOf "pairs_of" "pairs_of" (defArgs s_pairs_of) (defBody s_pairs_of) (defScope s_pairs_of) .none kV2 dc2 pm2 an2 cd2 ct2), sl2⟩) (c2 : PySem.W.codeIn K cd2 "pairs_of" = true) (k2 : PySem.W.keepIn K (.ref f2) = true)
    (a3 : PySem.W.nsIn K mainGlobals "read" = some (some (.ref f3))) (l3 : K.lookup f3 = some ⟨oc3, od3, .func (PySem.W.fnOf "read" "read" (defArgs s_read) (defBody s_read) (defScope s_read) .none kV3 dc3 pm3 an3 cd3 ct3), sl3⟩) (c3 : PySem.W.codeIn K cd3 "read" = true) (k3 : PySem.W.keepIn K (.ref f3) = true)
    (a4 : PySem.W.nsIn K mainGlobals "hall_of" = some (some (.ref f4))) (l4 : K.lookup f4 = some ⟨oc4, od4, .func (PySem.W.fnOf "hall_of" "hall_of" (defArgs s_hall_of) (defBody s_hall_of) (defScope s_hall_of) .none kV4 dc4 pm4 an4 cd4 ct4), sl4⟩) (c4 : PySem.W.codeIn K cd4 "hall_of" = true) (k4 : PySem.W.keepIn K (.ref f4) = true)
    (a5 : PySem.W.nsIn K mainGlobals "_law_cell" = some (some (.ref f5))) (l5 : K.lookup f5 = some ⟨oc5, od5, .func (PySem.W.fnOf "_law_cell" "_law_cell" (defArgs s_law_cell) (defBody s_law_cell) (defScope s_law_cell) .none kV5 dc5 pm5 an5 cd5 ct5), sl5⟩) (c5 : PySem.W.codeIn K cd5 "_law_cell" = true) (k5 : PySem.W.keepIn K (.ref f5) = true)
    (a6 : PySem.W.nsIn K mainGlobals "_law_ints" = some (some (.ref f6))) (l6 : K.lookup f6 = some ⟨oc6, od6, .func (PySem.W.fnOf "_law_ints" "_law_ints" (defArgs s_law_ints) (defBody s_law_ints) (defScope s_law_ints) .none kV6 dc6 pm6 an6 cd6 ct6), sl6⟩) (c6 : PySem.W.codeIn K cd6 "_law_ints" = true) (k6 : PySem.W.keepIn K (.ref f6) = true)
    (a7 : PySem.W.nsIn K mainGlobals "_law_lists_like" = some (some (.ref f7))) (l7 : K.lookup f7 = some ⟨oc7, od7, .func (PySem.W.fnOf "_law_lists_like" "_law_lists_like" (defArgs s_law_lists_like) (defBody s_law_lists_like) (defScope s_law_lists_like) .none kV7 dc7 pm7 an7 cd7 ct7), sl7⟩) (c7 : PySem.W.codeIn K cd7 "_law_lists_like" = true) (k7 : PySem.W.keepIn K (.ref f7) = true)
    (a8 : PySem.W.nsIn K mainGlobals "_law_next" = some (some (.ref f8))) (l8 : K.lookup f8 = some ⟨oc8, od8, .func (PySem.W.fnOf "_law_next" "_law_next" (defArgs s_law_next) (defBody s_law_next) (defScope s_law_next) .none kV8 dc8 pm8 an8 cd8 ct8), sl8⟩) (c8 : PySem.W.codeIn K cd8 "_law_next" = true) (k8 : PySem.W.keepIn K (.ref f8) = true)
    (a9 : PySem.W.nsIn K mainGlobals "_law_order" = some (some (.ref f9))) (l9 : K.lookup f9 = some ⟨oc9, od9, .func (PySem.W.fnOf "_law_order" "_law_order" (defArgs s_law_order) (defBody s_law_order) (defScope s_law_order) .none kV9 dc9 pm9 an9 cd9 ct9), sl9⟩) (c9 : PySem.W.codeIn K cd9 "_law_order" = true) (k9 : PySem.W.keepIn K (.ref f9) = true)
    (a10 : PySem.W.nsIn K mainGlobals "_law_first_wins" = some (some (.ref f10))) (l10 : K.lookup f10 = some ⟨oc10, od10, .func (PySem.W.fnOf "_law_first_wins" "_law_first_wins" (defArgs s_law_first_wins) (defBody s_law_first_wins) (defScope s_law_first_wins) .none kV10 dc10 pm10 an10 cd10 ct10), sl10⟩) (c10 : PySem.W.codeIn K cd10 "_law_first_wins" = true) (k10 : PySem.W.keepIn K (.ref f10) = true)
    (a11 : PySem.W.nsIn K mainGlobals "_law_hall" = some (some (.ref f11))) (l11 : K.lookup f11 = some ⟨oc11, od11, .func (PySem.W.fnOf "_law_hall" "_law_hall" (defArgs s_law_hall) (defBody s_law_hall) (defScope s_law_hall) .none kV11 dc11 pm11 an11 cd11 ct11), sl11⟩) (c11 : PySem.W.codeIn K cd11 "_law_hall" = true) (k11 : PySem.W.keepIn K (.ref f11) = true)
    (a12 : PySem.W.nsIn K mainGlobals "_law_which" = some (some (.ref f12))) (l12 : K.lookup f12 = some ⟨oc12, od12, .func (PySem.W.fnOf "_law_which" "_law_which" (defArgs s_law_which) (defBody s_law_which) (defScope s_law_which) .none kV12 dc12 pm12 an12 cd12 ct12), sl12⟩) (c12 : PySem.W.codeIn K cd12 "_law_which" = true) (k12 : PySem.W.keepIn K (.ref f12) = true)
    (a13 : PySem.W.nsIn K mainGlobals "_law_written" = some (some (.ref f13))) (l13 : K.lookup f13 = some ⟨oc13, od13, .func (PySem.W.fnOf "_law_written" "_law_written" (defArgs s_law_written) (defBody s_law_written) (defScope s_law_written) .none kV13 dc13 pm13 an13 cd13 ct13), sl13⟩) (c13 : PySem.W.codeIn K cd13 "_law_written" = true) (k13 : PySem.W.keepIn K (.ref f13) = true)
    (a14 : PySem.W.nsIn K mainGlobals "_law_due" = some (some (.ref f14))) (l14 : K.lookup f14 = some ⟨oc14, od14, .func (PySem.W.fnOf "_law_due" "_law_due" (defArgs s_law_due) (defBody s_law_due) (defScope s_law_due) .none kV14 dc14 pm14 an14 cd14 ct14), sl14⟩) (c14 : PySem.W.codeIn K cd14 "_law_due" = true) (k14 : PySem.W.keepIn K (.ref f14) = true)
    (a15 : PySem.W.nsIn K mainGlobals "_law_sign" = some (some (.ref f15))) (l15 : K.lookup f15 = some ⟨oc15, od15, .func (PySem.W.fnOf "_law_sign" "_law_sign" (defArgs s_law_sign) (defBody s_law_sign) (defScope s_law_sign) .none kV15 dc15 pm15 an15 cd15 ct15), sl15⟩) (c15 : PySem.W.codeIn K cd15 "_law_sign" = true) (k15 : PySem.W.keepIn K (.ref f15) = true)
    (a16 : PySem.W.nsIn K mainGlobals "_law_odd" = some (some (.ref f16))) (l16 : K.lookup f16 = some ⟨oc16, od16, .func (PySem.W.fnOf "_law_odd" "_law_odd" (defArgs s_law_odd) (defBody s_law_odd) (defScope s_law_odd) .none kV16 dc16 pm16 an16 cd16 ct16), sl16⟩) (c16 : PySem.W.codeIn K cd16 "_law_odd" = true) (k16 : PySem.W.keepIn K (.ref f16) = true)
    (a17 : PySem.W.nsIn K mainGlobals "law" = some (some (.ref f17))) (l17 : K.lookup f17 = some ⟨oc17, od17, .func (PySem.W.fnOf "law" "law" (defArgs s_law) (defBody s_law) (defScope s_law) .none kV17 dc17 pm17 an17 cd17 ct17), sl17⟩) (c17 : PySem.W.codeIn K cd17 "law" = true) (k17 : PySem.W.keepIn K (.ref f17) = true)
    {D_HallError D_NoHall D_NoPlayer D_NoRing D_NoRow D_Unlike D_NoNote : Addr} {cd_HallError cd_NoHall cd_NoPlayer cd_NoRing cd_NoRow cd_Unlike cd_NoNote : ClassData}
    (n_HallError : PySem.W.nsIn K mainGlobals "HallError" = some (some (.ref D_HallError)))
    (cl_HallError : PySem.W.clsIn K D_HallError = some cd_HallError)
    (ty_HallError : PySem.W.typeIn K (.ref D_HallError) = some (.type "type"))
    (ex_HallError : PySem.W.excIn K D_HallError bmVE "ValueError.__new__" = true)
    (n_NoHall : PySem.W.nsIn K mainGlobals "NoHall" = some (some (.ref D_NoHall)))
    (cl_NoHall : PySem.W.clsIn K D_NoHall = some cd_NoHall)
    (ty_NoHall : PySem.W.typeIn K (.ref D_NoHall) = some (.type "type"))
    (n_NoPlayer : PySem.W.nsIn K mainGlobals "NoPlayer" = some (some (.ref D_NoPlayer)))
    (cl_NoPlayer : PySem.W.clsIn K D_NoPlayer = some cd_NoPlayer)
    (ty_NoPlayer : PySem.W.typeIn K (.ref D_NoPlayer) = some (.type "type"))
    (n_NoRing : PySem.W.nsIn K mainGlobals "NoRing" = some (some (.ref D_NoRing)))
    (cl_NoRing : PySem.W.clsIn K D_NoRing = some cd_NoRing)
    (ty_NoRing : PySem.W.typeIn K (.ref D_NoRing) = some (.type "type"))
    (n_NoRow : PySem.W.nsIn K mainGlobals "NoRow" = some (some (.ref D_NoRow)))
    (cl_NoRow : PySem.W.clsIn K D_NoRow = some cd_NoRow)
    (ty_NoRow : PySem.W.typeIn K (.ref D_NoRow) = some (.type "type"))
    (n_Unlike : PySem.W.nsIn K mainGlobals "Unlike" = some (some (.ref D_Unlike)))
    (cl_Unlike : PySem.W.clsIn K D_Unlike = some cd_Unlike)
    (ty_Unlike : PySem.W.typeIn K (.ref D_Unlike) = some (.type "type"))
    (n_NoNote : PySem.W.nsIn K mainGlobals "NoNote" = some (some (.ref D_NoNote)))
    (cl_NoNote : PySem.W.clsIn K D_NoNote = some cd_NoNote)
    (ty_NoNote : PySem.W.typeIn K (.ref D_NoNote) = some (.type "type"))
    (ex_NoNote : PySem.W.excIn K D_NoNote bmVE "ValueError.__new__" = true)
    (m_NoNote_HallError : PySem.W.mroIn K D_NoNote (.ref D_HallError) = some true)
    (m_NoNote_NoHall : PySem.W.mroIn K D_NoNote (.ref D_NoHall) = some false)
    (m_NoNote_NoPlayer : PySem.W.mroIn K D_NoNote (.ref D_NoPlayer) = some false)
    (m_NoNote_NoRing : PySem.W.mroIn K D_NoNote (.ref D_NoRing) = some false)
    (m_NoNote_NoRow : PySem.W.mroIn K D_NoNote (.ref D_NoRow) = some false)
    (m_NoNote_Unlike : PySem.W.mroIn K D_NoNote (.ref D_Unlike) = some false)
    (m_NoNote_NoNote : PySem.W.mroIn K D_NoNote (.ref D_NoNote) = some true)
    (m_NoNote_ValueError : PySem.W.mroIn K D_NoNote (.type "ValueError") = some true)
    (m_NoNote_object : PySem.W.mroIn K D_NoNote (.type "object") = some true)
    (m_NoNote_BaseException : PySem.W.mroIn K D_NoNote (.type "BaseException") = some true)
    (ga_NoNote : PySem.W.findIn K (.ref D_NoNote) "__getattribute__" = some (some (.builtin "BaseException.__getattribute__")))
    (gh_NoNote : PySem.W.findIn K (.ref D_NoNote) "__getattr__" = some none)
    (gc_NoNote : PySem.W.findIn K (.ref D_NoNote) "__class__" = some (some (.builtin "object.__class__")))
    (gt_ : PySem.W.specialIn K (.builtin "object.__class__") "__get__" = some (some (.builtin "getset_descriptor.__get__")))
    (tk_ : PySem.W.takesIn K (.builtin "object.__class__") = some true)
    (z1 : PySem.W.nsIn K mainGlobals "len" = some none)
    (z2 : PySem.W.nsIn K mainGlobals "range" = some none)
    (z3 : PySem.W.nsIn K mainGlobals "sorted" = some none)
    (z4 : PySem.W.nsIn K mainGlobals "list" = some none)
    (z5 : PySem.W.nsIn K mainGlobals "isinstance" = some none)
    (z6 : PySem.W.nsIn K mainGlobals "bool" = some none)
    (z7 : PySem.W.nsIn K mainGlobals "int" = some none)
    (z8 : PySem.W.nsIn K mainGlobals "enumerate" = some none)
    (z9 : PySem.W.nsIn K mainGlobals "all" = some none)
    (z10 : PySem.W.nsIn K mainGlobals "sum" = some none)
    (z11 : PySem.W.nsIn K mainGlobals "set" = some none)
    (z12 : PySem.W.nsIn K mainGlobals "max" = some none)
    (z13 : PySem.W.nsIn K mainGlobals "zip" = some none)
    (z14 : PySem.W.nsIn K mainGlobals "str" = some none)
    (z15 : PySem.W.nsIn K mainGlobals "any" = some none)
    (z16 : PySem.W.nsIn K mainGlobals "ValueError" = some none) :
    ∃ fd : FuncData, (∀ (s : Shared) (v : Value), BindsTo s fd ⟨[v], []⟩ [("script", v)]) ∧ ∀ base : Heap, K.In base → base.Ns mainGlobals mg → FnOk l.prog w K mg base CX0 4 fa fd ["script"] (spLaw K) := by
  have e := hfa.symm.trans (PySem.W.mg_of X G a17)
  cases e
  have F_beginning_for := fun_mk (st := s_beginning_for) l1 c1 k1
  have b_beginning_for := F_beginning_for.binds (ps := ["many"]) fun _ _ _ _ _ _ us hl => match us, hl with | [_], _ => rfl
  have m_beginning_for := PySem.W.mg_of X G a1
  have F_pairs_of := fun_mk (st := s_pairs_of) l2 c2 k2
  have b_pairs_of := F_pairs_of.binds (ps := ["many"]) fun _ _ _ _ _ _ us hl => match us, hl with | [_], _ => rfl
  have m_pairs_of := PySem.W.mg_of X G a2
  have F_read := fun_mk (st := s_read) l3 c3 k3
  have b_read := F_read.binds (ps := ["text"]) fun _ _ _ _ _ _ us hl => match us, hl with | [_], _ => rfl
  have m_read := PySem.W.mg_of X G a3
  have F_hall_of := fun_mk (st := s_hall_of) l4 c4 k4
  have b_hall_of := F_hall_of.binds (ps := ["many", "signs"]) fun _ _ _ _ _ _ us hl => match us, hl with | [_, _], _ => rfl
  have m_hall_of := PySem.W.mg_of X G a4
  have F_law_cell := fun_mk (st := s_law_cell) l5 c5 k5
  have b_law_cell := F_law_cell.binds (ps := ["script", "k"]) fun _ _ _ _ _ _ us hl => match us, hl with | [_, _], _ => rfl
  have m_law_cell := PySem.W.mg_of X G a5
  have F_law_ints := fun_mk (st := s_law_ints) l6 c6 k6
  have b_law_ints := F_law_ints.binds (ps := ["found", "due"]) fun _ _ _ _ _ _ us hl => match us, hl with | [_, _], _ => rfl
  have m_law_ints := PySem.W.mg_of X G a6
  have F_law_lists_like := fun_mk (st := s_law_lists_like) l7 c7 k7
  have b_law_lists_like := F_law_lists_like.binds (ps := ["found", "due"]) fun _ _ _ _ _ _ us hl => match us, hl with | [_, _], _ => rfl
  have m_law_lists_like := PySem.W.mg_of X G a7
  have F_law_next := fun_mk (st := s_law_next) l8 c8 k8
  have b_law_next := F_law_next.binds (ps := ["step"]) fun _ _ _ _ _ _ us hl => match us, hl with | [_], _ => rfl
  have m_law_next := PySem.W.mg_of X G a8
  have F_law_order := fun_mk (st := s_law_order) l9 c9 k9
  have b_law_order := F_law_order.binds (ps := ["script", "k", "many"]) fun _ _ _ _ _ _ us hl => match us, hl with | [_, _, _], _ => rfl
  have m_law_order := PySem.W.mg_of X G a9
  have F_law_first_wins := fun_mk (st := s_law_first_wins) l10 c10 k10
  have b_law_first_wins := F_law_first_wins.binds (ps := ["way", "one", "other", "many", "step"]) fun _ _ _ _ _ _ us hl => match us, hl with | [_, _, _, _, _], _ => rfl
  have m_law_first_wins := PySem.W.mg_of X G a10
  have F_law_hall := fun_mk (st := s_law_hall) l11 c11 k11
  have b_law_hall := F_law_hall.binds (ps := ["script", "k", "many"]) fun _ _ _ _ _ _ us hl => match us, hl with | [_, _, _], _ => rfl
  have m_law_hall := PySem.W.mg_of X G a11
  have F_law_which := fun_mk (st := s_law_which) l12 c12 k12
  have b_law_which := F_law_which.binds (ps := ["e"]) fun _ _ _ _ _ _ us hl => match us, hl with | [_], _ => rfl
  have m_law_which := PySem.W.mg_of X G a12
  have F_law_written := fun_mk (st := s_law_written) l13 c13 k13
  have b_law_written := F_law_written.binds (ps := ["hall"]) fun _ _ _ _ _ _ us hl => match us, hl with | [_], _ => rfl
  have m_law_written := PySem.W.mg_of X G a13
  have F_law_due := fun_mk (st := s_law_due) l14 c14 k14
  have b_law_due := F_law_due.binds (ps := ["text"]) fun _ _ _ _ _ _ us hl => match us, hl with | [_], _ => rfl
  have m_law_due := PySem.W.mg_of X G a14
  have F_law_sign := fun_mk (st := s_law_sign) l15 c15 k15
  have b_law_sign := F_law_sign.binds (ps := ["cell", "way"]) fun _ _ _ _ _ _ us hl => match us, hl with | [_, _], _ => rfl
  have m_law_sign := PySem.W.mg_of X G a15
  have F_law_odd := fun_mk (st := s_law_odd) l16 c16 k16
  have b_law_odd := F_law_odd.binds (ps := ["cell"]) fun _ _ _ _ _ _ us hl => match us, hl with | [_], _ => rfl
  have m_law_odd := PySem.W.mg_of X G a16
  have F_law := fun_mk (st := s_law) l17 c17 k17
  have b_law := F_law.binds (ps := ["script"]) fun _ _ _ _ _ _ us hl => match us, hl with | [_], _ => rfl
  have m_law := PySem.W.mg_of X G a17
  have z : Blt mg := ⟨PySem.W.mg_none_of X G z1, PySem.W.mg_none_of X G z2, PySem.W.mg_none_of X G z3, PySem.W.mg_none_of X G z4, PySem.W.mg_none_of X G z5, PySem.W.mg_none_of X G z6, PySem.W.mg_none_of X G z7, PySem.W.mg_none_of X G z8, PySem.W.mg_none_of X G z9, PySem.W.mg_none_of X G z10, PySem.W.mg_none_of X G z11, PySem.W.mg_none_of X G z12, PySem.W.mg_none_of X G z13, PySem.W.mg_none_of X G z14, PySem.W.mg_none_of X G z15, PySem.W.mg_none_of X G z16⟩
  have g_MOST_PLAYERS := PySem.W.mg_of X G g_MOST_PLAYERS
  refine ⟨PySem.W.fnOf "law" "law" (defArgs s_law) (defBody s_law) (defScope s_law) .none kV17 dc17 pm17 an17 cd17 ct17, fun s v => .of_eq rfl, fun base KB GB => ?_⟩
  have g_HallError := PySem.W.mg_of X G n_HallError
  have O_HallError : OwnE mg base "HallError" D_HallError := own_of KB GB n_HallError ex_HallError
  have g_NoHall := PySem.W.mg_of X G n_NoHall
  have g_NoPlayer := PySem.W.mg_of X G n_NoPlayer
  have g_NoRing := PySem.W.mg_of X G n_NoRing
  have g_NoRow := PySem.W.mg_of X G n_NoRow
  have g_Unlike := PySem.W.mg_of X G n_Unlike
  have g_NoNote := PySem.W.mg_of X G n_NoNote
  have O_NoNote : OwnE mg base "NoNote" D_NoNote := own_of KB GB n_NoNote ex_NoNote
  have EF_NoNote : ExcFacts K D_NoNote := ⟨ga_NoNote, m_NoNote_BaseException, gh_NoNote, gc_NoNote, gt_, tk_, m_NoNote_object, m_NoNote_NoNote⟩
  have U_NoNote : Under base D_NoNote D_HallError := under_of KB ex_NoNote m_NoNote_HallError
  have Wh_NoNote : Which K D_NoHall D_NoPlayer D_NoRing D_NoRow D_Unlike D_NoNote D_NoNote [false, false, false, false, false, true] 5 := ⟨EF_NoNote, ⟨_, _, _, _, _, _, rfl, kit_of EF_NoNote cl_NoHall ty_NoHall m_NoNote_NoHall, kit_of EF_NoNote cl_NoPlayer ty_NoPlayer m_NoNote_NoPlayer, kit_of EF_NoNote cl_NoRing ty_NoRing m_NoNote_NoRing, kit_of EF_NoNote cl_NoRow ty_NoRow m_NoNote_NoRow, kit_of EF_NoNote cl_Unlike ty_Unlike m_NoNote_Unlike, kit_of EF_NoNote cl_NoNote ty_NoNote m_NoNote_NoNote⟩, kit_ve m_NoNote_ValueError, by decide, rfl, by decide⟩
  have C_law_cell : Has l.prog w K mg base 1 "_law_cell" ["script", "k"] (spCell K) := ⟨_, _, ok_cell F_law_cell z, b_law_cell, F_law_cell.kp, m_law_cell⟩
  have C_law_next : Has l.prog w K mg base 1 "_law_next" ["step"] spNext := ⟨_, _, ok_next F_law_next, b_law_next, F_law_next.kp, m_law_next⟩
  have C_law_order : Has l.prog w K mg base 2 "_law_order" ["script", "k", "many"] (spOrder K) := ⟨_, _, ok_order F_law_order z C_law_cell C_law_next, b_law_order, F_law_order.kp, m_law_order⟩
  have C_law_first_wins : Has l.prog w K mg base 1 "_law_first_wins" ["way", "one", "other", "many", "step"] spFirst := ⟨_, _, ok_first F_law_first_wins, b_law_first_wins, F_law_first_wins.kp, m_law_first_wins⟩
  have C_law_hall : Has l.prog w K mg base 3 "_law_hall" ["script", "k", "many"] (spHall K) := ⟨_, _, ok_hall F_law_hall z C_law_cell C_law_next C_law_order C_law_first_wins, b_law_hall, F_law_hall.kp, m_law_hall⟩
  have C_law_written : Has l.prog w K mg base 1 "_law_written" ["hall"] (spWritten K) := ⟨_, _, ok_written F_law_written z, b_law_written, F_law_written.kp, m_law_written⟩
  have C_law_sign : Has l.prog w K mg base 1 "_law_sign" ["cell", "way"] (spSignL K) := ⟨_, _, ok_signL F_law_sign z, b_law_sign, F_law_sign.kp, m_law_sign⟩
  have C_law_odd : Has l.prog w K mg base 1 "_law_odd" ["cell"] (spOddL K) := ⟨_, _, ok_oddL F_law_odd z, b_law_odd, F_law_odd.kp, m_law_odd⟩
  have C_law_due : Has l.prog w K mg base 1 "_law_due" ["text"] (spDue K) := ⟨_, _, ok_due F_law_due z, b_law_due, F_law_due.kp, m_law_due⟩
  have C_beginning_for : Has l.prog w K mg base 1 "beginning_for" ["many"] spBegin := ⟨_, _, ok_begin F_beginning_for, b_beginning_for, F_beginning_for.kp, m_beginning_for⟩
  have C_pairs_of : Has l.prog w K mg base 1 "pairs_of" ["many"] spPairs := ⟨_, _, ok_pairs F_pairs_of z, b_pairs_of, F_pairs_of.kp, m_pairs_of⟩
  have C_hall_of : HasE l.prog w K mg base 2 "hall_of" ["many", "signs"] (spHallOf K D_NoNote) := ⟨_, _, ok_hallof F_hall_of z O_NoNote C_pairs_of, b_hall_of, F_hall_of.kp, m_hall_of⟩
  have CE_read : HasE l.prog w K mg base 3 "read" ["text"] (spReadE K D_NoNote) := ⟨_, _, ok_read F_read z g_MOST_PLAYERS O_NoNote C_beginning_for C_hall_of, b_read, F_read.kp, m_read⟩
  have C_law_which : HasM l.prog w K mg base 1 "_law_which" ["e"] (spWhich K D_NoHall D_NoPlayer D_NoRing D_NoRow D_Unlike D_NoNote) := ⟨_, _, ok_which F_law_which z g_NoHall g_NoPlayer g_NoRing g_NoRow g_Unlike g_NoNote, b_law_which, F_law_which.kp, m_law_which⟩
  have C_law_ints : Has l.prog w K mg base 1 "_law_ints" ["found", "due"] (spInts K) := ⟨_, _, ok_ints F_law_ints z, b_law_ints, F_law_ints.kp, m_law_ints⟩
  have C_law_lists_like : Has l.prog w K mg base 2 "_law_lists_like" ["found", "due"] (spLike K) := ⟨_, _, ok_like F_law_lists_like z C_law_ints, b_law_lists_like, F_law_lists_like.kp, m_law_lists_like⟩
  exact ok_law F_law z O_HallError U_NoNote Wh_NoNote C_law_cell C_law_hall C_law_written C_law_sign C_law_odd C_law_due CE_read C_law_which C_law_lists_like
theorem walk {l : PySem.W.OpenLaw} {q : Program} {loose : List Str} {XP : (Str → Option Value) → Heap → Prop} {YP : World → Heap → Prop} {d : DefRec} {K : Params → PySem.W.Frag} (hn : l.most = some 63) (hdf : d.params.defaults = [])
    (hY : ∀ (w : World) (h : Heap), YP w h → (K w.params).In h)
    (F : ∀ (w : World) (mg : Str → Option Value) (fa : Addr) (h : Heap), (K w.params).In h → h.Ns mainGlobals mg → mg d.name = some (.ref fa) →
      ∃ fd : FuncData, (∀ (s : Shared) (u : Value), BindsTo s fd ⟨[u], []⟩ [("script", u)]) ∧ ∀ base : Heap, (K w.params).In base → base.Ns mainGlobals mg → FnOk l.prog w (K w.params) mg base CX0 4 fa fd ["script"] (spLaw (K w.params))) :
    PySem.W.WalkO q loose XP YP l.row.toRowW d [] (fun f vs => PySem.call f vs) :=
  L2.walk_of (n := 63) (k := 4) (x := "script") (CX := fun _ => CX0) (sp := fun w => spLaw (K w.params)) hn (by decide) hdf ⟨rfl, by decide, by decide⟩ hY F (fun _ _ a ns hl _ hS => ⟨a, ns, rfl, hS, hl, fun _ => rfl⟩) fun _ _ _ _ _ z => z
end KH
open PySem PySem.W PyProof.Rows
set_option maxRecDepth 100000 in
set_option maxHeartbeats 0 in
theorem PySem.Challenge.cw_kinghall_k18_read_or_refused_holds : PySem.Challenge.rw_kinghall_k18_read_or_refused.Holds := by
  w_on; o_law; k_head; (case hw => w_witness2)
  k_fill
  refine KH.walk (l := PySem.Challenge.rw_kinghall_k18_read_or_refused) rfl rfl (fun w h Y => PySem.W.kIn_of Y) ?F
  case F =>
    intro w mg fa h KX G hmg
    refine' KH.all_mk KX G hmg ?g_MOST_PLAYERS ?a1 ?l1 ?c1 ?k1 ?a2 ?l2 ?c2 ?k2 ?a3 ?l3 ?c3 ?k3 ?a4 ?l4 ?c4 ?k4 ?a5 ?l5 ?c5 ?k5 ?a6 ?l6 ?c6 ?k6 ?a7 ?l7 ?c7 ?k7 ?a8 ?l8 ?c8 ?k8 ?a9 ?l9 ?c9 ?k9 ?a10 ?l10 ?c10 ?k10 ?a11 ?l11 ?c11 ?k11 ?a12 ?l12 ?c12 ?k12 ?a13 ?l13 ?c13 ?k13 ?a14 ?l14 ?c14 ?k14 ?a15 ?l15 ?c15 ?k15 ?a16 ?l16 ?c16 ?k16 ?a17 ?l17 ?c17 ?k17 ?n_HallError ?cl_HallError ?ty_HallError ?ex_HallError ?n_NoHall ?cl_NoHall ?ty_NoHall ?n_NoPlayer ?cl_NoPlayer ?ty_NoPlayer ?n_NoRing ?cl_NoRing ?ty_NoRing ?n_NoRow ?cl_NoRow ?ty_NoRow ?n_Unlike ?cl_Unlike ?ty_Unlike ?n_NoNote ?cl_NoNote ?ty_NoNote ?ex_NoNote ?m_NoNote_HallError ?m_NoNote_NoHall ?m_NoNote_NoPlayer ?m_NoNote_NoRing ?m_NoNote_NoRow ?m_NoNote_Unlike ?m_NoNote_NoNote ?m_NoNote_ValueError ?m_NoNote_object ?m_NoNote_BaseException ?ga_NoNote ?gh_NoNote ?gc_NoNote ?gt_ ?tk_ ?z1 ?z2 ?z3 ?z4 ?z5 ?z6 ?z7 ?z8 ?z9 ?z10 ?z11 ?z12 ?z13 ?z14 ?z15 ?z16
    (case g_MOST_PLAYERS => k_is)
    (case a1 => k_is)
    (case l1 => k_is)
    (case c1 => k_is)
    (case k1 => k_is)
    (case a2 => k_is)
    (case l2 => k_is)
    (case c2 => k_is)
    (case k2 => k_is)
    (case a3 => k_is)
    (case l3 => k_is)
    (case c3 => k_is)
    (case k3 => k_is)
    (case a4 => k_is)
    (case l4 => k_is)
    (case c4 => k_is)
    (case k4 => k_is)
    (case a5 => k_is)
    (case l5 => k_is)
    (case c5 => k_is)
    (case k5 => k_is)
    (case a6 => k_is)
    (case l6 => k_is)
    (case c6 => k_is)
    (case k6 => k_is)
    (case a7 => k_is)
    (case l7 => k_is)
    (case c7 => k_is)
    (case k7 => k_is)
    (case a8 => k_is)
    (case l8 => k_is)
    (case c8 => k_is)
    (case k8 => k_is)
    (case a9 => k_is)
    (case l9 => k_is)
    (case c9 => k_is)
    (case k9 => k_is)
    (case a10 => k_is)
    (case l10 => k_is)
    (case c10 => k_is)
    (case k10 => k_is)
    (case a11 => k_is)
    (case l11 => k_is)
    (case c11 => k_is)
    (case k11 => k_is)
    (case a12 => k_is)
    (case l12 => k_is)
    (case c12 => k_is)
    (case k12 => k_is)
    (case a13 => k_is)
    (case l13 => k_is)
    (case c13 => k_is)
    (case k13 => k_is)
    (case a14 => k_is)
    (case l14 => k_is)
    (case c14 => k_is)
    (case k14 => k_is)
    (case a15 => k_is)
    (case l15 => k_is)
    (case c15 => k_is)
    (case k15 => k_is)
    (case a16 => k_is)
    (case l16 => k_is)
    (case c16 => k_is)
    (case k16 => k_is)
    (case a17 => k_is)
    (case l17 => k_is)
    (case c17 => k_is)
    (case k17 => k_is)
    (case n_HallError => k_is)
    (case cl_HallError => k_is)
    (case ty_HallError => k_is)
    (case ex_HallError => k_exc)
    (case n_NoHall => k_is)
    (case cl_NoHall => k_is)
    (case ty_NoHall => k_is)
    (case n_NoPlayer => k_is)
    (case cl_NoPlayer => k_is)
    (case ty_NoPlayer => k_is)
    (case n_NoRing => k_is)
    (case cl_NoRing => k_is)
    (case ty_NoRing => k_is)
    (case n_NoRow => k_is)
    (case cl_NoRow => k_is)
    (case ty_NoRow => k_is)
    (case n_Unlike => k_is)
    (case cl_Unlike => k_is)
    (case ty_Unlike => k_is)
    (case n_NoNote => k_is)
    (case cl_NoNote => k_is)
    (case ty_NoNote => k_is)
    (case ex_NoNote => k_exc)
    (case m_NoNote_HallError => k_is)
    (case m_NoNote_NoHall => k_is)
    (case m_NoNote_NoPlayer => k_is)
    (case m_NoNote_NoRing => k_is)
    (case m_NoNote_NoRow => k_is)
    (case m_NoNote_Unlike => k_is)
    (case m_NoNote_NoNote => k_is)
    (case m_NoNote_ValueError => k_is)
    (case m_NoNote_object => k_is)
    (case m_NoNote_BaseException => k_is)
    (case ga_NoNote => k_is)
    (case gh_NoNote => k_is)
    (case gc_NoNote => k_is)
    (case gt_ => k_is)
    (case tk_ => k_is)
    (case z1 => k_is)
    (case z2 => k_is)
    (case z3 => k_is)
    (case z4 => k_is)
    (case z5 => k_is)
    (case z6 => k_is)
    (case z7 => k_is)
    (case z8 => k_is)
    (case z9 => k_is)
    (case z10 => k_is)
    (case z11 => k_is)
    (case z12 => k_is)
    (case z13 => k_is)
    (case z14 => k_is)
    (case z15 => k_is)
    (case z16 => k_is)
