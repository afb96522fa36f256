import PyProof.Rows.All
import Wide.All
import OpenK.AllK
import Wide.FinOn
import Lean
import PyProof.EqAt
import PyProof.EqKinds
import PyProof.TupleCall
import PySem.Challenge.RW_calmword_k99_refusals_made
set_option Elab.async false
set_option linter.all false
set_option maxRecDepth 100000
/-! THE HAND LAYER, for ints, bools, texts, own classes, LISTS and tuples (index, slices, in, append, pop ..), calls, loops. Paste it whole ahead of your own text; what your proof does not reach may be deleted. -/
namespace L2
open PySem PySem.Spec PyProof.Rows

/-- a key: an int or a str -/
abbrev Key := Sum Int Str
def keyIs : Key → Value → Bool
  | .inl k, v => Value.isInt k v
  | .inr x, v => Value.isStrOf x v
def keyH (w : World) : Key → Int
  | .inl k => hashInt k
  | .inr x => hashStr w x
theorem keyIs_shape : ∀ {k : Key} {v : Value}, keyIs k v = true → (∃ i t, k = Sum.inl i ∧ v = Value.int i t) ∨ (∃ x t, k = Sum.inr x ∧ v = Value.str x t)
  | .inl i, v, h => by
    obtain ⟨t, e⟩ := Value.isInt_shape (k := i) (v := v) h
    exact .inl ⟨i, t, rfl, e⟩
  | .inr x, v, h => by
    obtain ⟨t, e⟩ := Value.isStrOf_shape (x := x) (v := v) h
    exact .inr ⟨x, t, rfl, e⟩
theorem keyIs_int (i : Int) (t : Tok) : keyIs (.inl i) (.int i t) = true := by simp [keyIs, Value.isInt]
theorem keyIs_str (x : Str) (t : Tok) : keyIs (.inr x) (.str x t) = true := by simp [keyIs, Value.isStrOf]
theorem key_ll (a b : Int) : decide ((Sum.inl a : Key) = Sum.inl b) = (a == b) := by
  by_cases e : a = b
  · subst e; simp
  · have h : ¬ (Sum.inl a : Key) = Sum.inl b := fun q => e (Sum.inl.inj q)
    rw [decide_eq_false h]
    exact (beq_eq_false_iff_ne.mpr e).symm
theorem key_rr (a b : Str) : decide ((Sum.inr a : Key) = Sum.inr b) = decide (a = b) := by
  by_cases e : a = b
  · subst e; simp
  · have h : ¬ (Sum.inr a : Key) = Sum.inr b := fun q => e (Sum.inr.inj q)
    rw [decide_eq_false h, decide_eq_false e]
theorem key_lr (a : Int) (b : Str) : decide ((Sum.inl a : Key) = Sum.inr b) = false := decide_eq_false (fun q => nomatch q)
theorem key_rl (a : Str) (b : Int) : decide ((Sum.inr a : Key) = Sum.inl b) = false := decide_eq_false (fun q => nomatch q)

def mixKind (prog : Program) (w : World) : PySem.KeyKind prog w Key where
  is := keyIs
  hash := keyH w
  inj := fun v a b ha hb => by
    rcases keyIs_shape ha with ⟨i, t, rfl, rfl⟩ | ⟨x, t, rfl, rfl⟩
    · rcases keyIs_shape hb with ⟨j, u, rfl, e⟩ | ⟨y, u, rfl, e⟩
      · injection e with e1 _; rw [e1]
      · exact nomatch e
    · rcases keyIs_shape hb with ⟨j, u, rfl, e⟩ | ⟨y, u, rfl, e⟩
      · exact nomatch e
      · injection e with e1 _; rw [e1]
  byValue := fun k v h => by
    rcases keyIs_shape h with ⟨i, t, rfl, rfl⟩ | ⟨x, t, rfl, rfl⟩ <;> rfl
  pyHash := fun hv h => by
    rcases keyIs_shape hv with ⟨i, t, rfl, rfl⟩ | ⟨x, t, rfl, rfl⟩
    · exact wpAny_pyHash_int h
    · exact wpAny_pyHash_str h
  eqBool := fun hu hv h => by
    rcases keyIs_shape hu with ⟨i, t, rfl, rfl⟩ | ⟨x, t, rfl, rfl⟩
    · rcases keyIs_shape hv with ⟨j, u, rfl, rfl⟩ | ⟨y, u, rfl, rfl⟩
      · rw [key_ll] at h; exact wpAny_eqBool_int h
      · rw [key_lr] at h; exact SeqAt.EqAt.int_str i t y u _ _ _ _ h
    · rcases keyIs_shape hv with ⟨j, u, rfl, rfl⟩ | ⟨y, u, rfl, rfl⟩
      · rw [key_rl] at h; exact SeqAt.EqAt.str_int x t j u _ _ _ _ h
      · rw [key_rr] at h; exact wpAny_eqBool_str h
  «strs» := fun k x t v h => by
    rcases keyIs_shape h with ⟨i, u, rfl, e⟩ | ⟨y, u, rfl, e⟩
    · exact nomatch e
    · injection e with e1 _
      subst e1
      cases v <;> rfl

theorem mixKind_is (prog : Program) (w : World) (k : Key) (v : Value) : (mixKind prog w).is k v = keyIs k v := rfl
theorem mixKind_int (prog : Program) (w : World) (i : Int) (t : Tok) : (mixKind prog w).is (.inl i) (.int i t) = true := keyIs_int i t
theorem mixKind_str (prog : Program) (w : World) (x : Str) (t : Tok) : (mixKind prog w).is (.inr x) (.str x t) = true := keyIs_str x t
end L2

namespace L2
open PySem PySem.Spec PyProof.Rows

/-- a value, without the heap -/
inductive V where
  | non | bl (b : Bool) | int (i : Int) | str (x : Str) | byt (b : Array UInt8) | flt (b : UInt64) | ref (a : Addr) | ty (n : String)
  deriving DecidableEq

def RelV : V → Value → Prop
  | .non, u => u = Value.none
  | .bl b, u => u = Value.bool b
  | .int i, u => ∃ t, u = Value.int i t
  | .str x, u => ∃ t, u = Value.str x t
  | .byt b, u => ∃ t, u = Value.bytes b t
  | .flt b, u => ∃ t, u = Value.float b t
  | .ref a, u => u = Value.ref a
  | .ty n, u => u = Value.type n

abbrev Vals : List V → List Value → Prop := Paired RelV
theorem Vals.length {xs : List V} {us : List Value} (r : Vals xs us) : xs.length = us.length := Paired.length r
theorem Vals.get : ∀ {xs : List V} {us : List Value} {i : Nat} {x : V}, Vals xs us → xs[i]? = some x → ∃ u, us[i]? = some u ∧ RelV x u
  | _, _, _, _, .nil, e => by simp at e
  | _, _, 0, _, .cons r _, e => by simp at e; subst e; exact ⟨_, rfl, r⟩
  | _, _, i + 1, x, .cons _ t, e => by
    obtain ⟨u, h1, h2⟩ := Vals.get (i := i) (x := x) t (by simpa using e)
    exact ⟨u, by simpa using h1, h2⟩
theorem Vals.set {x : V} {u : Value} (r : RelV x u) : ∀ {xs : List V} {us : List Value} (i : Nat), Vals xs us → Vals (xs.set i x) (us.set i u)
  | _, _, _, .nil => .nil
  | _, _, 0, .cons _ t => .cons r t
  | _, _, i + 1, .cons q t => .cons q (Vals.set r i t)
theorem Vals.append : ∀ {xs ys : List V} {us ws : List Value}, Vals xs us → Vals ys ws → Vals (xs ++ ys) (us ++ ws)
  | _, _, _, _, .nil, s => s
  | _, _, _, _, .cons r t, s => .cons r (Vals.append t s)
theorem Vals.take : ∀ {xs : List V} {us : List Value} (n : Nat), Vals xs us → Vals (xs.take n) (us.take n)
  | _, _, 0, _ => .nil
  | _, _, _ + 1, .nil => .nil
  | _, _, n + 1, .cons r t => .cons r (Vals.take n t)
theorem Vals.drop : ∀ {xs : List V} {us : List Value} (n : Nat), Vals xs us → Vals (xs.drop n) (us.drop n)
  | _, _, 0, r => r
  | _, _, _ + 1, .nil => .nil
  | _, _, n + 1, .cons _ t => Vals.drop n t
theorem Vals.none_of : ∀ {xs : List V} {us : List Value} {i : Nat}, Vals xs us → xs[i]? = none → us[i]? = none := fun {xs us i} r e => by
  have h1 := r.length
  have h2 : xs.length ≤ i := List.getElem?_eq_none_iff.mp e
  exact List.getElem?_eq_none_iff.mpr (by omega)

def RelO : Option V → Option Value → Prop
  | some v, some u => RelV v u
  | none, none => True
  | _, _ => False
def KV {κ : Type} : List (κ × V) → List (κ × Value) → Prop := Paired fun (p : κ × V) (q : κ × Value) => p.1 = q.1 ∧ RelV p.2 q.2

/-- a key of a dict (00_mix): an int or a text -/
def kV : Key → V
  | .inl i => .int i
  | .inr x => .str x

/-- what stands at a tracked address -/
inductive HO where
  /-- a list -/
  | lst (xs : List V)
  /-- a tuple (never changes) -/
  | tup (xs : List V)
  /-- a dict whose keys are ints and texts; one whose keys are tuples of ints and texts (the empty one is both) -/
  | dK (kvs : List (Key × V)) | dT (kvs : List (List Key × V))
  /-- a set of ints: its members, its size -/
  | set (S : Int → Bool) (n : Nat)
  /-- an instance of the class at C, its dict at dx, its attributes -/
  | ins (C dx : Addr) (fs : List (Str × V))
  /-- the dict of the instance at x -/
  | own (x : Addr)
  /-- the dict of an exception -/
  | xd (fs : List (Str × V))
  /-- a bound method, f of x -/
  | met (f x : Addr)
  /-- a range object lo, lo + 1, .. below hi -/
  | rng (lo hi : Int)
  /-- a thing that is known to the object (the script; a dict while a loop walks it): read, never written while it is so -/
  | frz (o : Obj) (u : HO)
  /-- a code object's table -/
  | tbl (ps : Array Value)
  /-- any other thing, by what is true of its one object (a def of one's own: SetO a S n := HO.ext fun h => ..) -/
  | ext (φ : Heap → Prop)

abbrev Hp := Addr → Option HO
def upd (H : Hp) (a : Addr) (o : HO) : Hp := fun b => if b = a then some o else H b
theorem upd_same {H : Hp} {a : Addr} {o : HO} : upd H a o a = some o := by unfold upd; rw [if_pos rfl]
theorem upd_ne {H : Hp} {a b : Addr} {o : HO} (h : b ≠ a) : upd H a o b = H b := by unfold upd; rw [if_neg h]
theorem upd_upd {H : Hp} {a : Addr} {o u : HO} : upd (upd H a o) a u = upd H a u := by
  funext b; unfold upd; split <;> rfl
/-- two objects of different content stand apart -/
theorem ne_of {H : Hp} {a b : Addr} {o u : HO} (h : H a = some o) (h' : H b = some u) (d : o ≠ u) : a ≠ b := by
  intro e; subst e; rw [h] at h'; exact d (Option.some.inj h')
theorem ne_of_none {H : Hp} {a b : Addr} {o : HO} (h : H a = some o) (h' : H b = none) : a ≠ b := by
  intro e; subst e; rw [h] at h'; cases h'

section
variable (P : Program) (w : World)
def ObjOk (H : Hp) (h : Heap) (a : Addr) : HO → Prop
  | .lst xs => xs.length ≤ sizeLine ∧ ∃ (its : List Value) (n : Nat), Vals xs its ∧ h.get? a = some { cls := .type "list", data := .seq its.toArray n }
  | .tup xs => xs.length ≤ sizeLine ∧ ∃ its : List Value, Vals xs its ∧ IsTup h a its.toArray
  | .dK kvs => kvs.length ≤ sizeLine ∧ (a == sysModules) = false ∧ ∃ vs, KV kvs vs ∧ h.DictOf (mixKind P w) a vs
  | .dT kvs => kvs.length ≤ sizeLine ∧ (a == sysModules) = false ∧ ∃ xs : List (List Key × Addr × Value),
      Paired (fun (p : List Key × V) (q : List Key × Addr × Value) => p.1 = q.1 ∧ H q.2.1 = some (.tup (p.1.map kV)) ∧ RelV p.2 q.2.2) kvs xs ∧
      ∃ o es ep, h.get? a = some o ∧ o.ExactDict ∧ o.data = .dict es ep ∧ es.toList = xs.map (entryOfKey (tupleKind (mixKind P w))) ∧ (xs.map (·.1)).Nodup
  | .set S n => h.SetOf (intKind P w) a S n
  | .ins C dx fs => H dx = some (.own a) ∧ fs.length ≤ 1000 ∧ dx ≠ a ∧ h.get? a = some (PySem.W.instObj C dx) ∧
      ∃ mA, h.Ns1 dx mA ∧ (∀ f, RelO (fs.lookup f) (mA f)) ∧ PySem.Within mA (fs.map (·.1))
  | .own _ => ∃ o, h.get? a = some o
  | .xd fs => ∃ mA, h.Ns1 a mA ∧ ∀ f, RelO (fs.lookup f) (mA f)
  | .rng lo hi => ∃ t u v, h.get? a = some { cls := .type "range", data := .fields #[.int lo t, .int hi u, .int 1 v] }
  | .frz o u => h.get? a = some o ∧ ObjOk H h a u
  | .tbl ps => h.get? a = some { cls := .none, data := .fields ps }
  | .met f x => h.get? a = some (PySem.W.methodObj (.ref f) (.ref x))
  | .ext φ => φ h ∧ (∃ o, h.get? a = some o) ∧ ∀ h1 h2 : Heap, φ h1 → (∀ o, h1.get? a = some o → h2.get? a = some o) → φ h2
/-- the abstract heap is held -/
def HOk (H : Hp) (h : Heap) : Prop := ∀ a o, H a = some o → ObjOk P w H h a o
end

section
variable {P : Program} {w : World} {H H' : Hp} {h h' : Heap} {a : Addr} {o : HO}
theorem ObjOk.lt (x : ObjOk P w H h a o) : a < h.objs.size := by
  cases o with
  | lst xs => obtain ⟨_, _, _, _, e⟩ := x; exact Heap.lt_size e
  | tup xs => obtain ⟨_, _, _, p⟩ := x; exact p.lt
  | dK kvs => obtain ⟨_, _, _, _, o, _, _, e, _⟩ := x; exact Heap.lt_size e
  | dT kvs => obtain ⟨_, _, _, _, o, _, _, e, _⟩ := x; exact Heap.lt_size e
  | set S n => obtain ⟨o, _, _, _, e, _⟩ := x; exact Heap.lt_size e
  | ins C dx fs => obtain ⟨_, _, _, e, _⟩ := x; exact Heap.lt_size e
  | own y => obtain ⟨_, e⟩ := x; exact Heap.lt_size e
  | xd fs => obtain ⟨_, ⟨_, _, _, e, _⟩, _⟩ := x; exact Heap.lt_size e
  | rng lo hi => obtain ⟨_, _, _, e⟩ := x; exact Heap.lt_size e
  | frz ob u => obtain ⟨e, _⟩ := x; exact Heap.lt_size e
  | tbl ps => exact Heap.lt_size (show h.get? a = some _ from x)
  | met f y => exact Heap.lt_size (show h.get? a = some _ from x)
  | ext φ => obtain ⟨_, ⟨_, e⟩, _⟩ := x; exact Heap.lt_size e
theorem Paired.mapP {α β : Type} {F G : α → β → Prop} : ∀ {l₁ : List α} {l₂ : List β}, Paired F l₁ l₂ → (∀ a b, F a b → G a b) → Paired G l₁ l₂
  | _, _, .nil, _ => .nil
  | _, _, .cons r t, f => .cons (f _ _ r) (Paired.mapP t f)
theorem Paired.imp' {α β : Type} {F G : α → β → Prop} (f : ∀ a b, F a b → G a b) {l₁ : List α} {l₂ : List β} (r : Paired F l₁ l₂) : Paired G l₁ l₂ := Paired.mapP r f
/-- what an object's description leans on: its own object, its own dict, the tuples -/
theorem ObjOk.stay (x : ObjOk P w H h a o) (k : ∀ b u, (b = a ∨ H b = some (.own a)) → h.get? b = some u → h'.get? b = some u)
    (ho : ∀ b, H b = some (.own a) → H' b = some (.own a)) (ht : ∀ b xs, H b = some (.tup xs) → H' b = some (.tup xs)) : ObjOk P w H' h' a o := by
  induction o with
  | lst xs => obtain ⟨z, its, n, r, e⟩ := x; exact ⟨z, its, n, r, k _ _ (.inl rfl) e⟩
  | tup xs => obtain ⟨z, its, r, ob, e, c⟩ := x; exact ⟨z, its, r, ob, k _ _ (.inl rfl) e, c⟩
  | dK kvs => obtain ⟨z, y, vs, r, ob, es, ep, e, c⟩ := x; exact ⟨z, y, vs, r, ob, es, ep, k _ _ (.inl rfl) e, c⟩
  | dT kvs =>
    obtain ⟨z, y, xs, r, ob, es, ep, e, c⟩ := x
    exact ⟨z, y, xs, Paired.mapP r fun p q z => ⟨z.1, ht _ _ z.2.1, z.2.2⟩, ob, es, ep, k _ _ (.inl rfl) e, c⟩
  | set S n => obtain ⟨ob, es, ep, t, e, c⟩ := x; exact ⟨ob, es, ep, t, k _ _ (.inl rfl) e, c⟩
  | ins C dx fs =>
    obtain ⟨d, z, ne, e, mA, ⟨od, es, ep, e2, c⟩, r⟩ := x
    exact ⟨ho _ d, z, ne, k _ _ (.inl rfl) e, mA, ⟨od, es, ep, k _ _ (.inr d) e2, c⟩, r⟩
  | own y => obtain ⟨ob, e⟩ := x; exact ⟨ob, k _ _ (.inl rfl) e⟩
  | xd fs => obtain ⟨mA, ⟨od, es, ep, e, c⟩, r⟩ := x; exact ⟨mA, ⟨od, es, ep, k _ _ (.inl rfl) e, c⟩, r⟩
  | rng lo hi => obtain ⟨t, u, v, e⟩ := x; exact ⟨t, u, v, k _ _ (.inl rfl) e⟩
  | frz ob u ih => obtain ⟨e, q⟩ := x; exact ⟨k _ _ (.inl rfl) e, ih q⟩
  | tbl ps =>
    have e : h.get? a = some { cls := .none, data := .fields ps } := x
    show h'.get? a = some { cls := .none, data := .fields ps }
    exact k a _ (.inl rfl) e
  | met f y =>
    have e : h.get? a = some (PySem.W.methodObj (.ref f) (.ref y)) := x
    show h'.get? a = some (PySem.W.methodObj (.ref f) (.ref y))
    exact k a _ (.inl rfl) e
  | ext φ => obtain ⟨p, ⟨o, e⟩, st⟩ := x; exact ⟨st _ _ p fun o q => k _ _ (.inl rfl) q, ⟨o, k _ _ (.inl rfl) e⟩, st⟩
theorem HOk.lt (x : HOk P w H h) (e : H a = some o) : a < h.objs.size := (x a o e).lt
theorem HOk.fresh (x : HOk P w H h) (e : h.objs.size ≤ a) : H a = none := by
  cases q : H a with
  | none => rfl
  | some u => exact absurd (Nat.lt_of_lt_of_le (x.lt q) e) (Nat.lt_irrefl _)
/-- every object of the heap is kept -/
theorem HOk.kept (x : HOk P w H h) (k : ∀ b u, h.get? b = some u → h'.get? b = some u) : HOk P w H h' := fun a o e =>
  (x a o e).stay (fun b u _ q => k b u q) (fun _ q => q) fun _ _ q => q
/-- a new object is laid and tracked -/
theorem HOk.laid (x : HOk P w H h) (k : ∀ b u, h.get? b = some u → h'.get? b = some u) (hp : h.objs.size ≤ a) (new : ObjOk P w (upd H a o) h' a o) : HOk P w (upd H a o) h' := fun b u e => by
  have hn := x.fresh hp
  by_cases hb : b = a
  · subst hb; rw [upd_same] at e; cases e; exact new
  · rw [upd_ne hb] at e
    exact (x b u e).stay (fun c v _ q => k c v q) (fun c q => by rw [upd_ne (ne_of_none q hn)]; exact q) fun c xs q => by rw [upd_ne (ne_of_none q hn)]; exact q
end

/-- what may be read as u: it is u, or a known u -/
def Rd (H : Hp) (a : Addr) (u : HO) : Prop := H a = some u ∨ ∃ o, H a = some (.frz o u)
theorem Rd.of {H : Hp} {a : Addr} {u : HO} (h : H a = some u) : Rd H a u := .inl h
theorem Rd.ok {P : Program} {w : World} {H : Hp} {h : Heap} {a : Addr} {u : HO} (r : Rd H a u) (x : HOk P w H h) : ObjOk P w H h a u := by
  rcases r with r | ⟨o, r⟩
  · exact x a u r
  · obtain ⟨_, q⟩ := x a _ r
    exact q
/-- what may be written -/
def Mut : Option HO → Prop
  | some (.lst _) => True
  | some (.dK _) => True
  | some (.dT _) => True
  | some (.set _ _) => True
  | some (.ins _ _ _) => True
  | some (.ext _) => True
  | _ => False
section
variable {P : Program} {w : World} {H : Hp} {h h' : Heap} {x e : Addr} {o' : HO}
/-- the object at e is changed: x itself, or the dict of the instance x -/
theorem HOk.write (ok : HOk P w H h) (mu : Mut (H x)) (he : e = x ∨ H e = some (.own x)) (k : ∀ b u, b ≠ e → h.get? b = some u → h'.get? b = some u) (heo : ∃ u, h'.get? e = some u)
    (new : ObjOk P w (upd H x o') h' x o') : HOk P w (upd H x o') h' := fun b u q => by
  have nown : ∀ c y, H c = some (.own y) → c ≠ x := fun c y r z => by subst z; rw [r] at mu; exact mu
  have ntup : ∀ c xs, H c = some (.tup xs) → c ≠ x := fun c xs r z => by subst z; rw [r] at mu; exact mu
  by_cases hb : b = x
  · subst hb; rw [upd_same] at q; cases q; exact new
  · rw [upd_ne hb] at q
    by_cases hbe : b = e
    · have q' : H b = some (.own x) := by
        rcases he with z | z
        · exact absurd (hbe.trans z) hb
        · rw [hbe]; exact z
      rw [q] at q'; cases q'
      obtain ⟨v, hv⟩ := heo
      exact ⟨v, by rw [hbe]; exact hv⟩
    · refine (ok b u q).stay (fun c v hc r => k c v ?_ r) (fun c r => by rw [upd_ne (nown c b r)]; exact r) fun c xs r => by rw [upd_ne (ntup c xs r)]; exact r
      rcases hc with rfl | hc
      · exact hbe
      · rintro rfl
        rcases he with z | z
        · exact nown c b hc z
        · rw [hc] at z; cases z; exact hb rfl
end

/-! ### kept unless tracked; of the frames at fs (the callers') the slots may change (an exception that passes writes there); of the records at ex (iterators) nothing is said -/
structure Un (fs ex : List Addr) (H H' : Hp) (h h' : Heap) : Prop where
  keep : ∀ b o, h.get? b = some o → H b = none → b ∉ fs → b ∉ ex → h'.get? b = some o
  slot : ∀ b o, h.get? b = some o → H b = none → b ∈ fs → b ∉ ex → ∃ sl, h'.get? b = some { o with slots := sl }
  free : ∀ b o, h.get? b = some o → H b = none → b ∉ ex → H' b = none
  there : ∀ b o, h.get? b = some o → b ∉ ex → ∃ o', h'.get? b = some o'
  tups : ∀ b xs, H b = some (.tup xs) → H' b = some (.tup xs)
  frzs : ∀ b o u, H b = some (.frz o u) → H' b = some (.frz o u)
  tbls : ∀ b ps, H b = some (.tbl ps) → ∃ more, H' b = some (.tbl (ps ++ more))
section
variable {fs fs' ex ex' : List Addr} {H H1 H2 : Hp} {h h1 h2 h' : Heap} {a x e : Addr} {o : HO}
theorem Un.any (u : Un fs ex H H1 h h1) {b : Addr} {ob : Obj} (q : h.get? b = some ob) (n : H b = none) (hx : b ∉ ex) : ∃ sl, h1.get? b = some { ob with slots := sl } := by
  by_cases hb : b ∈ fs
  · exact u.slot b ob q n hb hx
  · exact ⟨ob.slots, u.keep b ob q n hb hx⟩
theorem Un.trans (a : Un fs ex H H1 h h1) (b : Un fs ex H1 H2 h1 h2) : Un fs ex H H2 h h2 where
  keep := fun c ob q n hc hx => b.keep c ob (a.keep c ob q n hc hx) (a.free c ob q n hx) hc hx
  slot := fun c ob q n hc hx => by
    obtain ⟨sl, e1⟩ := a.slot c ob q n hc hx
    obtain ⟨sl', e2⟩ := b.slot c _ e1 (a.free c ob q n hx) hc hx
    exact ⟨sl', e2⟩
  free := fun c ob q n hx => by
    obtain ⟨o', e1⟩ := a.there c ob q hx
    exact b.free c o' e1 (a.free c ob q n hx) hx
  there := fun c ob q hx => by
    obtain ⟨o', e1⟩ := a.there c ob q hx
    exact b.there c o' e1 hx
  tups := fun c xs q => b.tups c xs (a.tups c xs q)
  frzs := fun c ob xs q => b.frzs c ob xs (a.frzs c ob xs q)
  tbls := fun c ps q => by
    obtain ⟨m1, e1⟩ := a.tbls c ps q
    obtain ⟨m2, e2⟩ := b.tbls c _ e1
    exact ⟨m1 ++ m2, by rw [e2, Array.append_assoc]⟩
theorem Un.kept (k : ∀ b u, h.get? b = some u → h'.get? b = some u) : Un fs ex H H h h' :=
  ⟨fun b ob q _ _ _ => k b ob q, fun b ob q _ _ _ => ⟨ob.slots, k b ob q⟩, fun _ _ _ n _ => n, fun b ob q _ => ⟨ob, k b ob q⟩, fun _ _ q => q, fun _ _ _ q => q, fun _ ps q => ⟨#[], by rw [q]; simp⟩⟩
theorem Un.refl : Un fs ex H H h h := Un.kept fun _ _ q => q
theorem Un.laid (k : ∀ b u, h.get? b = some u → h'.get? b = some u) (hp : h.objs.size ≤ a) (hn : H a = none) : Un fs ex H (upd H a o) h h' where
  keep := fun b u q _ _ _ => k b u q
  slot := fun b u q _ _ _ => ⟨u.slots, k b u q⟩
  free := fun b u q n _ => by rw [upd_ne (Nat.ne_of_lt (Nat.lt_of_lt_of_le (Heap.lt_size q) hp))]; exact n
  there := fun b u q _ => ⟨u, k b u q⟩
  tups := fun b xs q => by rw [upd_ne (ne_of_none q hn)]; exact q
  frzs := fun b u xs q => by rw [upd_ne (ne_of_none q hn)]; exact q
  tbls := fun b ps q => ⟨#[], by rw [upd_ne (ne_of_none q hn), q]; simp⟩
theorem Un.write (mu : Mut (H x)) (he : e = x ∨ H e = some (.own x)) (k : ∀ b u, b ≠ e → h.get? b = some u → h'.get? b = some u) (heo : ∃ u, h'.get? e = some u) : Un fs ex H (upd H x o) h h' := by
  have hx : ∀ b, H b = none → b ≠ x := fun b n z => by subst z; rw [n] at mu; exact mu
  have hb : ∀ b, H b = none → b ≠ e := fun b n z => by
    subst z
    rcases he with r | r
    · exact hx b n r
    · rw [n] at r; cases r
  have hm : ∀ b u, H b = some u → ¬ Mut (some u) → b ≠ x := fun b u q nm z => by subst z; rw [q] at mu; exact nm mu
  refine ⟨fun b u q n _ _ => k b u (hb b n) q, fun b u q n _ _ => ⟨u.slots, k b u (hb b n) q⟩, fun b u q n _ => by rw [upd_ne (hx b n)]; exact n, fun b u q _ => ?_,
    fun b xs q => by rw [upd_ne (hm b _ q fun z => z)]; exact q, fun b u xs q => by rw [upd_ne (hm b _ q fun z => z)]; exact q, fun b ps q => ⟨#[], by rw [upd_ne (hm b _ q fun z => z), q]; simp⟩⟩
  by_cases hbe : b = e
  · subst hbe; exact heo
  · exact ⟨u, k b u hbe q⟩
theorem Un.mono (u : Un fs ex H H1 h h1) (hs : ∀ b ∈ fs, b ∈ fs') (hx : ∀ b ∈ ex, b ∈ ex') : Un fs' ex' H H1 h h1 :=
  ⟨fun b ob q n hb he => u.keep b ob q n (fun z => hb (hs b z)) fun z => he (hx b z), fun _ _ q n _ he => u.any q n fun z => he (hx _ z), fun b ob q n he => u.free b ob q n fun z => he (hx b z), fun b ob q he => u.there b ob q fun z => he (hx b z), u.tups, u.frzs, u.tbls⟩
end

/-! ### the heap without what is tracked -/
def trk (h : Heap) (H : Hp) : List Addr := (List.range h.objs.size).filter fun a => (H a).isSome
def hidT (h : Heap) (H : Hp) : Heap := PySem.W.hideAll h (trk h H)
theorem hidT_size (h : Heap) (H : Hp) : (hidT h H).objs.size = h.objs.size := PySem.W.hideAll_size _ _
theorem hidT_get {h : Heap} {H : Hp} {b : Addr} {o : Obj} (e : h.get? b = some o) (n : H b = none) : (hidT h H).get? b = some o :=
  PySem.W.hideAll_get _ e fun hm => by
    have q : (H b).isSome = true := (List.mem_filter.mp hm).2
    rw [n] at q; simp at q
theorem of_hidT {h : Heap} {H : Hp} {b : Addr} {o : Obj} (e : (hidT h H).get? b = some o) : h.get? b = some o ∧ H b = none := by
  have e' : h.get? b = some o := PySem.W.of_hideAll (trk h H) e
  refine ⟨e', ?_⟩
  cases q : H b with
  | none => rfl
  | some x =>
    have hm : b ∈ trk h H := List.mem_filter.mpr ⟨List.mem_range.mpr (Heap.lt_size e'), by simp [q]⟩
    have z : (hidT h H).get? b = none := PySem.W.hideAll_none (trk h H) hm
    rw [z] at e; cases e

/-! ### OpenK's ledger, filled with every new object but one -/
def allNews (g h : Heap) (L : Addr) : List (Addr × Obj) := (List.range h.objs.size).filterMap fun a => if a = L ∨ (g.get? a).isSome = true then none else (h.get? a).map fun o => (a, o)
theorem mem_allNews {g h : Heap} {L a : Addr} {o : Obj} (h1 : a ≠ L) (h2 : g.get? a = none) (h3 : h.get? a = some o) : (a, o) ∈ allNews g h L :=
  List.mem_filterMap.mpr ⟨a, List.mem_range.mpr (Heap.lt_size h3), by simp [h1, h2, h3]⟩
theorem of_mem_allNews {g h : Heap} {L : Addr} {p : Addr × Obj} (hp : p ∈ allNews g h L) : p.1 ≠ L ∧ g.get? p.1 = none ∧ h.get? p.1 = some p.2 := by
  obtain ⟨b, _, e⟩ := List.mem_filterMap.mp hp
  split at e
  · cases e
  · rename_i hn
    cases q : h.get? b with
    | none => rw [q] at e; simp at e
    | some u =>
      rw [q] at e
      simp only [Option.map_some, Option.some.injEq] at e
      subst e
      refine ⟨fun z => hn (.inl z), ?_, q⟩
      show g.get? b = none
      cases r : g.get? b with
      | none => rfl
      | some v => exact (hn (.inr (by simp [r]))).elim
def rest (g h : Heap) (L d : Addr) : List (Addr × Obj) := (allNews g h L).filter fun p => decide (p.1 ≠ d)
theorem rest_ne {g h : Heap} {L d : Addr} : ∀ p ∈ rest g h L d, p.1 ≠ d := fun p hp => of_decide_eq_true (List.mem_filter.mp hp).2
theorem mem_rest {g h : Heap} {L d a : Addr} {o : Obj} (h1 : a ≠ L) (h2 : g.get? a = none) (h3 : h.get? a = some o) (h4 : a ≠ d) : (a, o) ∈ rest g h L d :=
  List.mem_filter.mpr ⟨mem_allNews h1 h2 h3, decide_eq_true h4⟩
theorem news_all {g h : Heap} {L : Addr} : News g L h (allNews g h L) := fun p hp => let ⟨a, b, c⟩ := of_mem_allNews hp; ⟨c, a, b⟩
theorem news_at {g h : Heap} {L d : Addr} {o : Obj} (h1 : d ≠ L) (h2 : g.get? d = none) (h3 : h.get? d = some o) : News g L h ((d, o) :: rest g h L d) := fun p hp => by
  rcases List.mem_cons.mp hp with rfl | hp
  · exact ⟨h3, h1, h2⟩
  · exact news_all p (List.mem_filter.mp hp).1
/-- behind a rule that changed d alone: all else but the frame is kept -/
theorem kept_of_news {g h h' : Heap} {L d : Addr} {m : Str → Option Value} (k : ∀ b o, g.get? b = some o → h.get? b = some o) (F : Fr g L h' m) (N : News g L h' (rest g h L d)) :
    ∀ b o, b ≠ L → b ≠ d → h.get? b = some o → h'.get? b = some o := fun b o h1 h2 e => by
  cases q : g.get? b with
  | some u =>
    have := k b u q
    rw [e] at this; cases this
    exact F.keep b _ q
  | none => exact (N (b, o) (mem_rest h1 q e h2)).1
end L2

namespace L2
open PySem PySem.Spec PyProof.Rows

/-- the module's facts, over the base: the heap at the law's entry without what is tracked there -/
structure Mod (K : PySem.W.Frag) (mg : Str → Option Value) (base : Heap) : Prop where
  kin : K.In base
  glob : base.Ns mainGlobals mg
  blt : ∃ mb, base.Ns builtinsNs mb ∧ ∀ x : Str, x ≠ "__name__" → mb x = bootBuiltins x
  nolimit : base.NoLimit

/-- the context: a def's body (or a comprehension's block) running. base: fixed through the whole law; s₀, H₀: the entry; outer: the frames whose slots others may change (a def's callers); stack: all frames that run;
   ex: iterators that were made ahead of the entry and are walked here (a comprehension's); fn: the names whose cells were made at the entry (a def: all; a comprehension's block: its own); calm: not within an except suite; pn: pins that every state bears; xe: what is wanted of an exception that leaves the code -/
structure Cx where
  prog : Program
  w : World
  K : PySem.W.Frag
  mg : Str → Option Value
  base : Heap
  A : Around
  N : List Str
  s₀ : Shared
  H₀ : Hp
  env : Env
  outer : List Env
  stack : List Env
  ex : List Addr
  fn : Str → Bool
  calm : Bool
  pn : List (Addr × Obj)
  xe : Value → Shared → Prop
/-- the callers' frames -/
def frs (l : List Env) : List Addr := l.filterMap (·.frame)
abbrev Cx.fs (X : Cx) : List Addr := frs X.outer

def Vis (sc : Scope) (x : Str) : Prop := sc.names.lookup x = some .local ∨ sc.names.lookup x = some .cell ∨ sc.names.lookup x = some .free
def Loc (sc : Scope) (x : Str) : Prop := sc.names.lookup x = some .local ∨ sc.names.lookup x = some .cell
def Look (env : Env) (h : Heap) (m : Str → Option Value) (x : Str) (u : Value) : Prop :=
  (env.kindOf x = some .local ∧ m x = some u) ∨ ((env.kindOf x = some .cell ∨ env.kindOf x = some .free) ∧ ∃ c, env.cells.lookup x = some c ∧ h.IsCell c (some u))

structure Cx.Ok (X : Cx) : Prop where
  mod : Mod X.K X.mg X.base
  kind : X.env.scope.kind = .function
  glob : X.env.globals = mainGlobals
  blt : X.env.builtins = builtinsNs
  above : X.s₀.heap.objs.size ≤ X.env.locals
  inj : ∀ x y c, X.env.cells.lookup x = some c → X.env.cells.lookup y = some c → x = y
  has : ∀ x, (X.env.kindOf x = some .cell ∨ X.env.kindOf x = some .free) → ∃ c, X.env.cells.lookup x = some c
  cab : ∀ x c, X.fn x = true → X.env.cells.lookup x = some c → X.s₀.heap.objs.size ≤ c
  hd : X.calm = true → X.A.handled = none
  frames : X.A.frames = some X.stack
  stk : X.stack = X.outer ∨ (X.stack = X.env :: X.outer ∧ X.env.frame = some X.env.locals)
  exf : ∀ b ∈ X.ex, b ≠ X.env.locals ∧ ∀ x c, X.env.cells.lookup x = some c → c ≠ b
  bs : ∀ b o, X.base.get? b = some o → X.s₀.heap.get? b = some o ∧ X.H₀ b = none
  bsz : X.base.objs.size ≤ X.s₀.heap.objs.size
  noex : ∀ b o, X.base.get? b = some o → b ∉ X.ex
  exfs : ∀ b ∈ X.ex, b ∉ X.fs
  funs : X.s₀.heap.FunFrames X.base X.outer
  frf : ∀ b ∈ X.fs, X.H₀ b = none

structure Inv (X : Cx) (pins : List (Addr × Obj)) (σ : List (Option V)) (H : Hp) (s : Shared) : Prop where
  ok : X.Ok
  os : s.os = X.s₀.os
  bare : AllBare s.gens
  base : Un X.fs X.ex X.H₀ H X.s₀.heap s.heap
  loc : ∃ m, s.heap.Ns X.env.locals m ∧ ∀ (i : Nat) (x : Str) (v : V), X.N[i]? = some x → σ[i]? = some (some v) → Vis X.env.scope x → ∃ u, RelV v u ∧ Look X.env s.heap m x u
  cell : ∀ x c, X.env.cells.lookup x = some c → ∃ v, s.heap.IsCell c v
  free : H X.env.locals = none
  freeC : ∀ x c, X.env.cells.lookup x = some c → H c = none
  pin : ∀ p ∈ X.pn ++ pins, s.heap.get? p.1 = some p.2 ∧ H p.1 = none ∧ p.1 ≠ X.env.locals ∧ p.1 ∉ X.fs ∧ ∀ v, p.2.data ≠ .cell v
  hok : HOk X.prog X.w H s.heap
  len : σ.length = X.N.length

section
variable {X : Cx} {pins : List (Addr × Obj)} {σ : List (Option V)} {H H' : Hp} {s : Shared} {h' : Heap}

theorem Cx.Ok.nofr (ok : X.Ok) {b : Addr} {o : Obj} (e : X.base.get? b = some o) : b ∉ X.fs := fun hb => by
  have := (ok.funs.mem hb).1
  rw [e] at this; cases this
theorem Inv.bs (I : Inv X pins σ H s) : ∀ b o, X.base.get? b = some o → s.heap.get? b = some o ∧ H b = none := fun b o e =>
  ⟨I.base.keep b o (I.ok.bs b o e).1 (I.ok.bs b o e).2 (I.ok.nofr e) (I.ok.noex b o e), I.base.free b o (I.ok.bs b o e).1 (I.ok.bs b o e).2 (I.ok.noex b o e)⟩
theorem Inv.bk (I : Inv X pins σ H s) : ∀ b o, X.base.get? b = some o → s.heap.get? b = some o := fun b o e => (I.bs b o e).1
theorem Inv.mod (I : Inv X pins σ H s) : Mod X.K X.mg X.base := I.ok.mod
theorem Inv.kIn (I : Inv X pins σ H s) : X.K.In s.heap := I.ok.mod.kin.keeps I.bk
theorem Inv.nolimit (I : Inv X pins σ H s) : s.heap.NoLimit := I.ok.mod.nolimit.keeps I.bk
/-- the frame over the base: for OpenK's rules (K.In X.base is I.mod.kin) -/
theorem Inv.fr (I : Inv X pins σ H s) : ∃ m, Fr X.base X.env.locals s.heap m :=
  let ⟨m, hn, _⟩ := I.loc
  ⟨m, hn, I.bk, Nat.le_trans I.ok.bsz I.ok.above⟩
theorem Inv.lt (I : Inv X pins σ H s) : X.env.locals < s.heap.objs.size := let ⟨_, hn, _⟩ := I.loc; hn.lt
theorem Inv.sz (I : Inv X pins σ H s) : X.s₀.heap.objs.size ≤ s.heap.objs.size := Nat.le_trans I.ok.above (Nat.le_of_lt I.lt)
theorem Inv.nofs (I : Inv X pins σ H s) {a : Addr} (h : s.heap.objs.size ≤ a) : a ∉ X.fs := fun hb => by
  obtain ⟨_, o, ho, _⟩ := I.ok.funs.mem hb
  exact absurd (Nat.lt_of_lt_of_le (Heap.lt_size ho) (Nat.le_trans I.sz h)) (Nat.lt_irrefl _)
theorem Inv.cne (I : Inv X pins σ H s) : ∀ x c, X.env.cells.lookup x = some c → c ≠ X.env.locals := fun x c e z => by
  obtain ⟨v, o, ho, hd⟩ := I.cell x c e
  obtain ⟨m, ⟨o', es, ep, ho', hd', _⟩, _⟩ := I.loc
  rw [z, ho'] at ho; cases ho; rw [hd'] at hd; cases hd
theorem Inv.funs (I : Inv X pins σ H s) : s.heap.FunFrames X.base X.outer := by
  have all : ∀ (l : List Env), (∀ b ∈ frs l, b ∈ X.fs) → X.s₀.heap.FunFrames X.base l → s.heap.FunFrames X.base l := by
    intro l
    induction l with
    | nil => intro _ _; trivial
    | cons env r ih =>
      intro hs hl
      obtain ⟨hk, ⟨L, o, hf, hn, ho, hd⟩, hr⟩ := hl
      have hL : L ∈ X.fs := hs L (by unfold frs; rw [List.filterMap_cons, hf]; exact List.mem_cons_self)
      obtain ⟨sl, e⟩ := I.base.slot L o ho (I.ok.frf L hL) hL fun z => I.ok.exfs L z hL
      exact ⟨hk, ⟨L, _, hf, hn, e, hd⟩, ih (fun b hb => hs b (by unfold frs; rw [List.filterMap_cons, hf]; exact List.mem_cons_of_mem _ hb)) hr⟩
  exact all X.outer (fun _ hb => hb) I.ok.funs

/-- the frames that run, for a call -/
theorem Inv.stack (I : Inv X pins σ H s) : s.heap.FunFrames X.base X.stack := by
  rcases I.ok.stk with e | ⟨e, hf⟩
  · rw [e]; exact I.funs
  · rw [e]
    obtain ⟨m, hn, _⟩ := I.loc
    refine .cons (by rw [I.ok.kind]; decide) hf hn ?_ I.funs
    exact Heap.get?_none_of_le (Nat.le_trans I.ok.bsz I.ok.above)
theorem Inv.stkSub (I : Inv X pins σ H s) : ∀ b ∈ frs X.stack, b ∈ X.env.locals :: X.fs := fun b hb => by
  rcases I.ok.stk with e | ⟨e, hf⟩
  · rw [e] at hb; exact List.mem_cons_of_mem _ hb
  · rw [e] at hb
    unfold frs at hb
    rw [List.filterMap_cons, hf] at hb
    exact hb
theorem Inv.stkFree (I : Inv X pins σ H s) : ∀ b ∈ frs X.stack, H b = none := fun b hb => by
  rcases List.mem_cons.mp (I.stkSub b hb) with e | hb
  · rw [e]; exact I.free
  · obtain ⟨_, o, ho, _⟩ := I.ok.funs.mem hb
    exact I.base.free b o ho (I.ok.frf b hb) fun z => I.ok.exfs b z hb

/-- THE STEP: the untracked objects but the frame and the records at ch are kept (the callers' frames up to slots), the frame's map is kept, the new abstract heap is held -/
theorem Inv.step {g' : Array GenState} {t' : Nat} {d' : Drawn} {ch : List Addr} (I : Inv X pins σ H s)
    (hch : ∀ b ∈ ch, (b ∈ X.ex ∨ X.s₀.heap.objs.size ≤ b) ∧ b ≠ X.env.locals ∧ (∀ x c, X.env.cells.lookup x = some c → c ≠ b) ∧ ∀ p ∈ X.pn ++ pins, p.1 ≠ b)
    (keep : ∀ b o, b ≠ X.env.locals → b ∉ X.fs → b ∉ ch → s.heap.get? b = some o → H b = none → h'.get? b = some o)
    (slot : ∀ b o, b ≠ X.env.locals → b ∈ X.fs → b ∉ ch → s.heap.get? b = some o → H b = none → ∃ sl, h'.get? b = some { o with slots := sl }) (free : ∀ b o, b ∉ ch → s.heap.get? b = some o → H b = none → H' b = none)
    (there : ∀ b o, b ∉ ch → s.heap.get? b = some o → ∃ o', h'.get? b = some o')
    (tups : ∀ b xs, H b = some (.tup xs) → H' b = some (.tup xs)) (frzs : ∀ b o u, H b = some (.frz o u) → H' b = some (.frz o u)) (tbls : ∀ b ps, H b = some (.tbl ps) → ∃ more, H' b = some (.tbl (ps ++ more)))
    (ns : ∀ m, s.heap.Ns X.env.locals m → h'.Ns X.env.locals m) (hok : HOk X.prog X.w H' h') (hg : AllBare g') :
    Inv X pins σ H' { s with heap := h', gens := g', drawn := d', toks := t' } := by
  have neL : ∀ b o, X.s₀.heap.get? b = some o → b ≠ X.env.locals := fun b o e => Nat.ne_of_lt (Nat.lt_of_lt_of_le (Heap.lt_size e) I.ok.above)
  have neC : ∀ b o, X.s₀.heap.get? b = some o → b ∉ X.ex → b ∉ ch := fun b o e hx hb => by
    rcases (hch b hb).1 with z | z
    · exact hx z
    · exact absurd (Nat.lt_of_lt_of_le (Heap.lt_size e) z) (Nat.lt_irrefl _)
  have cellK : ∀ x c, X.env.cells.lookup x = some c → ∀ v, s.heap.IsCell c v → h'.IsCell c v := fun x c e v ⟨o, ho, hd⟩ => by
    have nch : c ∉ ch := fun z => (hch c z).2.2.1 x c e rfl
    by_cases hc : c ∈ X.fs
    · obtain ⟨sl, q⟩ := slot c o (I.cne x c e) hc nch ho (I.freeC x c e)
      exact ⟨_, q, hd⟩
    · exact ⟨o, keep c o (I.cne x c e) hc nch ho (I.freeC x c e), hd⟩
  refine ⟨I.ok, I.os, hg, ⟨fun b o e n hb hx => ?_, fun b o e n hb hx => ?_, fun b o e n hx => ?_, fun b o e hx => ?_, fun b xs e => tups b xs (I.base.tups b xs e), fun b o xs e => frzs b o xs (I.base.frzs b o xs e), fun b ps e => ?_⟩, ?_, fun x c e => ?_, ?_, fun x c e => ?_, fun p hp => ?_, hok, I.len⟩
  · exact keep b o (neL b o e) hb (neC b o e hx) (I.base.keep b o e n hb hx) (I.base.free b o e n hx)
  · obtain ⟨sl, e1⟩ := I.base.slot b o e n hb hx
    obtain ⟨sl', e2⟩ := slot b _ (neL b o e) hb (neC b o e hx) e1 (I.base.free b o e n hx)
    exact ⟨sl', e2⟩
  · obtain ⟨o', e1⟩ := I.base.there b o e hx
    exact free b o' (neC b o e hx) e1 (I.base.free b o e n hx)
  · obtain ⟨o', e1⟩ := I.base.there b o e hx
    exact there b o' (neC b o e hx) e1
  · obtain ⟨m1, e1⟩ := I.base.tbls b ps e
    obtain ⟨m2, e2⟩ := tbls b _ e1
    exact ⟨m1 ++ m2, by rw [e2, Array.append_assoc]⟩
  · obtain ⟨m, hn, hl⟩ := I.loc
    refine ⟨m, ns m hn, fun i x v e1 e2 e3 => ?_⟩
    obtain ⟨u, r, l⟩ := hl i x v e1 e2 e3
    refine ⟨u, r, ?_⟩
    rcases l with l | ⟨k, c, e, z⟩
    · exact .inl l
    · exact .inr ⟨k, c, e, cellK x c e _ z⟩
  · obtain ⟨v, z⟩ := I.cell x c e
    exact ⟨v, cellK x c e v z⟩
  · obtain ⟨m, ⟨o, _, _, ho, _⟩, _⟩ := I.loc
    exact free _ o (fun z => (hch _ z).2.1 rfl) ho I.free
  · obtain ⟨v, o, ho, hd⟩ := I.cell x c e
    exact free c o (fun z => (hch c z).2.2.1 x c e rfl) ho (I.freeC x c e)
  · obtain ⟨e, n, ne, nf, d⟩ := I.pin p hp
    have nch : p.1 ∉ ch := fun z => (hch p.1 z).2.2.2 p hp rfl
    exact ⟨keep p.1 p.2 ne nf nch e n, free p.1 p.2 nch e n, ne, nf, d⟩
/-- .. where the frame's own object is kept too -/
theorem Inv.un {t' : Nat} (I : Inv X pins σ H s) (u : Un X.fs [] H H' s.heap h') (hok : HOk X.prog X.w H' h') : Inv X pins σ H' { s with heap := h', toks := t' } := by
  obtain ⟨m, ⟨o, es, ep, ho, r⟩, _⟩ := id I.loc
  obtain ⟨sl, hL⟩ := u.any ho I.free (by simp)
  exact I.step (g' := s.gens) (d' := s.drawn) (ch := []) (fun _ z => nomatch z) (fun b o _ hb _ e n => u.keep b o e n hb (by simp)) (fun b o _ hb _ e n => u.slot b o e n hb (by simp)) (fun b o _ e n => u.free b o e n (by simp)) (fun b o _ e => u.there b o e (by simp)) u.tups u.frzs u.tbls (fun m' hm => by
    obtain ⟨o', es', ep', ho', r'⟩ := hm
    rw [ho] at ho'; cases ho'
    exact ⟨_, es', ep', hL, r'⟩) hok I.bare
/-- behind a call (or a comprehension's block): the slots of this frame may have changed too, the records at ch may have turned -/
theorem Inv.call {g' : Array GenState} {t' : Nat} {d' : Drawn} {ch : List Addr} (I : Inv X pins σ H s) (u : Un (frs X.stack) ch H H' s.heap h') (hok : HOk X.prog X.w H' h') (hg : AllBare g')
    (hch : ∀ b ∈ ch, (b ∈ X.ex ∨ X.s₀.heap.objs.size ≤ b) ∧ b ≠ X.env.locals ∧ (∀ x c, X.env.cells.lookup x = some c → c ≠ b) ∧ ∀ p ∈ X.pn ++ pins, p.1 ≠ b) :
    Inv X pins σ H' { s with heap := h', gens := g', drawn := d', toks := t' } := by
  obtain ⟨m, ⟨o, es, ep, ho, r⟩, _⟩ := id I.loc
  obtain ⟨sl, hL⟩ := u.any ho I.free fun z => (hch _ z).2.1 rfl
  exact I.step (ch := ch) hch (fun b o hL hb hc e n => u.keep b o e n (fun z => (List.mem_cons.mp (I.stkSub b z)).elim hL hb) hc) (fun b o _ _ hc e n => u.any e n hc) (fun b o hc e n => u.free b o e n hc) (fun b o hc e => u.there b o e hc) u.tups u.frzs u.tbls (fun m' hm => by
    obtain ⟨o', es', ep', ho', r'⟩ := hm
    rw [ho] at ho'; cases ho'
    exact ⟨_, es', ep', hL, r'⟩) hok hg
/-- an untracked record of ours (an iterator) has turned -/
theorem Inv.turned {t' : Nat} {it : Addr} (I : Inv X pins σ H s) (k : ∀ b o, b ≠ it → s.heap.get? b = some o → h'.get? b = some o) (hn : H it = none) (hL : it ≠ X.env.locals)
    (h1 : it ∈ X.ex ∨ X.s₀.heap.objs.size ≤ it) (h2 : ∀ x c, X.env.cells.lookup x = some c → c ≠ it) (h3 : ∀ p ∈ X.pn ++ pins, p.1 ≠ it) : Inv X pins σ H { s with heap := h', toks := t' } := by
  have nit : ∀ b u, H b = some u → b ≠ it := fun b u e z => by rw [z, hn] at e; cases e
  refine I.step (g' := s.gens) (d' := s.drawn) (ch := [it]) (fun b hb => ?_) (fun b o _ _ hc e _ => k b o (fun z => hc (by simp [z])) e) (fun b o _ _ hc e _ => ⟨o.slots, k b o (fun z => hc (by simp [z])) e⟩) (fun _ _ _ _ n => n)
    (fun b o hc e => ⟨o, k b o (fun z => hc (by simp [z])) e⟩) (fun _ _ e => e) (fun _ _ _ e => e) (fun b ps e => ⟨#[], by rw [e]; simp⟩) (fun m hm => ?_) (fun b u e => ?_) I.bare
  · have e : b = it := by simpa using hb
    subst e
    exact ⟨h1, hL, h2, h3⟩
  · obtain ⟨o, es, ep, ho, r⟩ := hm
    exact ⟨o, es, ep, k _ o (Ne.symm hL) ho, r⟩
  · refine (I.hok b u e).stay (fun c v hc q => k c v ?_ q) (fun _ q => q) fun _ _ q => q
    rcases hc with z | z
    · rw [z]; exact nit b u e
    · exact nit c _ z
theorem Inv.tok (I : Inv X pins σ H s) (t : Nat) : Inv X pins σ H { s with toks := t } := I.un (h' := s.heap) (t' := t) Un.refl I.hok
/-- all objects kept -/
theorem Inv.kept {t' : Nat} (I : Inv X pins σ H s) (k : ∀ b u, s.heap.get? b = some u → h'.get? b = some u) : Inv X pins σ H { s with heap := h', toks := t' } := I.un (Un.kept k) (I.hok.kept k)
/-- a new object laid and tracked -/
theorem Inv.laid {a : Addr} {o : HO} {t' : Nat} (I : Inv X pins σ H s) (k : ∀ b u, s.heap.get? b = some u → h'.get? b = some u) (hp : s.heap.objs.size ≤ a) (new : ObjOk X.prog X.w (upd H a o) h' a o) :
    Inv X pins σ (upd H a o) { s with heap := h', toks := t' } := I.un (Un.laid k hp (I.hok.fresh hp)) (I.hok.laid k hp new)
/-- an object written -/
theorem Inv.write {x e : Addr} {o : HO} {t' : Nat} (I : Inv X pins σ H s) (mu : Mut (H x)) (he : e = x ∨ H e = some (.own x)) (k : ∀ b u, b ≠ e → s.heap.get? b = some u → h'.get? b = some u) (heo : ∃ u, h'.get? e = some u)
    (new : ObjOk X.prog X.w (upd H x o) h' x o) : Inv X pins σ (upd H x o) { s with heap := h', toks := t' } := I.un (Un.write mu he k heo) (I.hok.write mu he k heo new)
/-- forgetting slots, pins -/
theorem Inv.weak {σ' : List (Option V)} (I : Inv X pins σ H s) (hl : σ'.length = σ.length) (w : ∀ (i : Nat) v, σ'[i]? = some (some v) → σ[i]? = some (some v)) : Inv X pins σ' H s :=
  ⟨I.ok, I.os, I.bare, I.base, let ⟨m, hn, hl'⟩ := I.loc; ⟨m, hn, fun i x v e1 e2 e3 => hl' i x v e1 (w i v e2) e3⟩, I.cell, I.free, I.freeC, I.pin, I.hok, hl.trans I.len⟩
theorem Inv.pins_of {pins' : List (Addr × Obj)} (I : Inv X pins σ H s) (h : ∀ p ∈ pins', s.heap.get? p.1 = some p.2 ∧ H p.1 = none ∧ p.1 ≠ X.env.locals ∧ p.1 ∉ X.fs ∧ ∀ v, p.2.data ≠ .cell v) : Inv X pins' σ H s :=
  ⟨I.ok, I.os, I.bare, I.base, I.loc, I.cell, I.free, I.freeC, fun p hp => (List.mem_append.mp hp).elim (fun z => I.pin p (List.mem_append_left _ z)) (h p), I.hok, I.len⟩

theorem nodup_ix {N : List Str} (hN : N.Nodup) {i j : Nat} {x : Str} (a : N[i]? = some x) (b : N[j]? = some x) : i = j := by
  obtain ⟨h1, e1⟩ := List.getElem?_eq_some_iff.mp a
  obtain ⟨h2, e2⟩ := List.getElem?_eq_some_iff.mp b
  exact (List.getElem_inj hN).mp (e1.trans e2.symm)

/-- a name is stored; what changed -/
theorem store_ok2 {M : Model} {A : Around} {E : Value → Shared → Prop} {i : Nat} {x : Str} {v : V} {u : Value} {Q : Unit → Shared → Prop} (I : Inv X pins σ H s) (hN : X.N.Nodup) (hi : X.N[i]? = some x) (hx : Loc X.env.scope x) (r : RelV v u)
    (h : ∀ s', Inv X pins (σ.set i (some v)) H s' → (∃ a, Heap.SameBut a s.heap s'.heap ∧ (a = X.env.locals ∨ X.env.cells.lookup x = some a)) → Q () s') (hf : X.fn x = true ∨ X.env.scope.names.lookup x = some .local := by first | exact .inl rfl | exact .inr rfl | assumption) : wpAny M A (storeName X.env x u) Q E s := by
  obtain ⟨m, hn, hl⟩ := id I.loc
  have hcls : (X.env.scope.kind == .class || (X.env.scope.kind == .module && X.env.locals != X.env.globals)) = false := by rw [I.ok.kind]; rfl
  have hiσ : i < σ.length := by rw [I.len]; exact (List.getElem?_eq_some_iff.mp hi).1
  have cne := I.cne
  have tracked : ∀ {a : Addr} {h' : Heap}, (∃ o, s.heap.get? a = some o ∧ H a = none) → Heap.SameBut a s.heap h' → HOk X.prog X.w H h' := fun {a h'} ha hs b ob e => by
    obtain ⟨_, _, hfree⟩ := ha
    refine (I.hok b ob e).stay (fun c w' hc q => (hs.2 c ?_).trans q) (fun _ q => q) fun _ _ q => q
    rintro rfl
    rcases hc with rfl | hc
    · rw [hfree] at e; cases e
    · rw [hfree] at hc; cases hc
  rcases hx with hk | hk
  · refine wpAny_storeName_local hk hn (fun h' hn' hs => ?_) hcls
    obtain ⟨oL, _, _, hoL, _⟩ := id hn
    refine h _ ⟨I.ok, I.os, I.bare, ⟨fun b o e n hb hx => ?_, fun b o e n hb hx => ?_, I.base.free, fun b o e hx => ?_, I.base.tups, I.base.frzs, I.base.tbls⟩, ⟨_, hn', fun j y v' e1 e2 e3 => ?_⟩, fun y c e => ?_, I.free, I.freeC, fun p hp => ?_, tracked ⟨oL, hoL, I.free⟩ hs, by simpa using I.len⟩ ⟨_, hs, .inl rfl⟩
    · exact (hs.2 b (Nat.ne_of_lt (Nat.lt_of_lt_of_le (Heap.lt_size e) I.ok.above))).trans (I.base.keep b o e n hb hx)
    · obtain ⟨sl, e1⟩ := I.base.slot b o e n hb hx
      exact ⟨sl, (hs.2 b (Nat.ne_of_lt (Nat.lt_of_lt_of_le (Heap.lt_size e) I.ok.above))).trans e1⟩
    · obtain ⟨o', e1⟩ := I.base.there b o e hx
      exact ⟨o', (hs.2 b (Nat.ne_of_lt (Nat.lt_of_lt_of_le (Heap.lt_size e) I.ok.above))).trans e1⟩
    · by_cases hj : j = i
      · subst hj
        rw [hi] at e1; cases e1
        rw [List.getElem?_set_self hiσ] at e2
        cases e2
        exact ⟨u, r, .inl ⟨hk, by simp⟩⟩
      · rw [List.getElem?_set_ne (Ne.symm hj)] at e2
        obtain ⟨u', r', q⟩ := hl j y v' e1 e2 e3
        refine ⟨u', r', ?_⟩
        rcases q with ⟨k, e⟩ | ⟨k, c, e, z⟩
        · refine .inl ⟨k, ?_⟩
          have : y ≠ x := fun e => hj (nodup_ix hN e1 (e ▸ hi))
          simp [this, e]
        · exact .inr ⟨k, c, e, z.sameBut hs (cne y c e)⟩
    · obtain ⟨w', z⟩ := I.cell y c e
      exact ⟨w', z.sameBut hs (cne y c e)⟩
    · obtain ⟨e, n, ne, nf, d⟩ := I.pin p hp
      exact ⟨(hs.2 p.1 ne).trans e, n, ne, nf, d⟩
  · have hfn : X.fn x = true := by
      rcases hf with z | z
      · exact z
      · rw [z] at hk; cases hk
    obtain ⟨c, hc⟩ := I.ok.has x (.inl hk)
    obtain ⟨w', z⟩ := I.cell x c hc
    refine wpAny_storeName_cell I.ok.kind hk hc z (fun h' hc' hs => ?_)
    obtain ⟨oc, hoc, hocd⟩ := id z
    refine h { s with heap := h' } ⟨I.ok, I.os, I.bare, ⟨fun b o e n hb hx => ?_, fun b o e n hb hx => ?_, I.base.free, fun b o e hx => ?_, I.base.tups, I.base.frzs, I.base.tbls⟩, ⟨m, hn.sameBut hs (Ne.symm (cne x c hc)), fun j y v' e1 e2 e3 => ?_⟩, fun y c' e => ?_, I.free, I.freeC, fun p hp => ?_, tracked ⟨oc, hoc, I.freeC x c hc⟩ hs, by simpa using I.len⟩ ⟨c, hs, .inr hc⟩
    · exact (hs.2 b (Nat.ne_of_lt (Nat.lt_of_lt_of_le (Heap.lt_size e) (I.ok.cab x c hfn hc)))).trans (I.base.keep b o e n hb hx)
    · obtain ⟨sl, e1⟩ := I.base.slot b o e n hb hx
      exact ⟨sl, (hs.2 b (Nat.ne_of_lt (Nat.lt_of_lt_of_le (Heap.lt_size e) (I.ok.cab x c hfn hc)))).trans e1⟩
    · obtain ⟨o', e1⟩ := I.base.there b o e hx
      exact ⟨o', (hs.2 b (Nat.ne_of_lt (Nat.lt_of_lt_of_le (Heap.lt_size e) (I.ok.cab x c hfn hc)))).trans e1⟩
    · by_cases hj : j = i
      · subst hj
        rw [hi] at e1; cases e1
        rw [List.getElem?_set_self hiσ] at e2
        cases e2
        exact ⟨u, r, .inr ⟨.inl hk, c, hc, hc'⟩⟩
      · rw [List.getElem?_set_ne (Ne.symm hj)] at e2
        obtain ⟨u', r', q⟩ := hl j y v' e1 e2 e3
        refine ⟨u', r', ?_⟩
        rcases q with q | ⟨k, c', e, z'⟩
        · exact .inl q
        · refine .inr ⟨k, c', e, z'.sameBut hs ?_⟩
          rintro rfl
          exact hj (nodup_ix hN e1 (I.ok.inj _ _ _ e hc ▸ hi))
    · by_cases hcc : c' = c
      · subst hcc; exact ⟨_, hc'⟩
      · obtain ⟨w2, z2⟩ := I.cell y c' e
        exact ⟨w2, z2.sameBut hs hcc⟩
    · obtain ⟨e, n, ne, nf, d⟩ := I.pin p hp
      refine ⟨(hs.2 p.1 ?_).trans e, n, ne, nf, d⟩
      intro q
      rw [q, hoc] at e
      have q' : oc = p.2 := Option.some.inj e
      exact d w' (by rw [← q']; exact hocd)
theorem store_ok {M : Model} {A : Around} {E : Value → Shared → Prop} {i : Nat} {x : Str} {v : V} {u : Value} {Q : Unit → Shared → Prop} (I : Inv X pins σ H s) (hN : X.N.Nodup) (hi : X.N[i]? = some x) (hx : Loc X.env.scope x) (r : RelV v u)
    (h : ∀ s', Inv X pins (σ.set i (some v)) H s' → Q () s') (hf : X.fn x = true ∨ X.env.scope.names.lookup x = some .local := by first | exact .inl rfl | exact .inr rfl | assumption) : wpAny M A (storeName X.env x u) Q E s :=
  store_ok2 I hN hi hx r (fun s' I' _ => h s' I') hf
/-- behind a call or a block, the state as it is -/
theorem Inv.call' {s' : Shared} {ch : List Addr} (I : Inv X pins σ H s) (ho : s'.os = s.os) (u : Un (frs X.stack) ch H H' s.heap s'.heap) (hok : HOk X.prog X.w H' s'.heap) (hg : AllBare s'.gens)
    (hch : ∀ b ∈ ch, (b ∈ X.ex ∨ X.s₀.heap.objs.size ≤ b) ∧ b ≠ X.env.locals ∧ (∀ x c, X.env.cells.lookup x = some c → c ≠ b) ∧ ∀ p ∈ X.pn ++ pins, p.1 ≠ b) : Inv X pins σ H' s' := by
  obtain ⟨h', g', d', t', o'⟩ := s'
  have e : o' = s.os := ho
  subst e
  exact I.call (g' := g') (t' := t') (d' := d') u hok hg hch
end

/-! ### the judgements -/
/-- an exception: its class, its own dict's address (where it has one), the abstract heap behind it -/
abbrev XK := Value → Option Addr → Hp → Prop
abbrev St := List (Option V)
abbrev VK := V → Hp → Prop
/-- an expression's reading; a test's; an argument list's -/
abbrev TE := St → Hp → VK → Prop
abbrev TT := St → Hp → (Bool → Hp → Prop) → Prop
abbrev TA := St → Hp → (List V → Hp → Prop) → Prop
/-- what is wanted behind a statement -/
structure Ends where
  nx : St → Hp → Prop
  rt : VK
  bk : St → Hp → Prop := fun _ _ => False
  ct : St → Hp → Prop := fun _ _ => False
abbrev TS := Ends → St → Hp → Prop

def EP (X : Cx) (pins : List (Addr × Obj)) (σ : St) (Q : VK) (u : Value) (s' : Shared) : Prop := ∃ v H', Inv X pins σ H' s' ∧ RelV v u ∧ Q v H'
def TP (X : Cx) (pins : List (Addr × Obj)) (σ : St) (Q : Bool → Hp → Prop) (b : Bool) (s' : Shared) : Prop := ∃ H', Inv X pins σ H' s' ∧ Q b H'
def AP (X : Cx) (pins : List (Addr × Obj)) (σ : St) (Q : List V → Hp → Prop) (us : List Value) (s' : Shared) : Prop := ∃ vs H', Inv X pins σ H' s' ∧ Vals vs us ∧ Q vs H'
def SP (X : Cx) (pins : List (Addr × Obj)) (D : Ends) (f : Flow) (s' : Shared) : Prop :=
  match f with
  | .next => ∃ σ' H', Inv X pins σ' H' s' ∧ D.nx σ' H'
  | .brk => ∃ σ' H', Inv X pins σ' H' s' ∧ D.bk σ' H'
  | .cont => ∃ σ' H', Inv X pins σ' H' s' ∧ D.ct σ' H'
  | .ret u => ∃ v σ' H', Inv X pins σ' H' s' ∧ RelV v u ∧ D.rt v H'

def PE (X : Cx) (e : Expr) (t : TE) : Prop :=
  ∀ (pins : List (Addr × Obj)) (s : Shared) (σ : St) (H : Hp) (Q : VK), Inv X pins σ H s → t σ H Q → wpAny (model X.prog X.w) X.A (eval e X.env) (EP X pins σ Q) X.xe s
def PT (X : Cx) (e : Expr) (t : TT) : Prop :=
  ∀ (pins : List (Addr × Obj)) (s : Shared) (σ : St) (H : Hp) (Q : Bool → Hp → Prop), Inv X pins σ H s → t σ H Q → wpAny (model X.prog X.w) X.A (isTrue e X.env (eval e X.env)) (TP X pins σ Q) X.xe s
/-- a test whatever its 'whole' is (and, or) -/
def PW (X : Cx) (e : Expr) (t : TT) : Prop :=
  ∀ (whole : Sem Value) (pins : List (Addr × Obj)) (s : Shared) (σ : St) (H : Hp) (Q : Bool → Hp → Prop), Inv X pins σ H s → t σ H Q → wpAny (model X.prog X.w) X.A (isTrue e X.env whole) (TP X pins σ Q) X.xe s
theorem PW.pt {X : Cx} {e : Expr} {t : TT} (h : PW X e t) : PT X e t := h _
/-- an argument list (no star), from the left -/
def PA (X : Cx) (es : List Expr) (t : TA) : Prop :=
  ∀ (pos : Pos) (pins : List (Addr × Obj)) (s : Shared) (σ : St) (H : Hp) (Q : List V → Hp → Prop), Inv X pins σ H s → t σ H Q → wpAny (model X.prog X.w) X.A (spliced (backTo pos (starEach es X.env))) (AP X pins σ Q) X.xe s
def PS (X : Cx) (st : Stmt) (t : TS) : Prop :=
  ∀ (pins : List (Addr × Obj)) (s : Shared) (σ : St) (H : Hp) (D : Ends), Inv X pins σ H s → t D σ H → wpAny (model X.prog X.w) X.A (exec st X.env) (SP X pins D) X.xe s
def PSs (X : Cx) (st : List Stmt) (t : TS) : Prop :=
  ∀ (pins : List (Addr × Obj)) (s : Shared) (σ : St) (H : Hp) (D : Ends), Inv X pins σ H s → t D σ H → wpAny (model X.prog X.w) X.A (execs st X.env) (SP X pins D) X.xe s
/-- weaken the end -/
theorem thn {α : Type} {t : Sem α} {Q Q' : α → Shared → Prop} {M : Model} {A : Around} {E : Value → Shared → Prop} {s : Shared} (h : wpAny M A t Q E s) (hQ : ∀ a s, Q a s → Q' a s) : wpAny M A t Q' E s := wpAny_mono h hQ fun _ _ x => x
end L2

namespace L2
open PySem PySem.Spec PyProof.Rows
section
variable {X : Cx}

/-- two expressions in a row -/
theorem bin {a b : Expr} {ta tb : TE} (ha : PE X a ta) (hb : PE X b tb) {pins : List (Addr × Obj)} {s : Shared} {σ : St} {H : Hp} {R : V → V → Hp → Prop} (I : Inv X pins σ H s) (h : ta σ H fun x H1 => tb σ H1 fun y H2 => R x y H2)
    {α : Type} {Q : α → Shared → Prop} {f : Value → Value → Sem α}
    (hf : ∀ v u s2 x y H2, Inv X pins σ H2 s2 → RelV x v → RelV y u → R x y H2 → wpAny (model X.prog X.w) X.A (f v u) Q X.xe s2) :
    wpAny (model X.prog X.w) X.A (eval a X.env) (fun v s₁ => wpAny (model X.prog X.w) X.A (eval b X.env) (fun u s₂ => wpAny (model X.prog X.w) X.A (f v u) Q X.xe s₂) X.xe s₁) X.xe s := by
  refine thn (ha pins s σ H _ I h) fun v s1 ⟨x, H1, I1, r1, q1⟩ => ?_
  refine thn (hb pins s1 σ H1 _ I1 q1) fun u s2 ⟨y, H2, I2, r2, q2⟩ => ?_
  exact hf v u s2 x y H2 I2 r1 r2 q2

/-! ### names and constants -/
def tVar (i : Nat) : TE := fun σ H Q => ∃ v, σ[i]? = some (some v) ∧ Q v H
def tC (v : V) : TE := fun _ H Q => Q v H
theorem pe_var {i : Nat} {x : Str} {pos : Pos} (hN : X.N[i]? = some x) (hv : Vis X.env.scope x) (hd : (x == ("__debug__" : Str)) = false := by decide) (hcd : (x == ("__classdict__" : Str)) = false := by decide) : PE X (.Name x pos) (tVar i) := by
  intro pins s σ H Q I h
  obtain ⟨v, e, h⟩ := h
  obtain ⟨m, hn, hl⟩ := I.loc
  obtain ⟨u, r, l⟩ := hl i x v hN e hv
  have fin : EP X pins σ Q u s := ⟨v, H, I, r, h⟩
  rcases l with ⟨hk, hm⟩ | ⟨hk, c, hc, hcell⟩
  · exact wpAny_Name (wpAny_loadName_local I.ok.kind hk hn hm fin) hd
  · rcases hk with hk | hk
    · exact wpAny_Name (wpAny_loadName_cell I.ok.kind hk hc hcell fin) hd
    · exact wpAny_Name (wpAny_loadName_free I.ok.kind hk hc hcell fin hcd) hd
theorem pe_int {i j pos} : PE X (.Constant (.int i) j pos) (tC (.int i)) := fun _ _ _ H _ I h => wpAny_Constant_int ⟨.int i, H, I.tok _, ⟨_, rfl⟩, h⟩
theorem pe_bl {b j pos} : PE X (.Constant (.bool b) j pos) (tC (.bl b)) := fun _ _ _ H _ I h => Constant_bool ⟨.bl b, H, I, rfl, h⟩
theorem pe_non {j pos} : PE X (.Constant .none j pos) (tC .non) := fun _ _ _ H _ I h => Constant_none ⟨.non, H, I, rfl, h⟩
theorem pe_str {x j pos} : PE X (.Constant (.str x) j pos) (tC (.str x)) := fun _ _ _ H _ I h => Calls.Constant_str ⟨.str x, H, I.tok _, ⟨_, rfl⟩, h⟩

/-- a global name of the def -/
def Gl (X : Cx) (x : Str) : Prop := X.env.kindOf x = some .globalImplicit
theorem ld_glob {E : Value → Shared → Prop} {pins : List (Addr × Obj)} {s : Shared} {σ : St} {H : Hp} {x : Str} {u : Value} {pos : Pos} {Q : Value → Shared → Prop} (I : Inv X pins σ H s) (hg : Gl X x) (hm : X.mg x = some u) (h : Q u s)
    (hd : (x == ("__debug__" : Str)) = false := by decide) : wpAny (model X.prog X.w) X.A (eval (.Name x pos) X.env) Q E s :=
  Calls.Name_function_global I.ok.kind hg (Calls.loadGlobal_global (by rw [I.ok.glob]; exact I.mod.glob.keeps I.bk) hm h) hd
theorem ld_blt {E : Value → Shared → Prop} {pins : List (Addr × Obj)} {s : Shared} {σ : St} {H : Hp} {x : Str} {u : Value} {pos : Pos} {Q : Value → Shared → Prop} (I : Inv X pins σ H s) (hg : Gl X x) (hm : X.mg x = none) (hv : bootBuiltins x = some u) (h : Q u s)
    (hn : x ≠ "__name__" := by decide) (hd : (x == ("__debug__" : Str)) = false := by decide) : wpAny (model X.prog X.w) X.A (eval (.Name x pos) X.env) Q E s := by
  obtain ⟨mb, h1, h2⟩ := I.mod.blt
  exact Calls.Name_function_global I.ok.kind hg (Calls.loadGlobal_builtin (by rw [I.ok.glob]; exact I.mod.glob.keeps I.bk) hm (by rw [I.ok.blt]; exact h1.keeps I.bk) ((h2 x hn).trans hv) h) hd
/-- a module's constant, a class, a function, as a value -/
theorem pe_glob {x : Str} {v : V} {u : Value} {pos : Pos} (hg : Gl X x) (hm : X.mg x = some u) (r : RelV v u) (hd : (x == ("__debug__" : Str)) = false := by decide) : PE X (.Name x pos) (tC v) :=
  fun _ _ _ H _ I h => ld_glob I hg hm ⟨v, H, I, r, h⟩ hd
theorem pe_bltn {x : Str} {v : V} {u : Value} {pos : Pos} (hg : Gl X x) (hm : X.mg x = none) (hv : bootBuiltins x = some u) (r : RelV v u) (hn : x ≠ "__name__" := by decide) (hd : (x == ("__debug__" : Str)) = false := by decide) : PE X (.Name x pos) (tC v) :=
  fun _ _ _ H _ I h => ld_blt I hg hm hv ⟨v, H, I, r, h⟩ hn hd

/-! ### arithmetic -/
/-- two ints -/
def t2I (ta tb : TE) (k : Int → Int → Hp → Prop) : St → Hp → Prop := fun σ H => ta σ H fun x H1 => tb σ H1 fun y H2 => ∃ i j, x = .int i ∧ y = .int j ∧ k i j H2
def tAdd (ta tb : TE) : TE := fun σ H Q => t2I ta tb (fun i j H2 => Q (.int (i + j)) H2) σ H
def tSub (ta tb : TE) : TE := fun σ H Q => t2I ta tb (fun i j H2 => Q (.int (i - j)) H2) σ H
/-- the left factor below 2^64 -/
def tMul (ta tb : TE) : TE := fun σ H Q => t2I ta tb (fun i j H2 => (-(2 ^ 64) < i ∧ i < 2 ^ 64) ∧ Q (.int (i * j)) H2) σ H
variable {a b : Expr} {ta tb : TE} {pos : Pos}
theorem pe_add (ha : PE X a ta) (hb : PE X b tb) : PE X (.BinOp a .Add b pos) (tAdd ta tb) := by
  intro pins s σ H Q I h
  refine wpAny_BinOp (bin ha hb I h fun v u s2 x y H2 I2 rx ry q => ?_)
  obtain ⟨i, j, rfl, rfl, q⟩ := q
  obtain ⟨t, rfl⟩ := rx
  obtain ⟨t', rfl⟩ := ry
  exact add_int ⟨.int _, H2, I2.tok _, ⟨_, rfl⟩, q⟩
theorem pe_sub (ha : PE X a ta) (hb : PE X b tb) : PE X (.BinOp a .Sub b pos) (tSub ta tb) := by
  intro pins s σ H Q I h
  refine wpAny_BinOp (bin ha hb I h fun v u s2 x y H2 I2 rx ry q => ?_)
  obtain ⟨i, j, rfl, rfl, q⟩ := q
  obtain ⟨t, rfl⟩ := rx
  obtain ⟨t', rfl⟩ := ry
  exact sub_int ⟨.int _, H2, I2.tok _, ⟨_, rfl⟩, q⟩
theorem pe_mul (ha : PE X a ta) (hb : PE X b tb) : PE X (.BinOp a .Mult b pos) (tMul ta tb) := by
  intro pins s σ H Q I h
  refine wpAny_BinOp (bin ha hb I h fun v u s2 x y H2 I2 rx ry q => ?_)
  obtain ⟨i, j, rfl, rfl, ⟨q1, q2⟩, q⟩ := q
  obtain ⟨t, rfl⟩ := rx
  obtain ⟨t', rfl⟩ := ry
  exact mul_int ⟨.int _, H2, I2.tok _, ⟨_, rfl⟩, q⟩ (.of_left (intBits_le_64 q1 q2))

/-! ### comparisons -/
def PC (X : Cx) (op : CmpOp) (a b : Expr) (t : TE) : Prop :=
  ∀ (pins : List (Addr × Obj)) (s : Shared) (σ : St) (H : Hp) (Q : VK), Inv X pins σ H s → t σ H Q →
    wpAny (model X.prog X.w) X.A (eval a X.env) (fun v s₁ => wpAny (model X.prog X.w) X.A (eval b X.env) (fun u s₂ => wpAny (model X.prog X.w) X.A (compareOp op v u) (EP X pins σ Q) X.xe s₂) X.xe s₁) X.xe s
theorem nobehind (b : Expr) {op : CmpOp} (h : op ≠ .In) (h2 : op ≠ .NotIn) : behindInMarks op b = false := by
  have e1 : (op == CmpOp.In) = false := by cases op <;> first | rfl | exact absurd rfl h
  have e2 : (op == CmpOp.NotIn) = false := by cases op <;> first | rfl | exact absurd rfl h2
  cases b <;> simp [behindInMarks, e1, e2]
def tCmp (p : Int → Int → Bool) (ta tb : TE) : TE := fun σ H Q => t2I ta tb (fun i j H2 => Q (.bl (p i j)) H2) σ H
abbrev tLt : TE → TE → TE := tCmp fun i j => decide (i < j)
abbrev tLe : TE → TE → TE := tCmp fun i j => decide (i ≤ j)
abbrev tGt : TE → TE → TE := tCmp fun i j => decide (j < i)
abbrev tGe : TE → TE → TE := tCmp fun i j => decide (j ≤ i)
abbrev tEqI : TE → TE → TE := tCmp fun i j => decide (i = j)
abbrev tNeI : TE → TE → TE := tCmp fun i j => !decide (i = j)
/-- a comparison of two ints, by its rule -/
theorem pc_int {op : CmpOp} {p : Int → Int → Bool} (ha : PE X a ta) (hb : PE X b tb)
    (rule : ∀ (i j : Int) (t u : Tok) (Q : Value → Shared → Prop) (s : Shared), Q (.bool (p i j)) s → wpAny (model X.prog X.w) X.A (compareOp op (.int i t) (.int j u)) Q X.xe s) : PC X op a b (tCmp p ta tb) := by
  intro pins s σ H Q I h
  refine bin ha hb I h fun v u s2 x y H2 I2 rx ry q => ?_
  obtain ⟨i, j, rfl, rfl, q⟩ := q
  obtain ⟨t, rfl⟩ := rx
  obtain ⟨t', rfl⟩ := ry
  exact rule i j t t' _ s2 ⟨.bl _, H2, I2, rfl, q⟩
theorem pc_lt (ha : PE X a ta) (hb : PE X b tb) : PC X .Lt a b (tLt ta tb) := pc_int ha hb fun _ _ _ _ _ _ h => lt_int h
theorem pc_le (ha : PE X a ta) (hb : PE X b tb) : PC X .LtE a b (tLe ta tb) := pc_int ha hb fun _ _ _ _ _ _ h => le_int h
theorem pc_gt (ha : PE X a ta) (hb : PE X b tb) : PC X .Gt a b (tGt ta tb) := pc_int ha hb fun _ _ _ _ _ _ h => gt_int h
theorem pc_ge (ha : PE X a ta) (hb : PE X b tb) : PC X .GtE a b (tGe ta tb) := pc_int ha hb fun _ _ _ _ _ _ h => ge_int h
theorem pc_eqI (ha : PE X a ta) (hb : PE X b tb) : PC X .Eq a b (tEqI ta tb) := pc_int ha hb fun _ _ _ _ _ _ h => eq_int (by rw [Bool.beq_eq_decide_eq]; exact h)
theorem pc_neI (ha : PE X a ta) (hb : PE X b tb) : PC X .NotEq a b (tNeI ta tb) := pc_int ha hb fun _ _ _ _ _ _ h => ne_int (by rw [bne, Bool.beq_eq_decide_eq]; exact h)
/-- is None -/
def tIsN (ta : TE) : TE := fun σ H Q => ta σ H fun x H1 => Q (.bl (decide (x = .non))) H1
def tNotN (ta : TE) : TE := fun σ H Q => ta σ H fun x H1 => Q (.bl (!decide (x = .non))) H1
theorem RelV.none_iff {x : V} {v : Value} (r : RelV x v) : (v == Value.none) = decide (x = .non) := by
  cases x with
  | non => cases r; rfl
  | bl _ => cases r; rfl
  | int _ => obtain ⟨t, rfl⟩ := r; rfl
  | str _ => obtain ⟨t, rfl⟩ := r; rfl
  | byt _ => obtain ⟨t, rfl⟩ := r; rfl
  | flt _ => obtain ⟨t, rfl⟩ := r; rfl
  | ref _ => cases r; rfl
  | ty _ => cases r; rfl
theorem pc_isN {j pos'} (ha : PE X a ta) : PC X .Is a (.Constant .none j pos') (tIsN ta) := by
  intro pins s σ H Q I h
  refine thn (ha pins s σ H _ I h) fun v s1 ⟨x, H1, I1, r1, q1⟩ => ?_
  exact Constant_none (is_none_gen ⟨.bl _, H1, I1, by rw [r1.none_iff]; rfl, q1⟩)
theorem pc_notN {j pos'} (ha : PE X a ta) : PC X .IsNot a (.Constant .none j pos') (tNotN ta) := by
  intro pins s σ H Q I h
  refine thn (ha pins s σ H _ I h) fun v s1 ⟨x, H1, I1, r1, q1⟩ => ?_
  exact Constant_none (isnot_none_gen ⟨.bl _, H1, I1, by rw [r1.none_iff]; rfl, q1⟩)
/-- a comparison as a value, as a test -/
def tB (t : TE) : TT := fun σ H Q => t σ H fun x H1 => ∃ c, x = .bl c ∧ Q c H1
theorem pe_cmp {op : CmpOp} {t : TE} (h : PC X op a b t) (h1 : behindInMarks op b = false := by first | exact nobehind _ (by decide) (by decide) | rfl) : PE X (.Compare a [op] [b] pos) t := fun pins s σ H Q I hw => wpAny_Compare1 (h pins s σ H Q I hw) h1
theorem pt_cmp {op : CmpOp} {t : TE} (h : PC X op a b t) (h1 : behindInMarks op b = false := by first | exact nobehind _ (by decide) (by decide) | rfl) : PT X (.Compare a [op] [b] pos) (tB t) := by
  intro pins s σ H Q I hw
  refine wpAny_isTrue_Compare1 (thn (h pins s σ H _ I hw) fun v s1 h1 => thn h1 fun u s2 h2 => thn h2 fun c s3 ⟨x, H1, I1, r1, q1⟩ => ?_) h1
  obtain ⟨d, rfl, q⟩ := q1
  cases r1
  exact wpAny_truthy_bool ⟨H1, I1, q⟩
/-- an expression whose value is a bool, as a test -/
theorem pt_val {e : Expr} {t : TE} (h : PE X e t) (he : ∀ whole, isTrue e X.env whole = (do let v ← whole; standAt e.pos; holding [v] (truthy v)) := by intro _; rfl) : PT X e (tB t) := by
  intro pins s σ H Q I hw
  refine isTrue_plain (thn (h pins s σ H _ I hw) fun v s1 ⟨x, H1, I1, r1, q1⟩ => ?_) (he _)
  obtain ⟨d, rfl, q⟩ := q1
  cases r1
  exact wpAny_truthy_bool ⟨H1, I1, q⟩

/-! ### and, or, not -/
variable {tA tB' : TT} {rest : List Expr}
def tAnd (t u : TT) : TT := fun σ H Q => t σ H fun c H1 => if c = true then u σ H1 Q else Q false H1
def tOr (t u : TT) : TT := fun σ H Q => t σ H fun c H1 => if c = true then Q true H1 else u σ H1 Q
def tNot (t : TT) : TT := fun σ H Q => t σ H fun c H1 => Q (!c) H1
theorem pw_and1 (ha : PT X a tA) : PW X (.BoolOp .And [a] pos) tA := by
  intro wh pins s σ H Q I h
  refine isTrue_and (thn (ha pins s σ H Q I h) fun c s1 e => ?_)
  cases c with
  | true => exact isTrue_and_nil e
  | false => exact e
theorem pw_or1 (ha : PT X a tA) : PW X (.BoolOp .Or [a] pos) tA := by
  intro wh pins s σ H Q I h
  refine isTrue_or (thn (ha pins s σ H Q I h) fun c s1 e => ?_)
  cases c with
  | false => exact isTrue_or_nil e
  | true => exact e
theorem pw_and (ha : PT X a tA) (hb : PW X (.BoolOp .And (b :: rest) pos) tB') : PW X (.BoolOp .And (a :: b :: rest) pos) (tAnd tA tB') := by
  intro wh pins s σ H Q I h
  refine isTrue_and (thn (ha pins s σ H _ I h) fun c s1 ⟨H1, I1, q1⟩ => ?_)
  cases c with
  | true => exact hb wh pins s1 σ H1 Q I1 q1
  | false => exact ⟨H1, I1, q1⟩
theorem pw_or (ha : PT X a tA) (hb : PW X (.BoolOp .Or (b :: rest) pos) tB') : PW X (.BoolOp .Or (a :: b :: rest) pos) (tOr tA tB') := by
  intro wh pins s σ H Q I h
  refine isTrue_or (thn (ha pins s σ H _ I h) fun c s1 ⟨H1, I1, q1⟩ => ?_)
  cases c with
  | true => exact ⟨H1, I1, q1⟩
  | false => exact hb wh pins s1 σ H1 Q I1 q1
theorem pt_not (ha : PT X a tA) : PT X (.UnaryOp .Not a pos) (tNot tA) := by
  intro pins s σ H Q I h
  exact isTrue_not (ha pins s σ H (fun c H1 => Q (!c) H1) I h)
/-- .. as values (bools) -/
def tAndV (ta tb : TE) : TE := fun σ H Q => ta σ H fun x H1 => ∃ c, x = .bl c ∧ if c = true then tb σ H1 Q else Q (.bl false) H1
def tOrV (ta tb : TE) : TE := fun σ H Q => ta σ H fun x H1 => ∃ c, x = .bl c ∧ if c = true then Q (.bl true) H1 else tb σ H1 Q
def tNotV (ta : TE) : TE := fun σ H Q => ta σ H fun x H1 => ∃ c, x = .bl c ∧ Q (.bl (!c)) H1
theorem pe_one {op} {t : TE} (h : PE X a t) : PE X (.BoolOp op [a] pos) t := fun pins s σ H Q I hw => BoolOp_one (h pins s σ H Q I hw)
theorem pe_and (ha : PE X a ta) (hb : PE X (.BoolOp .And (b :: rest) pos) tb) : PE X (.BoolOp .And (a :: b :: rest) pos) (tAndV ta tb) := by
  intro pins s σ H Q I h
  refine BoolOp_and (thn (ha pins s σ H _ I h) fun v s1 ⟨x, H1, I1, r1, q1⟩ => ?_)
  obtain ⟨c, rfl, q1⟩ := q1
  cases r1
  refine wpAny_truthy_bool ?_
  cases c with
  | true => exact hb pins s1 σ H1 Q I1 q1
  | false => exact ⟨.bl false, H1, I1, rfl, q1⟩
theorem pe_or (ha : PE X a ta) (hb : PE X (.BoolOp .Or (b :: rest) pos) tb) : PE X (.BoolOp .Or (a :: b :: rest) pos) (tOrV ta tb) := by
  intro pins s σ H Q I h
  refine BoolOp_or (thn (ha pins s σ H _ I h) fun v s1 ⟨x, H1, I1, r1, q1⟩ => ?_)
  obtain ⟨c, rfl, q1⟩ := q1
  cases r1
  refine wpAny_truthy_bool ?_
  cases c with
  | false => exact hb pins s1 σ H1 Q I1 q1
  | true => exact ⟨.bl true, H1, I1, rfl, q1⟩
theorem pe_not (ha : PE X a ta) : PE X (.UnaryOp .Not a pos) (tNotV ta) := by
  intro pins s σ H Q I h
  refine UnaryOp_ (thn (ha pins s σ H _ I h) fun v s1 ⟨x, H1, I1, r1, q1⟩ => ?_)
  obtain ⟨c, rfl, q1⟩ := q1
  cases r1
  exact not_of (wpAny_truthy_bool ⟨.bl (!c), H1, I1, rfl, q1⟩)
/-- a if t else b -/
def tIf (t : TT) (ta tb : TE) : TE := fun σ H Q => t σ H fun c H1 => if c = true then ta σ H1 Q else tb σ H1 Q
theorem pe_ifExp {c : Expr} (hc : PT X c tA) (ha : PE X a ta) (hb : PE X b tb) : PE X (.IfExp c a b pos) (tIf tA ta tb) := by
  intro pins s σ H Q I h
  refine wpAny_IfExp (thn (hc pins s σ H _ I h) fun d s1 ⟨H1, I1, q1⟩ => ?_)
  cases d with
  | true => exact ha pins s1 σ H1 Q I1 q1
  | false => exact hb pins s1 σ H1 Q I1 q1
end
end L2

namespace L2
open PySem PySem.Spec PyProof.Rows

/-! ### a list, a tuple that is read: tracked, frozen, or an object of the module -/
def SqL (K : PySem.W.Frag) (H : Hp) (a : Addr) (xs : List V) : Prop :=
  Rd H a (.lst xs) ∨
    ∃ (o : Obj) (its : Array Value) (n : Nat), K.lookup a = some o ∧ o.cls = .type "list" ∧ o.dict = none ∧ o.data = .seq its n ∧ its.size ≤ sizeLine ∧ Vals xs its.toList
def SqT (K : PySem.W.Frag) (H : Hp) (a : Addr) (xs : List V) : Prop :=
  Rd H a (.tup xs) ∨
    ∃ (o : Obj) (its : Array Value) (n : Nat), K.lookup a = some o ∧ o.cls = .type "tuple" ∧ o.data = .seq its n ∧ its.size ≤ sizeLine ∧ Vals xs its.toList
def absV : Value → Option V
  | .none => some .non
  | .bool b => some (.bl b)
  | .int i _ => some (.int i)
  | .str x _ => some (.str x)
  | .bytes b _ => some (.byt b)
  | .float b _ => some (.flt b)
  | .ref a => some (.ref a)
  | .type n => some (.ty n)
  | _ => none
theorem RelV.abs {x : V} {u : Value} (r : RelV x u) : absV u = some x := by
  cases x with
  | non => cases r; rfl
  | bl _ => cases r; rfl
  | int _ => obtain ⟨t, rfl⟩ := r; rfl
  | str _ => obtain ⟨t, rfl⟩ := r; rfl
  | byt _ => obtain ⟨t, rfl⟩ := r; rfl
  | flt _ => obtain ⟨t, rfl⟩ := r; rfl
  | ref _ => cases r; rfl
  | ty _ => cases r; rfl
theorem RelV.inj {x y : V} {u : Value} (r : RelV x u) (q : RelV y u) : x = y := Option.some.inj (r.abs.symm.trans q.abs)
theorem Vals.inj : ∀ {xs ys : List V} {us : List Value}, Vals xs us → Vals ys us → xs = ys
  | _, _, _, .nil, .nil => rfl
  | _, _, _, .cons r t, .cons r' t' => by rw [r.inj r', Vals.inj t t']
section
variable {X : Cx} {pins : List (Addr × Obj)} {σ : St} {H : Hp} {s : Shared} {a : Addr} {xs ys : List V}
theorem SqL.of {K : PySem.W.Frag} (h : H a = some (.lst xs)) : SqL K H a xs := .inl (.inl h)
theorem SqT.of {K : PySem.W.Frag} (h : H a = some (.tup xs)) : SqT K H a xs := .inl (.inl h)
theorem Inv.list (I : Inv X pins σ H s) (h : SqL X.K H a xs) : ∃ its : List Value, Vals xs its ∧ PlainL s.heap a its.toArray ∧ xs.length ≤ sizeLine := by
  rcases h with h | ⟨o, its, n, hk, hc, hd, hs, hz, r⟩
  · obtain ⟨z, its, n, r, e⟩ := h.ok I.hok
    exact ⟨its, r, ⟨_, n, e, rfl, rfl, rfl⟩, z⟩
  · refine ⟨its.toList, r, ⟨o, n, I.kIn a o hk, hc, hd, by simpa using hs⟩, ?_⟩
    have e := r.length
    simp only [Array.length_toList] at e
    omega
theorem Inv.tuple (I : Inv X pins σ H s) (h : SqT X.K H a xs) : ∃ its : List Value, Vals xs its ∧ IsTup s.heap a its.toArray ∧ xs.length ≤ sizeLine := by
  rcases h with h | ⟨o, its, n, hk, hc, hs, hz, r⟩
  · obtain ⟨z, its, r, p⟩ := h.ok I.hok
    exact ⟨its, r, p, z⟩
  · refine ⟨its.toList, r, ⟨o, I.kIn a o hk, hc, n, by simpa using hs⟩, ?_⟩
    have e := r.length
    simp only [Array.length_toList] at e
    omega
theorem Inv.list_inj (I : Inv X pins σ H s) (h : SqL X.K H a xs) (h' : SqL X.K H a ys) : xs = ys := by
  obtain ⟨its, r, ⟨o, n, e, _, _, d⟩, _⟩ := I.list h
  obtain ⟨its', r', ⟨o', n', e', _, _, d'⟩, _⟩ := I.list h'
  rw [e] at e'; cases e'
  rw [d] at d'
  injection d' with d1 _
  have : its = its' := by simpa using congrArg Array.toList d1
  subst this
  exact r.inj r'
theorem Inv.tuple_inj (I : Inv X pins σ H s) (h : SqT X.K H a xs) (h' : SqT X.K H a ys) : xs = ys := by
  obtain ⟨its, r, ⟨o, e, _, n, d⟩, _⟩ := I.tuple h
  obtain ⟨its', r', ⟨o', e', _, n', d'⟩, _⟩ := I.tuple h'
  rw [e] at e'; cases e'
  rw [d] at d'
  injection d' with d1 _
  have : its = its' := by simpa using congrArg Array.toList d1
  subst this
  exact r.inj r'
end

/-! ### another wish about exceptions -/
abbrev Cx.wish (X : Cx) (E : Value → Shared → Prop) : Cx := { X with xe := E }
/-- no exception leaves -/
abbrev Cx.nox (X : Cx) : Cx := X.wish fun _ _ => False
theorem Cx.Ok.wish {X : Cx} (ok : X.Ok) (E : Value → Shared → Prop) : (X.wish E).Ok :=
  ⟨ok.mod, ok.kind, ok.glob, ok.blt, ok.above, ok.inj, ok.has, ok.cab, ok.hd, ok.frames, ok.stk, ok.exf, ok.bs, ok.bsz, ok.noex, ok.exfs, ok.funs, ok.frf⟩
theorem Cx.Ok.unwish {X : Cx} {E : Value → Shared → Prop} (ok : (X.wish E).Ok) : X.Ok :=
  ⟨ok.mod, ok.kind, ok.glob, ok.blt, ok.above, ok.inj, ok.has, ok.cab, ok.hd, ok.frames, ok.stk, ok.exf, ok.bs, ok.bsz, ok.noex, ok.exfs, ok.funs, ok.frf⟩
section
variable {X : Cx} {pins : List (Addr × Obj)} {σ : St} {H : Hp} {s : Shared} {E : Value → Shared → Prop}
theorem Inv.wish (I : Inv X pins σ H s) (E : Value → Shared → Prop) : Inv (X.wish E) pins σ H s := ⟨I.ok.wish E, I.os, I.bare, I.base, I.loc, I.cell, I.free, I.freeC, I.pin, I.hok, I.len⟩
theorem Inv.unwish (I : Inv (X.wish E) pins σ H s) : Inv X pins σ H s := ⟨I.ok.unwish, I.os, I.bare, I.base, I.loc, I.cell, I.free, I.freeC, I.pin, I.hok, I.len⟩
theorem SP.unwish {D : Ends} {f : Flow} {s' : Shared} (h : SP (X.wish E) pins D f s') : SP X pins D f s' := by
  cases f with
  | next => obtain ⟨σ', H', I, q⟩ := h; exact ⟨σ', H', I.unwish, q⟩
  | brk => obtain ⟨σ', H', I, q⟩ := h; exact ⟨σ', H', I.unwish, q⟩
  | cont => obtain ⟨σ', H', I, q⟩ := h; exact ⟨σ', H', I.unwish, q⟩
  | ret u => obtain ⟨v, σ', H', I, r, q⟩ := h; exact ⟨v, σ', H', I.unwish, r, q⟩
theorem PE.nox {e : Expr} {t : TE} (h : PE X.nox e t) : PE X e t := fun pins s σ H Q I hw =>
  wpAny_mono (h pins s σ H Q (I.wish _) hw) (fun _ _ ⟨v, H', I', r, q⟩ => ⟨v, H', I'.unwish, r, q⟩) fun _ _ z => False.elim z
theorem PT.nox {e : Expr} {t : TT} (h : PT X.nox e t) : PT X e t := fun pins s σ H Q I hw =>
  wpAny_mono (h pins s σ H Q (I.wish _) hw) (fun _ _ ⟨H', I', q⟩ => ⟨H', I'.unwish, q⟩) fun _ _ z => False.elim z
theorem PSs.nox {st : List Stmt} {t : TS} (h : PSs X.nox st t) : PSs X st t := fun pins s σ H D I hw =>
  wpAny_mono (h pins s σ H D (I.wish _) hw) (fun _ _ q => q.unwish) fun _ _ z => False.elim z
end

/-! ### blocks and small statements -/
section
variable {X : Cx} {st : Stmt} {rest : List Stmt} {t u : TS} {e : Expr} {te : TE} {pos : Pos}
def tNext : TS := fun D σ H => D.nx σ H
def tSeq (t u : TS) : TS := fun D σ H => t { D with nx := u D } σ H
theorem pss_nil : PSs X [] tNext := fun _ _ σ H _ I h => wpAny_execs_nil ⟨σ, H, I, h⟩
theorem pss_cons (h1 : PS X st t) (h2 : PSs X rest u) : PSs X (st :: rest) (tSeq t u) := by
  intro pins s σ H D I h
  refine wpAny_execs_cons (thn (h1 pins s σ H { D with nx := u D } I h) fun f s1 q => ?_)
  cases f with
  | next =>
    obtain ⟨σ', H', I', q⟩ := q
    exact h2 pins s1 σ' H' D I' q
  | ret v => exact q
  | brk => exact q
  | cont => exact q
theorem pss_one (h1 : PS X st t) : PSs X [st] t := by
  intro pins s σ H D I h
  refine wpAny_execs_cons (thn (h1 pins s σ H D I h) fun f s1 q => ?_)
  cases f with
  | next => exact wpAny_execs_nil q
  | ret v => exact q
  | brk => exact q
  | cont => exact q
def tBreak : TS := fun D σ H => D.bk σ H
def tCont : TS := fun D σ H => D.ct σ H
theorem ps_pass : PS X (.Pass pos) tNext := fun _ _ σ H _ I h => wpAny_Pass ⟨σ, H, I, h⟩
theorem ps_break : PS X (.Break pos) tBreak := fun _ _ σ H _ I h => wpAny_Break ⟨σ, H, I, h⟩
theorem ps_continue : PS X (.Continue pos) tCont := fun _ _ σ H _ I h => wpAny_Continue ⟨σ, H, I, h⟩
/-- in a def's body nothing is shown -/
theorem Inv.quiet {pins : List (Addr × Obj)} {σ : St} {H : Hp} {s : Shared} (I : Inv X pins σ H s) : interactive X.env = false := by simp [interactive, I.ok.kind]
/-- a docstring -/
theorem ps_doc {x j pos pos'} : PS X (.Expr (.Constant (.str x) j pos) pos') tNext := fun _ s σ H _ I h => wpAny_Expr (Calls.Constant_str (show SP X _ _ .next { s with toks := s.toks + 1 } from ⟨σ, H, I.tok _, h⟩)) I.quiet
/-- an expression whose value is dropped -/
def tDrop (te : TE) : TS := fun D σ H => te σ H fun _ H1 => D.nx σ H1
theorem ps_expr (he : PE X e te) (hs : swapsWith e none pos.line X.env = pure false := by rfl) : PS X (.Expr e pos) (tDrop te) := by
  intro pins s σ H D I h
  exact wpAny_Expr_any (thn (he pins s σ H _ I h) fun v s1 ⟨x, H1, I1, r1, q1⟩ => ⟨σ, H1, I1, q1⟩) I.quiet hs
def tRet (te : TE) : TS := fun D σ H => te σ H D.rt
theorem ps_ret (he : PE X e te) : PS X (.Return (some e) pos) (tRet te) := by
  intro pins s σ H D I h
  exact wpAny_Return_some (thn (he pins s σ H _ I h) fun v s1 ⟨x, H1, I1, r1, q1⟩ => ⟨x, σ, H1, I1, r1, q1⟩)
def tRetN : TS := fun D _ H => D.rt .non H
theorem ps_retN : PS X (.Return none pos) tRetN := fun _ _ σ H _ I h => wpAny_Return_none ⟨.non, σ, H, I, rfl, h⟩
def tIfS (c : TT) (t u : TS) : TS := fun D σ H => c σ H fun b H1 => if b = true then t D σ H1 else u D σ H1
theorem ps_if {c : Expr} {a b : List Stmt} {tc : TT} (hc : PT X c tc) (ha : PSs X a t) (hb : PSs X b u) : PS X (.If c a b pos) (tIfS tc t u) := by
  intro pins s σ H D I h
  refine wpAny_If (thn (hc pins s σ H _ I h) fun d s1 ⟨H1, I1, q1⟩ => ?_)
  cases d with
  | true => exact ha pins s1 σ H1 D I1 q1
  | false => exact hb pins s1 σ H1 D I1 q1
/-- code that the proof never comes to -/
def tNever : TS := fun _ _ _ => False
theorem ps_never : PS X st tNever := fun _ _ _ _ _ _ h => h.elim
theorem pss_never {sts : List Stmt} : PSs X sts tNever := fun _ _ _ _ _ _ h => h.elim
end

/-! ### targets -/
abbrev TG := V → St → Hp → (St → Hp → Prop) → Prop
abbrev TGs := List V → St → Hp → (St → Hp → Prop) → Prop
def PG (X : Cx) (target : Expr) (t : TG) : Prop :=
  ∀ (pins : List (Addr × Obj)) (s : Shared) (σ : St) (H : Hp) (v : V) (u : Value) (Q : St → Hp → Prop), Inv X pins σ H s → RelV v u → t v σ H Q →
    wpAny (model X.prog X.w) X.A (assign target X.env u) (fun _ s' => ∃ σ' H', Inv X pins σ' H' s' ∧ Q σ' H') X.xe s
/-- several targets, one after another -/
def PGs (X : Cx) (ts : List Expr) (t : TGs) : Prop :=
  ∀ (pins : List (Addr × Obj)) (s : Shared) (σ : St) (H : Hp) (vs : List V) (us : List Value) (Q : St → Hp → Prop), Inv X pins σ H s → Vals vs us → t vs σ H Q →
    wpAny (model X.prog X.w) X.A (assignInOrder ((assignEach ts X.env).map (·.2)) us) (fun _ s' => ∃ σ' H', Inv X pins σ' H' s' ∧ Q σ' H') X.xe s
/-- o[i] = v, by values -/
abbrev TSet := V → V → V → Hp → (Hp → Prop) → Prop
def PSet (X : Cx) (t : TSet) : Prop :=
  ∀ (pins : List (Addr × Obj)) (s : Shared) (σ : St) (H : Hp) (o i v : V) (ov iv u : Value) (Q : Hp → Prop), Inv X pins σ H s → RelV o ov → RelV i iv → RelV v u → t o i v H Q →
    wpAny (model X.prog X.w) X.A (setItem ov iv u) (fun _ s' => ∃ H', Inv X pins σ H' s' ∧ Q H') X.xe s
/-- a op= b, by values -/
abbrev TIp := V → V → Hp → VK → Prop
def PIp (X : Cx) (op : Operator) (t : TIp) : Prop :=
  ∀ (pins : List (Addr × Obj)) (s : Shared) (σ : St) (H : Hp) (x y : V) (v u : Value) (Q : VK), Inv X pins σ H s → RelV x v → RelV y u → t x y H Q →
    wpAny (model X.prog X.w) X.A (inplaceOp op v u) (EP X pins σ Q) X.xe s
section
variable {X : Cx} {pos : Pos}
def gName (i : Nat) : TG := fun v σ H Q => Q (σ.set i (some v)) H
theorem pg_name {i : Nat} {x : Str} (hN : X.N.Nodup) (hi : X.N[i]? = some x) (hx : Loc X.env.scope x) (hf : X.fn x = true ∨ X.env.scope.names.lookup x = some .local := by first | exact .inl rfl | exact .inr rfl | assumption) : PG X (.Name x pos) (gName i) := by
  intro pins s σ H v u Q I r h
  exact wpAny_assign_Name (store_ok I hN hi hx r (fun s' I' => ⟨_, H, I', h⟩) hf)
def gNil : TGs := fun vs σ H Q => vs = [] ∧ Q σ H
def gCons (t : TG) (u : TGs) : TGs := fun vs σ H Q => ∃ v r, vs = v :: r ∧ t v σ H fun σ' H' => u r σ' H' Q
theorem pgs_nil : PGs X [] gNil := by
  intro pins s σ H vs us Q I r h
  obtain ⟨e, h⟩ := h
  subst e
  cases r
  exact assignInOrder_nil ⟨σ, H, I, h⟩
theorem pgs_cons {e : Expr} {es : List Expr} {t : TG} {u : TGs} (h1 : PG X e t) (h2 : PGs X es u)
    (hs : (assignEach (e :: es) X.env).map (·.2) = assign e X.env :: (assignEach es X.env).map (·.2) := by rfl) : PGs X (e :: es) (gCons t u) := by
  intro pins s σ H vs us Q I r h
  obtain ⟨v, vr, e1, h⟩ := h
  subst e1
  cases r with
  | cons r rr =>
    rw [hs]
    refine assignInOrder_cons (thn (h1 pins s σ H _ _ _ I r h) fun _ s1 ⟨σ1, H1, I1, q1⟩ => ?_)
    exact h2 pins s1 σ1 H1 _ _ Q I1 rr q1
/-- (a, b, ..) = a tuple of that length -/
def gTup (K : PySem.W.Frag) (n : Nat) (t : TGs) : TG := fun v σ H Q => ∃ a xs, v = .ref a ∧ SqT K H a xs ∧ xs.length = n ∧ t xs σ H Q
theorem pg_tup {es : List Expr} {k : Nat} {t : TGs} {n : Nat} (hc : X.calm = true) (h : PGs X es t)
    (hn : (assignEach es X.env).length = n := by rfl) (hst : (assignEach es X.env).findIdx? (·.1) = none := by rfl) : PG X (.Tuple es k pos) (gTup X.K n t) := by
  intro pins s σ H v u Q I r hw
  obtain ⟨a, xs, e1, hq, hl, hw⟩ := hw
  subst e1
  cases r
  obtain ⟨its, rv, ht, hz⟩ := I.tuple hq
  refine assign_Tuple_tuple (I.ok.hd hc) ht (by simp [hn, ← hl, rv.length]) hst fun h' hx => ?_
  have I1 : Inv X pins σ H { s with heap := h' } := I.kept (t' := s.toks) fun b o e => hx b o (Nat.ne_of_lt (Heap.lt_size e)) e
  exact h pins _ σ H xs _ Q I1 (by simpa using rv) hw
/-- o[i] = .. -/
def gSub (to ti : TE) (t : TSet) : TG := fun v σ H Q => to σ H fun o H1 => ti σ H1 fun i H2 => t o i v H2 fun H3 => Q σ H3
theorem pg_sub {o i : Expr} {to ti : TE} {t : TSet} (ho : PE X o to) (hi : PE X i ti) (hs : PSet X t)
    (ha : ∀ v, assign (.Subscript o i pos) X.env v = (do
      let ov ← holding [v] (eval o X.env)
      let iv ← holding [v, ov] (eval i X.env)
      standAt pos
      holding [v, ov, iv] (setItem ov iv v)
      release [v, ov, iv] []) := by intro _; rfl) : PG X (.Subscript o i pos) (gSub to ti t) := by
  intro pins s σ H v u Q I r h
  rw [ha]
  refine wpAny_bind (wpAny_holding (thn (ho pins s σ H _ I h) fun ov s1 ⟨x, H1, I1, r1, q1⟩ => ?_))
  refine wpAny_bind (wpAny_holding (thn (hi pins s1 σ H1 _ I1 q1) fun iv s2 ⟨y, H2, I2, r2, q2⟩ => ?_))
  refine wpAny_bind (wpAny_standAt (wpAny_bind (wpAny_holding (thn (hs pins s2 σ H2 x y v ov iv u _ I2 r1 r2 r q2) fun _ s3 ⟨H3, I3, q3⟩ => ?_))))
  exact wpAny_release ⟨σ, H3, I3, q3⟩
/-- target = value -/
def tAsg (te : TE) (g : TG) : TS := fun D σ H => te σ H fun x H1 => g x σ H1 D.nx
theorem ps_asg {tg e : Expr} {te : TE} {g : TG} (he : PE X e te) (hg : PG X tg g) (hs : swapsWithSole [tg] e pos.line X.env = pure false := by rfl) (hw : swappedStores [tg] e X.env = pure none := by rfl)
    (h1 : (assignEach [tg] X.env).map (·.2) = [assign tg X.env] := by rfl) : PS X (.Assign [tg] e pos) (tAsg te g) := by
  intro pins s σ H D I h
  refine wpAny_Assign_stores (thn (he pins s σ H _ I h) fun v s1 ⟨x, H1, I1, r1, q1⟩ => ?_) hs hw
  rw [h1]
  exact thn (hg pins s1 σ H1 x v _ I1 r1 q1) fun _ s2 q => q
/-- name = value -/
theorem ps_set {i : Nat} {x : Str} {e : Expr} {te : TE} {pos' : Pos} (hN : X.N.Nodup) (hi : X.N[i]? = some x) (hx : Loc X.env.scope x) (he : PE X e te) (hs : swapsWith e (some (.Name x pos')) pos.line X.env = pure false := by rfl) (hf : X.fn x = true ∨ X.env.scope.names.lookup x = some .local := by first | exact .inl rfl | exact .inr rfl | assumption) :
    PS X (.Assign [.Name x pos'] e pos) (tAsg te (gName i)) := by
  intro pins s σ H D I h
  refine wpAny_Assign_Name (thn (he pins s σ H _ I h) fun v s1 ⟨y, H1, I1, r1, q1⟩ => ?_) hs
  exact store_ok I1 hN hi hx r1 (fun s2 I2 => ⟨_, H1, I2, q1⟩) hf
/-- a, b = x, y with plain local names: stored from the right; the pair itself is not tracked (the opening rows as in PyProof/Rows/TupAssign.lean:23) -/
def tPar (i j : Nat) (ta : TA) : TS := fun D σ H => ta σ H fun vs H1 => ∃ v w, vs = [v, w] ∧ D.nx ((σ.set i (some v)).set j (some w)) H1
theorem ps_par {i j : Nat} {x y : Str} {a b : Expr} {ta : TA} {px py pt : Pos} {kt k2 pt2} (hc : X.calm = true) (hN : X.N.Nodup) (hi : X.N[i]? = some x) (hj : X.N[j]? = some y) (hij : i ≠ j)
    (hx : X.env.scope.names.lookup x = some .local) (hy : X.env.scope.names.lookup y = some .local) (ha : PA X [a, b] ta)
    (hw : swappedStores [.Tuple [.Name x px, .Name y py] kt pt] (.Tuple [a, b] k2 pt2) X.env = pure (some [x, y]))
    (hs : swapsWithSole [.Tuple [.Name x px, .Name y py] kt pt] (.Tuple [a, b] k2 pt2) pos.line X.env = pure false := by rfl) :
    PS X (.Assign [.Tuple [.Name x px, .Name y py] kt pt] (.Tuple [a, b] k2 pt2) pos) (tPar i j ta) := by
  intro pins s σ H D I h
  rw [exec_Assign_arm]
  refine wpAny_bind (wpAny_standAt ?_)
  rw [hs]
  refine wpAny_bind (wpAny_pure ?_)
  rw [if_neg (by decide)]
  refine wpAny_bind (Tuple_ (thn (ha _ pins s σ H _ I h) fun us s1 ⟨vs, H1, I1, r1, q1⟩ => ?_))
  obtain ⟨v, w, e1, q1⟩ := q1
  subst e1
  obtain ⟨u1, u2, rfl, rv, rw'⟩ : ∃ u1 u2, us = [u1, u2] ∧ RelV v u1 ∧ RelV w u2 := by
    cases r1 with
    | cons p q =>
      cases q with
      | cons p' q' =>
        cases q'
        exact ⟨_, _, rfl, p, p'⟩
  refine wpAny_newObj_type ?_ (by show 2 ≤ sizeLine; decide)
  have I2 : Inv X pins σ H1 { s1 with heap := s1.heap.push { cls := .type "tuple", data := .seq [u1, u2].toArray } } := I1.kept (t' := s1.toks) fun b o e => Heap.get?_push_of_some _ e
  rw [hw]
  refine wpAny_bind (wpAny_pure ?_)
  show wpAny (model X.prog X.w) X.A (do rule "assign.swapped-stores"; let items ← unpackItems (.ref s1.heap.objs.size) 2 none; assignInOrder [fun v => bindName X.env y v, fun v => bindName X.env x v] items.reverse; pure Flow.next) _ _ _
  refine wpAny_bind (wpAny_rule (wpAny_bind (unpackItems_tuple (items := #[u1, u2]) (I.ok.hd hc) (IsTup.new s1.heap _) fun h' hx' => ?_)))
  have I3 := I2.kept (h' := h') (t' := s1.toks) fun b o e => hx' b o (Nat.ne_of_lt (Heap.lt_size e)) e
  show wpAny _ _ (assignInOrder [fun v => bindName X.env y v, fun v => bindName X.env x v] [u2, u1] >>= fun _ => pure Flow.next) _ _ _
  refine wpAny_bind (assignInOrder_cons (wpAny_bindName (store_ok I3 hN hj (.inl hy) rw' (fun s2 I4 => ?_) (.inr hy))))
  refine assignInOrder_cons (wpAny_bindName (store_ok I4 hN hi (.inl hx) rv (fun s3 I5 => assignInOrder_nil (wpAny_pure ?_)) (.inr hx)))
  rw [List.set_comm _ _ (Ne.symm hij)] at I5
  exact ⟨_, H1, I5, q1⟩
/-- name op= e -/
def tAug (i : Nat) (te : TE) (ti : TIp) : TS := fun D σ H => ∃ x, σ[i]? = some (some x) ∧ te σ H fun y H1 => ti x y H1 fun z H2 => D.nx (σ.set i (some z)) H2
theorem ps_aug {i : Nat} {x : Str} {e : Expr} {te : TE} {op : Operator} {ti : TIp} {pos' : Pos} (hN : X.N.Nodup) (hi : X.N[i]? = some x) (hx : Loc X.env.scope x) (he : PE X e te) (ho : PIp X op ti) (hf : X.fn x = true ∨ X.env.scope.names.lookup x = some .local := by first | exact .inl rfl | exact .inr rfl | assumption) :
    PS X (.AugAssign (.Name x pos') op e pos) (tAug i te ti) := by
  intro pins s σ H D I h
  obtain ⟨v, e1, h⟩ := h
  obtain ⟨m, hn, hl⟩ := I.loc
  have vis : Vis X.env.scope x := by rcases hx with k | k; exact .inl k; exact .inr (.inl k)
  obtain ⟨u, r, l⟩ := hl i x v hi e1 vis
  refine wpAny_AugAssign_Name ?_
  have go : wpAny (model X.prog X.w) X.A (eval e X.env) (fun w s₂ => wpAny (model X.prog X.w) X.A (inplaceOp op u w) (fun r s₃ => wpAny (model X.prog X.w) X.A (storeName X.env x r) (fun _ => SP X pins D .next) X.xe s₃) X.xe s₂) X.xe s := by
    refine thn (he pins s σ H _ I h) fun w s1 ⟨y, H1, I1, r1, q1⟩ => ?_
    refine thn (ho pins s1 σ H1 v y u w _ I1 r r1 q1) fun z s2 ⟨zv, H2, I2, r2, q2⟩ => ?_
    exact store_ok I2 hN hi hx r2 (fun s3 I3 => ⟨_, H2, I3, q2⟩) hf
  rcases l with ⟨hk, hm⟩ | ⟨hk, c, hc, hcell⟩
  · exact wpAny_loadName_local I.ok.kind hk hn hm go
  · rcases hk with hk | hk
    · exact wpAny_loadName_cell I.ok.kind hk hc hcell go
    · rcases hx with k | k
      · have : X.env.scope.names.lookup x = some .free := hk
        rw [k] at this; cases this
      · have : X.env.scope.names.lookup x = some .free := hk
        rw [k] at this; cases this
/-- o[i] op= e -/
def tAugS (to ti te : TE) (tget : V → V → Hp → VK → Prop) (tip : TIp) (tset : TSet) : TS := fun D σ H => to σ H fun o H1 => ti σ H1 fun i H2 => tget o i H2 fun x H3 => te σ H3 fun y H4 => tip x y H4 fun z H5 => tset o i z H5 fun H6 => D.nx σ H6
/-- o[i], by values -/
def PGet (X : Cx) (t : V → V → Hp → VK → Prop) : Prop :=
  ∀ (pins : List (Addr × Obj)) (s : Shared) (σ : St) (H : Hp) (o i : V) (ov iv : Value) (Q : VK), Inv X pins σ H s → RelV o ov → RelV i iv → t o i H Q →
    wpAny (model X.prog X.w) X.A (getItem ov iv) (EP X pins σ Q) X.xe s
theorem ps_augS {o i e : Expr} {to ti te : TE} {tget : V → V → Hp → VK → Prop} {tip : TIp} {tset : TSet} {op : Operator} {tpos : Pos} (ho : PE X o to) (hi : PE X i ti) (hg : PGet X tget) (he : PE X e te) (hp : PIp X op tip) (hs : PSet X tset)
    (ha : ∀ ov iv new, augStore i ov iv new = (do holding [new, ov, iv] (setItem ov iv new); release [new, ov, iv] []; pure .next) := by intros; rfl) : PS X (.AugAssign (.Subscript o i tpos) op e pos) (tAugS to ti te tget tip tset) := by
  intro pins s σ H D I h
  refine wpAny_AugAssign_SubscriptAny (thn (ho pins s σ H _ I h) fun ov s1 ⟨x1, H1, I1, r1, q1⟩ => ?_) ha
  refine thn (hi pins s1 σ H1 _ I1 q1) fun iv s2 ⟨x2, H2, I2, r2, q2⟩ => ?_
  refine thn (hg pins s2 σ H2 x1 x2 ov iv _ I2 r1 r2 q2) fun old s3 ⟨x3, H3, I3, r3, q3⟩ => ?_
  refine thn (he pins s3 σ H3 _ I3 q3) fun v s4 ⟨x4, H4, I4, r4, q4⟩ => ?_
  refine thn (hp pins s4 σ H4 x3 x4 old v _ I4 r3 r4 q4) fun new s5 ⟨x5, H5, I5, r5, q5⟩ => ?_
  exact thn (hs pins s5 σ H5 x1 x2 x5 ov iv new _ I5 r1 r2 r5 q5) fun _ s6 ⟨H6, I6, q6⟩ => ⟨σ, H6, I6, q6⟩
/-- ints -/
def ipI (f : Int → Int → Int) : TIp := fun x y H Q => ∃ i j, x = .int i ∧ y = .int j ∧ Q (.int (f i j)) H
theorem ip_add : PIp X .Add (ipI fun i j => i + j) := by
  intro pins s σ H x y v u Q I r1 r2 h
  obtain ⟨i, j, e1, e2, q⟩ := h
  subst e1; subst e2
  obtain ⟨t, rfl⟩ := r1
  obtain ⟨t', rfl⟩ := r2
  exact iadd_int ⟨.int _, H, I.tok _, ⟨_, rfl⟩, q⟩
theorem ip_sub : PIp X .Sub (ipI fun i j => i - j) := by
  intro pins s σ H x y v u Q I r1 r2 h
  obtain ⟨i, j, e1, e2, q⟩ := h
  subst e1; subst e2
  obtain ⟨t, rfl⟩ := r1
  obtain ⟨t', rfl⟩ := r2
  exact isub_int ⟨.int _, H, I.tok _, ⟨_, rfl⟩, q⟩
end

/-! ### while -/
section
variable {X : Cx} {pos : Pos}
/-- the invariant W with its measure -/
def tWhile (c : TT) (tb : TS) : TS := fun D σ H => ∃ W : Nat → St → Hp → Prop, (∃ m, W m σ H) ∧ ∀ m σ H, W m σ H →
  c σ H fun b H1 => if b = true then ∃ N : St → Hp → Prop, (∀ σ' H', N σ' H' → ∃ m', m' < m ∧ W m' σ' H') ∧ tb { D with nx := N, ct := N, bk := D.nx } σ H1 else D.nx σ H1
theorem ps_while {c : Expr} {body : List Stmt} {tc : TT} {tb : TS} (hp : PassesOwn (model X.prog X.w) X.A X.env X.xe) (hc : PT X c tc) (hb : PSs X body tb) : PS X (.While c body [] pos) (tWhile tc tb) := by
  intro pins s σ H D I h
  obtain ⟨W, ⟨m0, w0⟩, turn⟩ := h
  refine wpAny_While (codeAny_whileLoop (fun n s' => ∃ σ' H', Inv X pins σ' H' s' ∧ W n σ' H') ?_ m0 ⟨σ, H, I, w0⟩)
  rintro n s1 ⟨σ1, H1, I1, w1⟩
  refine wpAny_passesOwn hp (thn (hc pins s1 σ1 H1 _ I1 (turn n σ1 H1 w1)) fun b s2 ⟨H2, I2, q2⟩ => ?_)
  cases b with
  | true =>
    obtain ⟨N, hN, q2⟩ := q2
    rw [if_pos rfl]
    refine wpAny_passesOwn hp (thn (hb pins s2 σ1 H2 _ I2 q2) fun f s3 q3 => ?_)
    cases f with
    | next =>
      obtain ⟨σ3, H3, I3, n3⟩ := q3
      obtain ⟨m', hm, w3⟩ := hN σ3 H3 n3
      exact ⟨m', hm, σ3, H3, I3, w3⟩
    | cont =>
      obtain ⟨σ3, H3, I3, n3⟩ := q3
      obtain ⟨m', hm, w3⟩ := hN σ3 H3 n3
      exact ⟨m', hm, σ3, H3, I3, w3⟩
    | brk => exact q3
    | ret v => exact q3
  | false =>
    rw [if_neg Bool.false_ne_true]
    exact wpAny_execs_nil ⟨σ1, H2, I2, q2⟩
end

/-! ### what a loop or a comprehension walks -/
/-- at turn i: it yields x (the heap may grow), or it stops -/
structure It where
  go : Nat → Hp → Prop
  yld : Nat → Hp → V → Hp → Prop
  stop : Nat → Hp → Prop
/-- the iterator's own objects may turn: they are not the frame's, not pinned, younger than the entry (or a comprehension's own) -/
def FpOk (X : Cx) (pins : List (Addr × Obj)) (H : Hp) (b : Addr) : Prop :=
  H b = none ∧ b ≠ X.env.locals ∧ b ∉ X.fs ∧ (b ∈ X.ex ∨ X.s₀.heap.objs.size ≤ b) ∧ (∀ x c, X.env.cells.lookup x = some c → c ≠ b) ∧ ∀ p ∈ X.pn ++ pins, p.1 ≠ b
theorem Inv.fpOk {X : Cx} {pins : List (Addr × Obj)} {σ : St} {H H' : Hp} {s : Shared} {b : Addr} (I : Inv X pins σ H s) (hb : s.heap.objs.size ≤ b) (hn : H' b = none) : FpOk X pins H' b := by
  refine ⟨hn, Nat.ne_of_gt (Nat.lt_of_lt_of_le I.lt hb), I.nofs hb, .inr (Nat.le_trans I.sz hb), fun x c e z => ?_, fun p hp z => ?_⟩
  · obtain ⟨v, q⟩ := I.cell x c e
    exact absurd (Nat.lt_of_lt_of_le q.lt (by rw [z]; exact hb)) (Nat.lt_irrefl _)
  · exact absurd (Nat.lt_of_lt_of_le (Heap.lt_size (I.pin p hp).1) (by rw [z]; exact hb)) (Nat.lt_irrefl _)
structure Turn (P : Program) (w : World) (K : PySem.W.Frag) (tg : Expr) (J : It) (fp : List Addr) (it : Addr) (tn : Nat → Heap → Prop) : Prop where
  mem : it ∈ fp
  obj : ∀ i h, tn i h → ∀ b ∈ fp, ∃ o, h.get? b = some o ∧ ∀ v, o.data ≠ .cell v
  keep : ∀ i h h', tn i h → (∀ b ∈ fp, ∀ o, h.get? b = some o → h'.get? b = some o) → tn i h'
  item : ∀ (X : Cx), X.prog = P → X.w = w → X.K = K → X.calm = true → ∀ (i : Nat) (pins : List (Addr × Obj)) (s : Shared) (σ : St) (H : Hp) (E : Value → Shared → Prop), Inv X pins σ H s → (∀ b ∈ fp, FpOk X pins H b) → tn i s.heap → J.go i H →
    wpAny (model P w) X.A (pyNext (.ref it)) (fun r s1 => ∃ u, r = some u ∧
      wpAny (model P w) X.A (letOwnedTupleGo tg (.ref it) u) (fun _ s2 => ∃ x H', Inv X pins σ H' s2 ∧ RelV x u ∧ J.yld i H x H' ∧ tn (i + 1) s2.heap ∧ ∀ b ∈ fp, H' b = none) E s1) E s
  done : ∀ (X : Cx), X.prog = P → X.w = w → X.K = K → X.calm = true → ∀ (i : Nat) (pins : List (Addr × Obj)) (s : Shared) (σ : St) (H : Hp) (E : Value → Shared → Prop), Inv X pins σ H s → (∀ b ∈ fp, FpOk X pins H b) → tn i s.heap → J.stop i H →
    wpAny (model P w) X.A (pyNext (.ref it)) (fun r s1 => r = none ∧ Inv X pins σ H s1) E s
  self : ∀ (A : Around) (i : Nat) (s : Shared) (Q : Value → Shared → Prop) (E : Value → Shared → Prop), tn i s.heap → Q (.ref it) s → wpAny (model P w) A (pyIter (.ref it)) Q E s
abbrev TI := St → Hp → (It → Hp → Prop) → Prop
/-- an iterator has come -/
def PIE (X : Cx) (pins : List (Addr × Obj)) (σ : St) (tg : Expr) (R : It → Hp → Prop) (itv : Value) (s2 : Shared) : Prop :=
  ∃ (it : Addr) (fp : List Addr) (tn : Nat → Heap → Prop) (J : It) (H' : Hp), itv = .ref it ∧ Inv X pins σ H' s2 ∧ Turn X.prog X.w X.K tg J fp it tn ∧ tn 0 s2.heap ∧ (∀ b ∈ fp, FpOk X pins H' b) ∧ R J H'
def PI (X : Cx) (tg iter : Expr) (wi : TI) : Prop :=
  ∀ (pins : List (Addr × Obj)) (s : Shared) (σ : St) (H : Hp) (R : It → Hp → Prop), Inv X pins σ H s → wi σ H R →
    wpAny (model X.prog X.w) X.A (eval iter X.env) (fun v s1 => wpAny (model X.prog X.w) X.A (pyIter v) (PIE X pins σ tg R) X.xe s1) X.xe s

/-- the step ahead of the store is nothing for an iterator that keeps no tuple -/
theorem go_of {M : Model} {A : Around} {E : Value → Shared → Prop} {s : Shared} {tg : Expr} {it : Addr} {u : Value} {o : Obj} {n : String} {vs : Array Value} {Q : Unit → Shared → Prop} (ho : s.heap.get? it = some o) (hc : o.cls = .type n) (hd : o.data = .fields vs)
    (hn : ["enumerate", "zip", "dict_itemiterator", "dict_reverseitemiterator", "odict_iterator", "itertools.zip_longest", "itertools.pairwise"].contains n = false) (hQ : Q () s) : wpAny M A (letOwnedTupleGo tg (.ref it) u) Q E s := by
  unfold letOwnedTupleGo
  cases tg <;> first
    | exact wpAny_pure hQ
    | (cases u <;> first
        | exact wpAny_pure hQ
        | (refine wpAny_bind (wpAny_load ho ?_)
           rw [hc, hd]
           show wpAny M A (if (["enumerate", "zip", "dict_itemiterator", "dict_reverseitemiterator", "odict_iterator", "itertools.zip_longest", "itertools.pairwise"].contains n && vs[0]? == some (rawInt _)) = true then _ else _) Q E s
           rw [if_neg (by intro h; rw [hn, Bool.false_and] at h; cases h)]
           exact wpAny_pure hQ))

/-- the list at a, as it stands at each turn (a loop may append to it) -/
def Itl (K : PySem.W.Frag) (a : Addr) : It :=
  ⟨fun i H => ∃ xs x, SqL K H a xs ∧ xs[i]? = some x, fun i H x H' => H' = H ∧ ∀ xs, SqL K H a xs → xs[i]? = some x, fun i H => ∃ xs, SqL K H a xs ∧ xs.length ≤ i⟩
def Itt (K : PySem.W.Frag) (a : Addr) : It :=
  ⟨fun i H => ∃ xs x, SqT K H a xs ∧ xs[i]? = some x, fun i H x H' => H' = H ∧ ∀ xs, SqT K H a xs → xs[i]? = some x, fun i H => ∃ xs, SqT K H a xs ∧ xs.length ≤ i⟩
/-- lo, lo + 1, .. (n of them) -/
def Itr (lo : Int) (n : Nat) : It := ⟨fun i _ => i < n, fun i H x H' => H' = H ∧ x = .int (lo + i), fun i _ => n ≤ i⟩
theorem turn_list {P : Program} {w : World} {K : PySem.W.Frag} {tg : Expr} (a it : Addr) : Turn P w K tg (Itl K a) [it] it (fun i h => h.IsListIter it a i) where
  mem := by simp
  obj := fun i h st b hb => by
    have e : b = it := by simpa using hb
    subst e
    obtain ⟨o, e, c, d⟩ := st
    exact ⟨o, e, fun v z => by rw [d] at z; cases z⟩
  keep := fun i h h' st k => st.at fun o e => k it (by simp) o e
  item := by
    intro X hP hw hK hc i pins s σ H E I hf st hg
    subst hP hw hK
    obtain ⟨xs, x, hq, hx⟩ := hg
    obtain ⟨its, rv, p, hz⟩ := I.list hq
    obtain ⟨u, hu, ru⟩ := rv.get hx
    obtain ⟨f0, f1, f2, f3, f4, f5⟩ := hf it (by simp)
    refine wpAny_pyNext_list_item st p.isList (x := u) (by simpa using hu) fun h' st' sb => ?_
    have I1 : Inv X pins σ H { s with heap := h' } := I.turned (t' := s.toks) (fun b o hb e => (sb.2 b hb).trans e) f0 f1 f3 f4 f5
    obtain ⟨o, e, c, d⟩ := id st'
    exact ⟨u, rfl, go_of (s := { s with heap := h' }) e c d (by decide) ⟨x, H, I1, ru, ⟨rfl, fun ys hy => by rw [I.list_inj hy hq]; exact hx⟩, st', fun b hb => (hf b hb).1⟩⟩
  done := by
    intro X hP hw hK hc i pins s σ H E I hf st hg
    subst hP hw hK
    obtain ⟨xs, hq, hx⟩ := hg
    obtain ⟨its, rv, p, hz⟩ := I.list hq
    obtain ⟨f0, f1, f2, f3, f4, f5⟩ := hf it (by simp)
    have hl := rv.length
    exact wpAny_pyNext_list_end (I.ok.hd hc) st p.isList (by simp; omega) fun h' eb => ⟨rfl, I.turned (t' := s.toks) (fun b o hb e => eb b o hb e) f0 f1 f3 f4 f5⟩
  self := fun _ _ _ _ _ st h => wpAny_pyIter_listiter st h
theorem turn_tuple {P : Program} {w : World} {K : PySem.W.Frag} {tg : Expr} (a it : Addr) : Turn P w K tg (Itt K a) [it] it (fun i h => h.IsTupleIter it a i) where
  mem := by simp
  obj := fun i h st b hb => by
    have e : b = it := by simpa using hb
    subst e
    obtain ⟨o, e, c, d⟩ := st
    exact ⟨o, e, fun v z => by rw [d] at z; cases z⟩
  keep := fun i h h' st k => st.at fun o e => k it (by simp) o e
  item := by
    intro X hP hw hK hc i pins s σ H E I hf st hg
    subst hP hw hK
    obtain ⟨xs, x, hq, hx⟩ := hg
    obtain ⟨its, rv, p, hz⟩ := I.tuple hq
    obtain ⟨u, hu, ru⟩ := rv.get hx
    obtain ⟨f0, f1, f2, f3, f4, f5⟩ := hf it (by simp)
    refine wpAny_pyNext_tuple_item st (show s.heap.IsTuple a its.toArray from p) (x := u) (by simpa using hu) fun h' st' sb => ?_
    have I1 : Inv X pins σ H { s with heap := h' } := I.turned (t' := s.toks) (fun b o hb e => (sb.2 b hb).trans e) f0 f1 f3 f4 f5
    obtain ⟨o, e, c, d⟩ := id st'
    exact ⟨u, rfl, go_of (s := { s with heap := h' }) e c d (by decide) ⟨x, H, I1, ru, ⟨rfl, fun ys hy => by rw [I.tuple_inj hy hq]; exact hx⟩, st', fun b hb => (hf b hb).1⟩⟩
  done := by
    intro X hP hw hK hc i pins s σ H E I hf st hg
    subst hP hw hK
    obtain ⟨xs, hq, hx⟩ := hg
    obtain ⟨its, rv, p, hz⟩ := I.tuple hq
    obtain ⟨f0, f1, f2, f3, f4, f5⟩ := hf it (by simp)
    have hl := rv.length
    exact wpAny_pyNext_tuple_end (I.ok.hd hc) st (show s.heap.IsTuple a its.toArray from p) (by simp; omega) fun h' eb => ⟨rfl, I.turned (t' := s.toks) (fun b o hb e => eb b o hb e) f0 f1 f3 f4 f5⟩
  self := fun _ _ _ _ _ st h => wpAny_pyIter_tupleiter st h
theorem turn_range {P : Program} {w : World} {K : PySem.W.Frag} {tg : Expr} (it : Addr) (lo : Int) (n : Nat) : Turn P w K tg (Itr lo n) [it] it (fun i h => IsRangeIter h it (lo + (i : Nat) * 1) ((n : Int) - (i : Nat)) 1) where
  mem := by simp
  obj := fun i h st b hb => by
    have e : b = it := by simpa using hb
    subst e
    exact ⟨_, st, fun v z => by
      have z' : Data.fields _ = Data.cell v := z
      cases z'⟩
  keep := fun i h h' st k => k it (by simp) _ st
  item := by
    intro X hP hw hK hc i pins s σ H E I hf st hg
    subst hP hw hK
    obtain ⟨f0, f1, f2, f3, f4, f5⟩ := hf it (by simp)
    have W := Walks.range (prog := X.prog) (w := X.w) (I.ok.hd hc) it lo 1 n
    refine W.item i s _ _ hg st fun v h' tk hv st' kk => ?_
    obtain ⟨t, rfl⟩ := hv
    have I1 : Inv X pins σ H { s with heap := h', toks := tk } := I.turned (fun b o hb e => kk b o (by simpa using hb) e) f0 f1 f3 f4 f5
    refine ⟨_, rfl, go_of (s := { s with heap := h', toks := tk }) (n := "range_iterator") st' rfl rfl (by decide) ⟨.int (lo + i), H, I1, ⟨t, ?_⟩, ⟨rfl, rfl⟩, st', fun b hb => (hf b hb).1⟩⟩
    rw [Int.mul_one]
  done := by
    intro X hP hw hK hc i pins s σ H E I hf st hg
    subst hP hw hK
    obtain ⟨f0, f1, f2, f3, f4, f5⟩ := hf it (by simp)
    exact wpAny_pyNext_range_end (I.ok.hd hc) st (by have : n ≤ i := hg; omega) fun h' eb => ⟨rfl, I.turned (t' := s.toks) (fun b o hb e => eb b o hb e) f0 f1 f3 f4 f5⟩
  self := fun _ _ _ _ _ st h => wpAny_pyIter_rangeiter st h
end L2

namespace L2
open PySem PySem.Spec PyProof.Rows
section
variable {X : Cx} {tg : Expr}
def iList (K : PySem.W.Frag) (tl : TE) : TI := fun σ H R => tl σ H fun x H1 => ∃ a, x = .ref a ∧ (∃ xs, SqL K H1 a xs) ∧ R (Itl K a) H1
def iTup (K : PySem.W.Frag) (tl : TE) : TI := fun σ H R => tl σ H fun x H1 => ∃ a, x = .ref a ∧ (∃ xs, SqT K H1 a xs) ∧ R (Itt K a) H1
theorem pi_list {l : Expr} {tl : TE} (hl : PE X l tl) : PI X tg l (iList X.K tl) := by
  intro pins s σ H R I h
  refine thn (hl pins s σ H _ I h) fun v s1 ⟨x, H1, I1, r1, q1⟩ => ?_
  obtain ⟨a, e, ⟨xs, hq⟩, q⟩ := q1
  subst e
  cases r1
  obtain ⟨its, rv, p, hz⟩ := I1.list hq
  refine wpAny_pyIter_list p.isList ?_
  refine ⟨s1.heap.objs.size, [s1.heap.objs.size], _, _, H1, rfl, I1.kept (t' := s1.toks) fun b o e => Heap.get?_push_of_some _ e, turn_list a _, ⟨_, Heap.get?_push_size _ rfl, rfl, rfl⟩, fun b hb => ?_, q⟩
  have e : b = s1.heap.objs.size := by simpa using hb
  subst e
  exact I1.fpOk (Nat.le_refl _) (I1.hok.fresh (Nat.le_refl _))
theorem pi_tup {l : Expr} {tl : TE} (hl : PE X l tl) : PI X tg l (iTup X.K tl) := by
  intro pins s σ H R I h
  refine thn (hl pins s σ H _ I h) fun v s1 ⟨x, H1, I1, r1, q1⟩ => ?_
  obtain ⟨a, e, ⟨xs, hq⟩, q⟩ := q1
  subst e
  cases r1
  obtain ⟨its, rv, p, hz⟩ := I1.tuple hq
  refine wpAny_pyIter_tuple (show s1.heap.IsTuple a its.toArray from p) ?_
  refine ⟨s1.heap.objs.size, [s1.heap.objs.size], _, _, H1, rfl, I1.kept (t' := s1.toks) fun b o e => Heap.get?_push_of_some _ e, turn_tuple a _, ⟨_, Heap.get?_push_size _ rfl, rfl, rfl⟩, fun b hb => ?_, q⟩
  have e : b = s1.heap.objs.size := by simpa using hb
  subst e
  exact I1.fpOk (Nat.le_refl _) (I1.hok.fresh (Nat.le_refl _))
/-- a range object just made, walked -/
theorem range_it {pins : List (Addr × Obj)} {σ : St} {H : Hp} {s : Shared} {R : It → Hp → Prop} {E : Value → Shared → Prop} {lo hi : Int} {t u v : Tok} {tk : Nat} (I : Inv X pins σ H s) (h1 : -(2 ^ 62) ≤ lo) (h2 : lo < 2 ^ 62) (h3 : -(2 ^ 62) ≤ hi) (h4 : hi < 2 ^ 62)
    (q : R (Itr lo (hi - lo).toNat) H) : wpAny (model X.prog X.w) X.A (pyIter (.ref s.heap.objs.size)) (PIE X pins σ tg R) E { s with heap := s.heap.push { cls := .type "range", data := .fields #[.int lo t, .int hi u, .int 1 v] }, toks := tk } := by
  refine wpAny_pyIter_range (IsRange.new ..) (small_one h1 h2 h3 h4) ?_
  have I1 : Inv X pins σ H { s with heap := s.heap.push { cls := .type "range", data := .fields #[.int lo t, .int hi u, .int 1 v] }, toks := tk } := I.kept fun b o e => Heap.get?_push_of_some _ e
  refine ⟨(s.heap.push { cls := .type "range", data := .fields #[.int lo t, .int hi u, .int 1 v] }).objs.size, [(s.heap.push { cls := .type "range", data := .fields #[.int lo t, .int hi u, .int 1 v] }).objs.size], _, _, H, rfl,
    I1.kept (t' := tk) fun b o e => Heap.get?_push_of_some _ e, turn_range _ lo (hi - lo).toNat, ?_, fun b hb => ?_, q⟩
  · have e1 : lo + ((0 : Nat) : Int) * 1 = lo := by simp
    have e2 : (((hi - lo).toNat : Nat) : Int) - ((0 : Nat) : Int) = Builtin.Range.rangeSize lo hi 1 := by rw [rangeSize_one]; split <;> omega
    show IsRangeIter _ _ (lo + ((0 : Nat) : Int) * 1) ((((hi - lo).toNat : Nat) : Int) - ((0 : Nat) : Int)) 1
    rw [e1, e2]
    exact Heap.get?_push_size _ rfl
  · have e : b = (s.heap.push { cls := .type "range", data := .fields #[.int lo t, .int hi u, .int 1 v] }).objs.size := by simpa using hb
    subst e
    exact I1.fpOk (Nat.le_refl _) (I1.hok.fresh (Nat.le_refl _))
def iRng1 (ta : TA) : TI := fun σ H R => ta σ H fun vs H1 => ∃ j : Int, vs = [.int j] ∧ -(2 ^ 62) ≤ j ∧ j < 2 ^ 62 ∧ R (Itr 0 j.toNat) H1
def iRng2 (ta : TA) : TI := fun σ H R => ta σ H fun vs H1 => ∃ i j : Int, vs = [.int i, .int j] ∧ (-(2 ^ 62) ≤ i ∧ i < 2 ^ 62 ∧ -(2 ^ 62) ≤ j ∧ j < 2 ^ 62) ∧ R (Itr i (j - i).toNat) H1
theorem pi_range1 {a : Expr} {ta : TA} {p pos : Pos} (hg : Gl X "range") (hm : X.mg "range" = none) (ha : PA X [a] ta) (hs : starEach [a] X.env = [(false, eval a X.env)] := by rfl) : PI X tg (.Call (.Name "range" p) [a] [] pos) (iRng1 ta) := by
  intro pins s σ H R I h
  refine Call_ (ld_blt I hg hm boot_range (PyProof.Rows.callWith_type1 (thn (ha pos pins s σ H _ I h) fun us s1 ⟨vs, H1, I1, r1, q1⟩ => ?_) hs rfl))
  obtain ⟨j, e, q1, q2, q⟩ := q1
  subst e
  cases r1 with
  | cons r rr =>
    cases rr
    obtain ⟨t, rfl⟩ := r
    exact call_range_1 (range_it I1 (by omega) (by omega) q1 q2 (by simpa using q))
theorem pi_range2 {a b : Expr} {ta : TA} {p pos : Pos} (hg : Gl X "range") (hm : X.mg "range" = none) (ha : PA X [a, b] ta) (hs : starEach [a, b] X.env = [(false, eval a X.env), (false, eval b X.env)] := by rfl) (hs2 : starEach [b] X.env = [(false, eval b X.env)] := by rfl) :
    PI X tg (.Call (.Name "range" p) [a, b] [] pos) (iRng2 ta) := by
  intro pins s σ H R I h
  refine Call_ (ld_blt I hg hm boot_range (PyProof.Rows.callWith_type1 (thn (ha pos pins s σ H _ I h) fun us s1 ⟨vs, H1, I1, r1, q1⟩ => ?_) (by rw [hs, hs2]) (by rw [hs2]; rfl)))
  obtain ⟨i, j, e, ⟨q1, q2, q3, q4⟩, q⟩ := q1
  subst e
  cases r1 with
  | cons r rr =>
    cases rr with
    | cons r' rr =>
      cases rr
      obtain ⟨t, rfl⟩ := r
      obtain ⟨t', rfl⟩ := r'
      exact call_range_2 (range_it I1 q1 q2 q3 q4 q)

/-! ### for -/
/-- W: the invariant by the turn and a measure; N: what the body is to reach -/
def tFor (wi : TI) (g : TG) (tb : TS) : TS := fun D σ H => wi σ H fun J H1 => ∃ W : Nat → Nat → St → Hp → Prop, (∃ m, W 0 m σ H1) ∧ ∀ i m σ H, W i m σ H →
  (J.stop i H ∧ D.nx σ H) ∨ (J.go i H ∧ ∃ N : St → Hp → Prop, (∀ σ' H', N σ' H' → ∃ m', m' < m ∧ W (i + 1) m' σ' H') ∧ ∀ x H', J.yld i H x H' → g x σ H' fun σ2 H2 => tb { D with nx := N, ct := N, bk := D.nx } σ2 H2)
/-- the records at fp as they stand -/
def pinsAt (fp : List Addr) (h : Heap) : List (Addr × Obj) := fp.filterMap fun b => (h.get? b).map fun o => (b, o)
theorem mem_pinsAt {fp : List Addr} {h : Heap} {b : Addr} {o : Obj} (hb : b ∈ fp) (e : h.get? b = some o) : (b, o) ∈ pinsAt fp h := List.mem_filterMap.mpr ⟨b, hb, by rw [e]; rfl⟩
theorem of_pinsAt {fp : List Addr} {h : Heap} {p : Addr × Obj} (hp : p ∈ pinsAt fp h) : p.1 ∈ fp ∧ h.get? p.1 = some p.2 := by
  obtain ⟨b, hb, e⟩ := List.mem_filterMap.mp hp
  cases q : h.get? b with
  | none => rw [q] at e; cases e
  | some o =>
    rw [q] at e
    have e' : (b, o) = p := Option.some.inj e
    subst e'
    exact ⟨hb, q⟩
theorem Inv.pinned {pins : List (Addr × Obj)} {σ : St} {H : Hp} {s : Shared} {fp : List Addr} (I : Inv X pins σ H s) (hf : ∀ b ∈ fp, FpOk X pins H b) (ho : ∀ b ∈ fp, ∃ o, s.heap.get? b = some o ∧ ∀ v, o.data ≠ .cell v) : Inv X (pins ++ pinsAt fp s.heap) σ H s :=
  I.pins_of fun p hp => (List.mem_append.mp hp).elim (fun z => I.pin p (List.mem_append_right _ z)) fun z => by
    obtain ⟨hb, e⟩ := of_pinsAt z
    obtain ⟨f0, f1, f2, _⟩ := hf p.1 hb
    obtain ⟨o, e', d⟩ := ho p.1 hb
    rw [e] at e'; cases e'
    exact ⟨e, f0, f1, f2, d⟩
theorem Inv.unpinned {pins pl : List (Addr × Obj)} {σ : St} {H : Hp} {s : Shared} (I : Inv X (pins ++ pl) σ H s) : Inv X pins σ H s := I.pins_of fun p hp => I.pin p (List.mem_append_right _ (List.mem_append_left _ hp))
theorem ps_for {iter : Expr} {body : List Stmt} {wi : TI} {g : TG} {tb : TS} {pos : Pos} (hp : PassesOwn (model X.prog X.w) X.A X.env X.xe) (hc : X.calm = true) (hi : PI X tg iter wi) (hg : PG X tg g) (hb : PSs X body tb)
    (hs : ∀ x, foldedSetIterable iter X.env x = pure x := by intro _; rfl) : PS X (.For tg iter body [] pos) (tFor wi g tb) := by
  intro pins s σ H D I h
  refine wpAny_For (thn (hi pins s σ H _ I h) fun v s1 h1 => thn h1 fun itv s2 h2 => ?_) hs
  obtain ⟨it, fp, tn, J, H2, e, I2, T, st2, f2, W, ⟨m0, w0⟩, turn⟩ := h2
  subst e
  -- what stays true of the iterator's objects through the loop
  have stat : ∀ {H' : Hp}, (∀ b ∈ fp, H' b = none) → ∀ b ∈ fp, FpOk X pins H' b := fun hn b hb => ⟨hn b hb, (f2 b hb).2⟩
  refine codeAny_forLoop_any (fun n s' => ∃ i σ' H', Inv X pins σ' H' s' ∧ tn i s'.heap ∧ (∀ b ∈ fp, H' b = none) ∧ W i n σ' H') ?_ m0 ⟨0, σ, H2, I2, st2, fun b hb => (f2 b hb).1, w0⟩
  rintro n s3 ⟨i, σ3, H3, I3, st3, fr3, w3⟩
  rcases turn i n σ3 H3 w3 with ⟨stop, qn⟩ | ⟨go, N, hN, step⟩
  · refine wpAny_passesOwn hp (thn (T.done X rfl rfl rfl hc i pins s3 σ3 H3 X.xe I3 (stat fr3) st3 stop) fun r s4 ⟨hr, I4⟩ => ?_)
    subst hr
    exact wpAny_execs_nil ⟨σ3, H3, I4, qn⟩
  · refine wpAny_passesOwn hp (thn (T.item X rfl rfl rfl hc i pins s3 σ3 H3 X.xe I3 (stat fr3) st3 go) fun r s4 ⟨u, hr, h4⟩ => ?_)
    subst hr
    refine wpAny_passesOwn hp (thn h4 fun _ s5 ⟨x, H5, I5, r5, y5, st5, fr5⟩ => ?_)
    have I5' := I5.pinned (stat fr5) (T.obj _ _ st5)
    refine wpAny_passesOwn hp (thn (hg _ s5 σ3 H5 x u _ I5' r5 (step x H5 y5)) fun _ s6 ⟨σ6, H6, I6, q6⟩ => ?_)
    refine wpAny_passesOwn hp (thn (hb _ s6 σ6 H6 _ I6 q6) fun f s7 q7 => ?_)
    have again : ∀ {σ7 : St} {H7 : Hp}, Inv X (pins ++ pinsAt fp s5.heap) σ7 H7 s7 → N σ7 H7 → ∃ m, m < n ∧ ∃ i σ' H', Inv X pins σ' H' s7 ∧ tn i s7.heap ∧ (∀ b ∈ fp, H' b = none) ∧ W i m σ' H' := fun {σ7 H7} I7 n7 => by
      obtain ⟨m', hm, w7⟩ := hN σ7 H7 n7
      refine ⟨m', hm, i + 1, σ7, H7, I7.unpinned, T.keep _ _ _ st5 fun b hb o e => (I7.pin (b, o) (List.mem_append_right _ (List.mem_append_right _ (mem_pinsAt hb e)))).1, fun b hb => ?_, w7⟩
      obtain ⟨o, e, d⟩ := T.obj _ _ st5 b hb
      exact (I7.pin (b, o) (List.mem_append_right _ (List.mem_append_right _ (mem_pinsAt hb e)))).2.1
    cases f with
    | next => obtain ⟨σ7, H7, I7, n7⟩ := q7; exact again I7 n7
    | cont => obtain ⟨σ7, H7, I7, n7⟩ := q7; exact again I7 n7
    | brk => obtain ⟨σ7, H7, I7, q7⟩ := q7; exact ⟨σ7, H7, I7.unpinned, q7⟩
    | ret v => obtain ⟨x7, σ7, H7, I7, r7, q7⟩ := q7; exact ⟨x7, σ7, H7, I7.unpinned, r7, q7⟩
end

/-! ### the forms one uses -/
/-- over a list that the body leaves as it is -/
theorem for_list {K : PySem.W.Frag} {a : Addr} {xs : List V} {g : TG} {tb : TS} {D : Ends} {σ : St} {H : Hp} (Pv : Nat → St → Hp → Prop) (h0 : Pv 0 σ H) (hl : ∀ i σ H, i ≤ xs.length → Pv i σ H → SqL K H a xs)
    (hs : ∀ i x σ H, xs[i]? = some x → Pv i σ H → g x σ H fun σ2 H2 => tb { D with nx := Pv (i + 1), ct := Pv (i + 1), bk := D.nx } σ2 H2) (hd : ∀ σ H, Pv xs.length σ H → D.nx σ H) :
    ∃ W : Nat → Nat → St → Hp → Prop, (∃ m, W 0 m σ H) ∧ ∀ i m σ H, W i m σ H →
      ((Itl K a).stop i H ∧ D.nx σ H) ∨ ((Itl K a).go i H ∧ ∃ N : St → Hp → Prop, (∀ σ' H', N σ' H' → ∃ m', m' < m ∧ W (i + 1) m' σ' H') ∧ ∀ x H', (Itl K a).yld i H x H' → g x σ H' fun σ2 H2 => tb { D with nx := N, ct := N, bk := D.nx } σ2 H2) := by
  refine ⟨fun i m σ H => m = xs.length - i ∧ i ≤ xs.length ∧ Pv i σ H, ⟨xs.length, by simp, Nat.zero_le _, h0⟩, ?_⟩
  rintro i m σ H ⟨rfl, hi, p⟩
  have q := hl i σ H hi p
  by_cases hlt : i < xs.length
  · refine .inr ⟨⟨xs, xs[i], q, by simp [hlt]⟩, Pv (i + 1), fun σ' H' p' => ⟨xs.length - (i + 1), by omega, rfl, hlt, p'⟩, fun x H' y => ?_⟩
    obtain ⟨e, y⟩ := y
    subst e
    exact hs i x σ _ (y xs q) p
  · have e : i = xs.length := by omega
    subst e
    exact .inl ⟨⟨xs, q, Nat.le_refl _⟩, hd σ H p⟩
theorem for_tup {K : PySem.W.Frag} {a : Addr} {xs : List V} {g : TG} {tb : TS} {D : Ends} {σ : St} {H : Hp} (Pv : Nat → St → Hp → Prop) (h0 : Pv 0 σ H) (hl : ∀ i σ H, i ≤ xs.length → Pv i σ H → SqT K H a xs)
    (hs : ∀ i x σ H, xs[i]? = some x → Pv i σ H → g x σ H fun σ2 H2 => tb { D with nx := Pv (i + 1), ct := Pv (i + 1), bk := D.nx } σ2 H2) (hd : ∀ σ H, Pv xs.length σ H → D.nx σ H) :
    ∃ W : Nat → Nat → St → Hp → Prop, (∃ m, W 0 m σ H) ∧ ∀ i m σ H, W i m σ H →
      ((Itt K a).stop i H ∧ D.nx σ H) ∨ ((Itt K a).go i H ∧ ∃ N : St → Hp → Prop, (∀ σ' H', N σ' H' → ∃ m', m' < m ∧ W (i + 1) m' σ' H') ∧ ∀ x H', (Itt K a).yld i H x H' → g x σ H' fun σ2 H2 => tb { D with nx := N, ct := N, bk := D.nx } σ2 H2) := by
  refine ⟨fun i m σ H => m = xs.length - i ∧ i ≤ xs.length ∧ Pv i σ H, ⟨xs.length, by simp, Nat.zero_le _, h0⟩, ?_⟩
  rintro i m σ H ⟨rfl, hi, p⟩
  have q := hl i σ H hi p
  by_cases hlt : i < xs.length
  · refine .inr ⟨⟨xs, xs[i], q, by simp [hlt]⟩, Pv (i + 1), fun σ' H' p' => ⟨xs.length - (i + 1), by omega, rfl, hlt, p'⟩, fun x H' y => ?_⟩
    obtain ⟨e, y⟩ := y
    subst e
    exact hs i x σ _ (y xs q) p
  · have e : i = xs.length := by omega
    subst e
    exact .inl ⟨⟨xs, q, Nat.le_refl _⟩, hd σ H p⟩
theorem for_range {lo : Int} {n : Nat} {g : TG} {tb : TS} {D : Ends} {σ : St} {H : Hp} (Pv : Nat → St → Hp → Prop) (h0 : Pv 0 σ H)
    (hs : ∀ i σ H, i < n → Pv i σ H → g (.int (lo + i)) σ H fun σ2 H2 => tb { D with nx := Pv (i + 1), ct := Pv (i + 1), bk := D.nx } σ2 H2) (hd : ∀ σ H, Pv n σ H → D.nx σ H) :
    ∃ W : Nat → Nat → St → Hp → Prop, (∃ m, W 0 m σ H) ∧ ∀ i m σ H, W i m σ H →
      ((Itr lo n).stop i H ∧ D.nx σ H) ∨ ((Itr lo n).go i H ∧ ∃ N : St → Hp → Prop, (∀ σ' H', N σ' H' → ∃ m', m' < m ∧ W (i + 1) m' σ' H') ∧ ∀ x H', (Itr lo n).yld i H x H' → g x σ H' fun σ2 H2 => tb { D with nx := N, ct := N, bk := D.nx } σ2 H2) := by
  refine ⟨fun i m σ H => m = n - i ∧ i ≤ n ∧ Pv i σ H, ⟨n, by simp, Nat.zero_le _, h0⟩, ?_⟩
  rintro i m σ H ⟨rfl, hi, p⟩
  by_cases hlt : i < n
  · refine .inr ⟨hlt, Pv (i + 1), fun σ' H' p' => ⟨n - (i + 1), by omega, rfl, hlt, p'⟩, fun x H' y => ?_⟩
    obtain ⟨e, y⟩ := y
    subst e y
    exact hs i σ _ hlt p
  · have e : i = n := by omega
    subst e
    exact .inl ⟨Nat.le_refl _, hd σ H p⟩
/-- while, by a word and a measure of the state -/
theorem while_by {c : TT} {tb : TS} {D : Ends} {σ : St} {H : Hp} (Pv : St → Hp → Prop) (μ : St → Hp → Nat) (h0 : Pv σ H)
    (hs : ∀ σ H, Pv σ H → c σ H fun b H1 => if b = true then tb { D with nx := fun σ' H' => Pv σ' H' ∧ μ σ' H' < μ σ H, ct := fun σ' H' => Pv σ' H' ∧ μ σ' H' < μ σ H, bk := D.nx } σ H1 else D.nx σ H1)
    (mono : ∀ σ H Q Q', (∀ b H1, Q b H1 → Q' b H1) → c σ H Q → c σ H Q') : tWhile c tb D σ H := by
  refine ⟨fun m σ H => m = μ σ H ∧ Pv σ H, ⟨_, rfl, h0⟩, ?_⟩
  rintro m σ H ⟨rfl, p⟩
  refine mono σ H _ _ (fun b H1 q => ?_) (hs σ H p)
  cases b with
  | true => exact ⟨_, fun σ' H' ⟨p', l⟩ => ⟨_, l, rfl, p'⟩, q⟩
  | false => exact q
end L2

namespace L2
open PySem PySem.Spec PyProof.Rows

abbrev R2 := V → V → Hp → VK → Prop
/-- a two-place operation on values: f is binaryOp op, inplaceOp op or compareOp op -/
def OpR (X : Cx) (f : Value → Value → Sem Value) (r : R2) : Prop :=
  ∀ (pins : List (Addr × Obj)) (s : Shared) (σ : St) (H : Hp) (x y : V) (v u : Value) (Q : VK), Inv X pins σ H s → RelV x v → RelV y u → r x y H Q →
    wpAny (model X.prog X.w) X.A (f v u) (EP X pins σ Q) X.xe s
/-- a one-place operation -/
def UnR (X : Cx) (f : Value → Sem Value) (r : V → Hp → VK → Prop) : Prop :=
  ∀ (pins : List (Addr × Obj)) (s : Shared) (σ : St) (H : Hp) (x : V) (v : Value) (Q : VK), Inv X pins σ H s → RelV x v → r x H Q →
    wpAny (model X.prog X.w) X.A (f v) (EP X pins σ Q) X.xe s
/-- a call of a value that is known (a builtin, a type) with values -/
def CallR (X : Cx) (f : Value) (r : List V → Hp → VK → Prop) : Prop :=
  ∀ (pins : List (Addr × Obj)) (s : Shared) (σ : St) (H : Hp) (xs : List V) (us : List Value) (Q : VK), Inv X pins σ H s → Vals xs us → r xs H Q →
    wpAny (model X.prog X.w) X.A (call f us) (EP X pins σ Q) X.xe s
/-- a value's truth -/
def TruR (X : Cx) (r : V → Hp → (Bool → Hp → Prop) → Prop) : Prop :=
  ∀ (pins : List (Addr × Obj)) (s : Shared) (σ : St) (H : Hp) (x : V) (v : Value) (Q : Bool → Hp → Prop), Inv X pins σ H s → RelV x v → r x H Q →
    wpAny (model X.prog X.w) X.A (truthy v) (TP X pins σ Q) X.xe s

def tOp (r : R2) (ta tb : TE) : TE := fun σ H Q => ta σ H fun x H1 => tb σ H1 fun y H2 => r x y H2 Q
def tUn (r : V → Hp → VK → Prop) (ta : TE) : TE := fun σ H Q => ta σ H fun x H1 => r x H1 Q
/-- ints in, under C, and a value out -/
def rI (C : Int → Int → Prop) (g : Int → Int → V) : R2 := fun x y H Q => ∃ i j, x = .int i ∧ y = .int j ∧ C i j ∧ Q (g i j) H
def rI0 (g : Int → Int → V) : R2 := fun x y H Q => ∃ i j, x = .int i ∧ y = .int j ∧ Q (g i j) H
def rU (g : Int → V) : V → Hp → VK → Prop := fun x H Q => ∃ i, x = .int i ∧ Q (g i) H

section
variable {X : Cx} {a b c : Expr} {ta tb tc : TE} {pos : Pos}

theorem binT (ha : PE X a ta) (hb : PE X b tb) {pins : List (Addr × Obj)} {s : Shared} {σ : St} {H : Hp} {R : V → V → Hp → Prop} (I : Inv X pins σ H s)
    (h : ta σ H fun x H1 => tb σ H1 fun y H2 => R x y H2) {Q : Value → Shared → Prop} {f : Value → Value → Sem Value}
    (hf : ∀ v u s2 x y H2, Inv X pins σ H2 s2 → RelV x v → RelV y u → R x y H2 → wpAny (model X.prog X.w) X.A (f v u) Q X.xe s2) :
    wpAny (model X.prog X.w) X.A (eval a X.env) (fun v s₁ => wpAny (model X.prog X.w) X.A (eval b X.env) (fun u s₂ => wpAny (model X.prog X.w) X.A (f v u) Q X.xe s₂) X.xe s₁) X.xe s := by
  refine thn (ha pins s σ H _ I h) fun v s1 ⟨x, H1, I1, r1, q1⟩ => ?_
  refine thn (hb pins s1 σ H1 _ I1 q1) fun u s2 ⟨y, H2, I2, r2, q2⟩ => ?_
  exact hf v u s2 x y H2 I2 r1 r2 q2

theorem pe_op {op : Operator} {r : R2} (ho : OpR X (binaryOp op) r) (ha : PE X a ta) (hb : PE X b tb) : PE X (.BinOp a op b pos) (tOp r ta tb) := by
  intro pins s σ H Q I h
  exact wpAny_BinOp (binT ha hb I h fun v u s2 x y H2 I2 rx ry q => ho pins s2 σ H2 x y v u Q I2 rx ry q)
theorem pe_un {op : UnaryOp} {r : V → Hp → VK → Prop} (ho : UnR X (unaryOp op) r) (ha : PE X a ta) : PE X (.UnaryOp op a pos) (tUn r ta) := by
  intro pins s σ H Q I h
  exact UnaryOp_ (thn (ha pins s σ H _ I h) fun v s1 ⟨x, H1, I1, r1, q1⟩ => ho pins s1 σ H1 x v Q I1 r1 q1)
/-- a op= e at a name: the name's slot i -/
theorem augR {op : Operator} {r : R2} (ho : OpR X (inplaceOp op) r) {pins : List (Addr × Obj)} {s : Shared} {σ : St} {H : Hp} {x y : V} {v u : Value} {Q : VK} (I : Inv X pins σ H s)
    (rx : RelV x v) (ry : RelV y u) (q : r x y H Q) : wpAny (model X.prog X.w) X.A (inplaceOp op v u) (EP X pins σ Q) X.xe s := ho pins s σ H x y v u Q I rx ry q

/-! ### ints -/
theorem opI {f : Value → Value → Sem Value} {C : Int → Int → Prop} {g : Int → Int → Int}
    (rule : ∀ (i j : Int) (t u : Tok) (s : Shared) (Q : Value → Shared → Prop) (E : Value → Shared → Prop), C i j → Q (.int (g i j) s.toks) { s with toks := s.toks + 1 } → wpAny (model X.prog X.w) X.A (f (.int i t) (.int j u)) Q E s) :
    OpR X f (rI C fun i j => .int (g i j)) := by
  intro pins s σ H x y v u Q I rx ry h
  obtain ⟨i, j, rfl, rfl, hc, q⟩ := h
  obtain ⟨t, rfl⟩ := rx
  obtain ⟨t', rfl⟩ := ry
  exact rule i j t t' s _ _ hc ⟨.int (g i j), H, I.tok _, ⟨_, rfl⟩, q⟩
theorem opI0 {f : Value → Value → Sem Value} {g : Int → Int → Int}
    (rule : ∀ (i j : Int) (t u : Tok) (s : Shared) (Q : Value → Shared → Prop) (E : Value → Shared → Prop), Q (.int (g i j) s.toks) { s with toks := s.toks + 1 } → wpAny (model X.prog X.w) X.A (f (.int i t) (.int j u)) Q E s) :
    OpR X f (rI0 fun i j => .int (g i j)) := by
  intro pins s σ H x y v u Q I rx ry h
  obtain ⟨i, j, rfl, rfl, q⟩ := h
  obtain ⟨t, rfl⟩ := rx
  obtain ⟨t', rfl⟩ := ry
  exact rule i j t t' s _ _ ⟨.int (g i j), H, I.tok _, ⟨_, rfl⟩, q⟩
theorem opB0 {f : Value → Value → Sem Value} {g : Int → Int → Bool}
    (rule : ∀ (i j : Int) (t u : Tok) (s : Shared) (Q : Value → Shared → Prop) (E : Value → Shared → Prop), Q (.bool (g i j)) s → wpAny (model X.prog X.w) X.A (f (.int i t) (.int j u)) Q E s) :
    OpR X f (rI0 fun i j => .bl (g i j)) := by
  intro pins s σ H x y v u Q I rx ry h
  obtain ⟨i, j, rfl, rfl, q⟩ := h
  obtain ⟨t, rfl⟩ := rx
  obtain ⟨t', rfl⟩ := ry
  exact rule i j t t' s _ _ ⟨.bl (g i j), H, I, rfl, q⟩

def CDiv (i j : Int) : Prop := 0 < j ∧ j < 1073741824
def CDivN (i j : Int) : Prop := j ≠ 0 ∧ j.natAbs < 1073741824
def CPow (i j : Int) : Prop := 0 ≤ j ∧ j ≤ 1000000 ∧ i.natAbs < 2 ^ 64
def CMul (i j : Int) : Prop := (-(2 ^ 64) < i ∧ i < 2 ^ 64) ∨ (-(2 ^ 64) < j ∧ j < 2 ^ 64)
theorem CMul.ok {i j : Int} (h : CMul i j) : IntMulOk i j := by
  rcases h with ⟨h1, h2⟩ | ⟨h1, h2⟩
  · exact .of_left (intBits_le_64 h1 h2)
  · exact .of_right (intBits_le_64 h1 h2)
theorem two_pow_nn (k : Nat) : (0 : Int) ≤ 2 ^ k := by
  rw [two_pow_cast]
  exact Int.natCast_nonneg _

theorem op_add : OpR X (binaryOp .Add) (rI0 fun i j => .int (i + j)) := opI0 fun _ _ _ _ _ _ _ q => add_int q
theorem op_sub : OpR X (binaryOp .Sub) (rI0 fun i j => .int (i - j)) := opI0 fun _ _ _ _ _ _ _ q => sub_int q
theorem op_mul : OpR X (binaryOp .Mult) (rI CMul fun i j => .int (i * j)) := opI fun _ _ _ _ _ _ _ hc q => mul_int q hc.ok
/-- // by a positive divisor -/
theorem op_fdiv : OpR X (binaryOp .FloorDiv) (rI CDiv fun i j => .int (i / j)) := opI fun i j _ _ _ _ _ hc q => by
  have h1 : (0 : Int) < j := hc.1
  have h2 : j < 1073741824 := hc.2
  exact floordiv_int (by omega) (by rw [Int.fdiv_eq_ediv_of_nonneg i (by omega)]; exact q) (.inl (PyProof.noPylong_small (by omega)))
theorem op_fdivN : OpR X (binaryOp .FloorDiv) (rI CDivN fun i j => .int (i.fdiv j)) := opI fun _ _ _ _ _ _ _ hc q => floordiv_int hc.1 q (.inl (PyProof.noPylong_small hc.2))
/-- % by a positive divisor of any size -/
theorem op_mod : OpR X (binaryOp .Mod) (rI (fun _ j => 0 < j) fun i j => .int (i % j)) := opI fun i j _ _ _ _ _ hc q => by
  have h1 : (0 : Int) < j := hc
  exact mod_int' (by omega) (by rw [Int.fmod_eq_emod_of_nonneg i (by omega)]; exact q)
theorem op_modN : OpR X (binaryOp .Mod) (rI (fun _ j => j ≠ 0) fun i j => .int (i.fmod j)) := opI fun _ _ _ _ _ _ _ hc q => mod_int' hc q
theorem op_pow : OpR X (binaryOp .Pow) (rI CPow fun i j => .int (i ^ j.toNat)) := opI fun _ _ _ _ _ _ _ hc q => pow_int_small hc.1 hc.2.1 hc.2.2 q
theorem op_shl : OpR X (binaryOp .LShift) (rI CPow fun i j => .int (i * 2 ^ j.toNat)) := opI fun _ _ _ _ _ _ _ hc q => lshift_int_small hc.1 hc.2.1 hc.2.2 q
theorem op_shr : OpR X (binaryOp .RShift) (rI (fun _ j => 0 ≤ j) fun i j => .int (i / 2 ^ j.toNat)) := opI fun i j _ _ _ _ _ hc q =>
  rshift_int hc (by rw [Int.fdiv_eq_ediv_of_nonneg i (two_pow_nn _)]; exact q)
theorem op_and : OpR X (binaryOp .BitAnd) (rI0 fun i j => .int (Builtin.bitAnd i j)) := opI0 fun _ _ _ _ _ _ _ q => and_int q
theorem op_or : OpR X (binaryOp .BitOr) (rI0 fun i j => .int (Builtin.bitOr i j)) := opI0 fun _ _ _ _ _ _ _ q => or_int q
theorem op_xor : OpR X (binaryOp .BitXor) (rI0 fun i j => .int (Builtin.bitXor i j)) := opI0 fun _ _ _ _ _ _ _ q => xor_int q

theorem iop_add : OpR X (inplaceOp .Add) (rI0 fun i j => .int (i + j)) := opI0 fun _ _ _ _ _ _ _ q => iadd_int q
theorem iop_sub : OpR X (inplaceOp .Sub) (rI0 fun i j => .int (i - j)) := opI0 fun _ _ _ _ _ _ _ q => isub_int q
theorem iop_mul : OpR X (inplaceOp .Mult) (rI CMul fun i j => .int (i * j)) := opI fun _ _ _ _ _ _ _ hc q => imul_int q hc.ok
theorem iop_fdiv : OpR X (inplaceOp .FloorDiv) (rI CDiv fun i j => .int (i / j)) := opI fun i j _ _ _ _ _ hc q => by
  have h1 : (0 : Int) < j := hc.1
  have h2 : j < 1073741824 := hc.2
  exact ifloordiv_int (by omega) (by rw [Int.fdiv_eq_ediv_of_nonneg i (by omega)]; exact q) (.inl (PyProof.noPylong_small (by omega)))
theorem iop_mod : OpR X (inplaceOp .Mod) (rI (fun _ j => 0 < j) fun i j => .int (i % j)) := opI fun i j _ _ _ _ _ hc q => by
  have h1 : (0 : Int) < j := hc
  exact imod_int (by omega) (by rw [Int.fmod_eq_emod_of_nonneg i (by omega)]; exact q)
theorem iop_shl : OpR X (inplaceOp .LShift) (rI CPow fun i j => .int (i * 2 ^ j.toNat)) := opI fun _ _ _ _ _ _ _ hc q => ilshift_int_small hc.1 hc.2.1 hc.2.2 q
theorem iop_shr : OpR X (inplaceOp .RShift) (rI (fun _ j => 0 ≤ j) fun i j => .int (i / 2 ^ j.toNat)) := opI fun i j _ _ _ _ _ hc q =>
  irshift_int hc (by rw [Int.fdiv_eq_ediv_of_nonneg i (two_pow_nn _)]; exact q)
theorem iop_and : OpR X (inplaceOp .BitAnd) (rI0 fun i j => .int (Builtin.bitAnd i j)) := opI0 fun _ _ _ _ _ _ _ q => iand_int q
theorem iop_or : OpR X (inplaceOp .BitOr) (rI0 fun i j => .int (Builtin.bitOr i j)) := opI0 fun _ _ _ _ _ _ _ q => ior_int q
theorem iop_xor : OpR X (inplaceOp .BitXor) (rI0 fun i j => .int (Builtin.bitXor i j)) := opI0 fun _ _ _ _ _ _ _ q => ixor_int q

theorem unI {f : Value → Sem Value} {g : Int → Int}
    (rule : ∀ (i : Int) (t : Tok) (s : Shared) (Q : Value → Shared → Prop) (E : Value → Shared → Prop), Q (.int (g i) s.toks) { s with toks := s.toks + 1 } → wpAny (model X.prog X.w) X.A (f (.int i t)) Q E s) :
    UnR X f (rU fun i => .int (g i)) := by
  intro pins s σ H x v Q I rx h
  obtain ⟨i, rfl, q⟩ := h
  obtain ⟨t, rfl⟩ := rx
  exact rule i t s _ _ ⟨.int (g i), H, I.tok _, ⟨_, rfl⟩, q⟩
theorem un_neg : UnR X (unaryOp .USub) (rU fun i => .int (-i)) := unI fun _ _ _ _ _ q => neg_int q
theorem un_inv : UnR X (unaryOp .Invert) (rU fun i => .int (Builtin.bitNot i)) := unI fun _ _ _ _ _ q => invert_int q

/-! ### bools among ints: n += (a < b) -/
theorem op_add_ib : OpR X (binaryOp .Add) (fun x y H Q => ∃ i k, x = .int i ∧ y = .bl k ∧ Q (.int (i + b2i k)) H) := by
  intro pins s σ H x y v u Q I rx ry h
  obtain ⟨i, k, rfl, rfl, q⟩ := h
  obtain ⟨t, rfl⟩ := rx
  cases ry
  exact add_int_bool ⟨.int (i + b2i k), H, I.tok _, ⟨_, rfl⟩, q⟩
end

/-! ### comparisons -/
/-- the scalars that == tells apart as data does -/
def scal : V → V → Bool
  | .non, .non => true | .non, .int _ => true | .int _, .non => true | .non, .bl _ => true | .bl _, .non => true | .non, .str _ => true | .str _, .non => true
  | .int _, .int _ => true | .bl _, .bl _ => true | .str _, .str _ => true | .byt _, .byt _ => true
  | .int _, .str _ => true | .str _, .int _ => true | .bl _, .str _ => true | .str _, .bl _ => true
  | _, _ => false
def rEq : R2 := fun x y H Q => scal x y = true ∧ Q (.bl (decide (x = y))) H
def rNe : R2 := fun x y H Q => scal x y = true ∧ Q (.bl (!decide (x = y))) H

theorem dec_int {i j : Int} : decide (V.int i = V.int j) = (i == j) := by
  rw [Bool.eq_iff_iff]
  simp
theorem dec_bl {i j : Bool} : decide (V.bl i = V.bl j) = (i == j) := by
  rw [Bool.eq_iff_iff]
  simp
theorem dec_str {i j : Str} : decide (V.str i = V.str j) = (i == j) := by
  rw [Bool.eq_iff_iff]
  simp
theorem dec_byt {i j : Array UInt8} : decide (V.byt i = V.byt j) = (i.toList == j.toList) := by
  rw [Bool.eq_iff_iff]
  cases i
  cases j
  simp

section
variable {X : Cx} {a b c : Expr} {ta tb tc : TE} {pos : Pos}
theorem fin_bl {pins : List (Addr × Obj)} {σ : St} {H : Hp} {s : Shared} {Q : VK} {k k' : Bool} (I : Inv X pins σ H s) (q : Q (.bl k) H) (e : k = k') : EP X pins σ Q (.bool k') s := by
  subst e
  exact ⟨.bl k, H, I, rfl, q⟩
theorem op_eq : OpR X (compareOp .Eq) rEq := by
  intro pins s σ H x y v u Q I rx ry h
  obtain ⟨hs, q⟩ := h
  cases x with
  | non =>
    cases rx
    cases y with
    | non => cases ry; exact PySem.EqNone.eq_none_none (fin_bl I q (by simp))
    | bl j => cases ry; exact PySem.EqNone.eq_none_bool (fin_bl I q (by simp))
    | int j => obtain ⟨t', rfl⟩ := ry; exact PySem.EqNone.eq_none_int (fin_bl I q (by simp))
    | str j => obtain ⟨t', rfl⟩ := ry; exact PySem.EqNone.eq_none_str (fin_bl I q (by simp))
    | _ => exact absurd (show false = true from hs) Bool.false_ne_true
  | bl i =>
    cases rx
    cases y with
    | non => cases ry; exact PySem.EqNone.eq_bool_none (fin_bl I q (by simp))
    | bl j => cases ry; exact eq_bool (fin_bl I q dec_bl)
    | str j => obtain ⟨t', rfl⟩ := ry; exact PySem.EqMixed.eq_bool_str (fin_bl I q (by simp))
    | _ => exact absurd (show false = true from hs) Bool.false_ne_true
  | int i =>
    obtain ⟨t, rfl⟩ := rx
    cases y with
    | non => cases ry; exact PySem.EqNone.eq_int_none (fin_bl I q (by simp))
    | int j => obtain ⟨t', rfl⟩ := ry; exact eq_int (fin_bl I q dec_int)
    | str j => obtain ⟨t', rfl⟩ := ry; exact PySem.EqMixed.eq_int_str (fin_bl I q (by simp))
    | _ => exact absurd (show false = true from hs) Bool.false_ne_true
  | str i =>
    obtain ⟨t, rfl⟩ := rx
    cases y with
    | non => cases ry; exact PySem.EqNone.eq_str_none (fin_bl I q (by simp))
    | bl j => cases ry; exact PySem.EqMixed.eq_str_bool (fin_bl I q (by simp))
    | int j => obtain ⟨t', rfl⟩ := ry; exact PySem.EqMixed.eq_str_int (fin_bl I q (by simp))
    | str j => obtain ⟨t', rfl⟩ := ry; exact eq_str (fin_bl I q dec_str)
    | _ => exact absurd (show false = true from hs) Bool.false_ne_true
  | byt i =>
    obtain ⟨t, rfl⟩ := rx
    cases y with
    | byt j => obtain ⟨t', rfl⟩ := ry; exact PySem.W.eq_bytes (fin_bl I q dec_byt)
    | _ => exact absurd (show false = true from hs) Bool.false_ne_true
  | _ => cases y <;> exact absurd (show false = true from hs) Bool.false_ne_true
theorem op_ne : OpR X (compareOp .NotEq) rNe := by
  intro pins s σ H x y v u Q I rx ry h
  obtain ⟨hs, q⟩ := h
  cases x with
  | non =>
    cases rx
    cases y with
    | non => cases ry; exact PySem.EqNone.ne_none_none (fin_bl I q (by simp))
    | bl j => cases ry; exact PySem.EqNone.ne_none_bool (fin_bl I q (by simp))
    | int j => obtain ⟨t', rfl⟩ := ry; exact PySem.EqNone.ne_none_int (fin_bl I q (by simp))
    | str j => obtain ⟨t', rfl⟩ := ry; exact PySem.EqNone.ne_none_str (fin_bl I q (by simp))
    | _ => exact absurd (show false = true from hs) Bool.false_ne_true
  | bl i =>
    cases rx
    cases y with
    | non => cases ry; exact PySem.EqNone.ne_bool_none (fin_bl I q (by simp))
    | bl j => cases ry; exact ne_bool (fin_bl I q (congrArg not dec_bl))
    | str j => obtain ⟨t', rfl⟩ := ry; exact PySem.EqMixed.ne_bool_str (fin_bl I q (by simp))
    | _ => exact absurd (show false = true from hs) Bool.false_ne_true
  | int i =>
    obtain ⟨t, rfl⟩ := rx
    cases y with
    | non => cases ry; exact PySem.EqNone.ne_int_none (fin_bl I q (by simp))
    | int j => obtain ⟨t', rfl⟩ := ry; exact ne_int (fin_bl I q (congrArg not dec_int))
    | str j => obtain ⟨t', rfl⟩ := ry; exact PySem.EqMixed.ne_int_str (fin_bl I q (by simp))
    | _ => exact absurd (show false = true from hs) Bool.false_ne_true
  | str i =>
    obtain ⟨t, rfl⟩ := rx
    cases y with
    | non => cases ry; exact PySem.EqNone.ne_str_none (fin_bl I q (by simp))
    | bl j => cases ry; exact PySem.EqMixed.ne_str_bool (fin_bl I q (by simp))
    | int j => obtain ⟨t', rfl⟩ := ry; exact PySem.EqMixed.ne_str_int (fin_bl I q (by simp))
    | str j => obtain ⟨t', rfl⟩ := ry; exact ne_str (fin_bl I q (congrArg not dec_str))
    | _ => exact absurd (show false = true from hs) Bool.false_ne_true
  | byt i =>
    obtain ⟨t, rfl⟩ := rx
    cases y with
    | byt j => obtain ⟨t', rfl⟩ := ry; exact PySem.W.ne_bytes (fin_bl I q (congrArg not dec_byt))
    | _ => exact absurd (show false = true from hs) Bool.false_ne_true
  | _ => cases y <;> exact absurd (show false = true from hs) Bool.false_ne_true

theorem op_lt : OpR X (compareOp .Lt) (rI0 fun i j => .bl (decide (i < j))) := opB0 fun _ _ _ _ _ _ _ q => lt_int q
theorem op_le : OpR X (compareOp .LtE) (rI0 fun i j => .bl (decide (i ≤ j))) := opB0 fun _ _ _ _ _ _ _ q => le_int q
theorem op_gt : OpR X (compareOp .Gt) (rI0 fun i j => .bl (decide (j < i))) := opB0 fun _ _ _ _ _ _ _ q => gt_int q
theorem op_ge : OpR X (compareOp .GtE) (rI0 fun i j => .bl (decide (j ≤ i))) := opB0 fun _ _ _ _ _ _ _ q => ge_int q
theorem op_lt_str : OpR X (compareOp .Lt) (fun x y H Q => ∃ i j, x = .str i ∧ y = .str j ∧ Q (.bl (decide (i.cps.toList < j.cps.toList))) H) := by
  intro pins s σ H x y v u Q I rx ry h
  obtain ⟨i, j, rfl, rfl, q⟩ := h
  obtain ⟨t, rfl⟩ := rx
  obtain ⟨t', rfl⟩ := ry
  exact lt_str (fin_bl I q rfl)
/-- the one string within the other -/
theorem op_in_str : OpR X (compareOp .In) (fun x y H Q => ∃ i j, x = .str i ∧ y = .str j ∧ Q (.bl (!(Builtin.Str.occurrences j i 0 j.length 1).isEmpty)) H) := by
  intro pins s σ H x y v u Q I rx ry h
  obtain ⟨i, j, rfl, rfl, q⟩ := h
  obtain ⟨t, rfl⟩ := rx
  obtain ⟨t', rfl⟩ := ry
  exact in_str (fin_bl I q rfl)

/-- is None, is not None: the right side a value none -/
theorem op_isN : OpR X (compareOp .Is) (fun x y H Q => y = .non ∧ Q (.bl (decide (x = .non))) H) := by
  intro pins s σ H x y v u Q I rx ry h
  obtain ⟨rfl, q⟩ := h
  cases ry
  refine is_none_gen (fin_bl I q ?_)
  cases x <;> first
    | (cases rx; rfl)
    | (obtain ⟨t, rfl⟩ := rx; rfl)
theorem op_notN : OpR X (compareOp .IsNot) (fun x y H Q => y = .non ∧ Q (.bl (!decide (x = .non))) H) := by
  intro pins s σ H x y v u Q I rx ry h
  obtain ⟨rfl, q⟩ := h
  cases ry
  refine isnot_none_gen (fin_bl I q ?_)
  cases x <;> first
    | (cases rx; rfl)
    | (obtain ⟨t, rfl⟩ := rx; rfl)

theorem op_notin_str : OpR X (compareOp .NotIn) (fun x y H Q => ∃ i j, x = .str i ∧ y = .str j ∧ Q (.bl (!(!(Builtin.Str.occurrences j i 0 j.length 1).isEmpty))) H) := by
  intro pins s σ H x y v u Q I rx ry h
  obtain ⟨i, j, rfl, rfl, q⟩ := h
  obtain ⟨t, rfl⟩ := rx
  obtain ⟨t', rfl⟩ := ry
  exact notIn_str (fin_bl I q rfl)
/-- is, is not of two objects that are tracked lists or instances -/
def isObj : HO → Bool
  | .lst _ => true
  | .ins _ _ _ => true
  | _ => false
theorem obj_there {pins : List (Addr × Obj)} {s : Shared} {σ : St} {H : Hp} {a : Addr} {o : HO} (I : Inv X pins σ H s) (h : H a = some o) (p : isObj o = true) : ∃ ob, s.heap.get? a = some ob ∧ ob.cls ≠ .type "tuple" := by
  cases o with
  | lst xs =>
    obtain ⟨_, its, n, _, e⟩ : xs.length ≤ sizeLine ∧ ∃ (its : List Value) (n : Nat), Vals xs its ∧ s.heap.get? a = some { cls := .type "list", data := .seq its.toArray n } := I.hok a _ h
    exact ⟨_, e, (by show Value.type "list" ≠ .type "tuple"; decide +kernel)⟩
  | ins C dx fs =>
    have x := I.hok a _ h
    obtain ⟨_, _, _, e, _⟩ := x
    exact ⟨_, e, (by show Value.ref C ≠ .type "tuple"; exact fun z => by cases z)⟩
  | _ => exact absurd (show false = true from p) Bool.false_ne_true
theorem op_is_ref : OpR X (compareOp .Is) (fun x y H Q => ∃ a b oa ob, x = .ref a ∧ y = .ref b ∧ H a = some oa ∧ isObj oa = true ∧ H b = some ob ∧ isObj ob = true ∧ Q (.bl (decide (a = b))) H) := by
  intro pins s σ H x y v u Q I rx ry h
  obtain ⟨a, b, oa, ob, rfl, rfl, ha, pa, hb, pb, q⟩ := h
  cases rx
  cases ry
  obtain ⟨o1, e1, n1⟩ := obj_there I ha pa
  obtain ⟨o2, e2, _⟩ := obj_there I hb pb
  by_cases z : a = b
  · subst z
    exact wpAny_is_ref_self (fin_bl I q (by simp))
  · exact wpAny_is_ref_other z e1 e2 n1 (fin_bl I q (by simp [z]))
theorem op_isnot_ref : OpR X (compareOp .IsNot) (fun x y H Q => ∃ a b oa ob, x = .ref a ∧ y = .ref b ∧ H a = some oa ∧ isObj oa = true ∧ H b = some ob ∧ isObj ob = true ∧ Q (.bl (!decide (a = b))) H) := by
  intro pins s σ H x y v u Q I rx ry h
  obtain ⟨a, b, oa, ob, rfl, rfl, ha, pa, hb, pb, q⟩ := h
  cases rx
  cases ry
  obtain ⟨o1, e1, n1⟩ := obj_there I ha pa
  obtain ⟨o2, e2, _⟩ := obj_there I hb pb
  by_cases z : a = b
  · subst z
    exact wpAny_isNot_ref_self (fin_bl I q (by simp))
  · exact wpAny_isNot_ref_other z e1 e2 n1 (fin_bl I q (by simp [z]))

/-- two rules for one operation: by cases -/
theorem OpR.or {f : Value → Value → Sem Value} {r r' : R2} (h : OpR X f r) (h' : OpR X f r') : OpR X f (fun x y H Q => r x y H Q ∨ r' x y H Q) := by
  intro pins s σ H x y v u Q I rx ry q
  rcases q with q | q
  · exact h pins s σ H x y v u Q I rx ry q
  · exact h' pins s σ H x y v u Q I rx ry q

theorem nomark (b : Expr) {op : CmpOp} (h : op ≠ .In := by decide) (h2 : op ≠ .NotIn := by decide) : behindInMarks op b = false := by
  have e1 : (op == CmpOp.In) = false := by cases op <;> first | rfl | exact absurd rfl h
  have e2 : (op == CmpOp.NotIn) = false := by cases op <;> first | rfl | exact absurd rfl h2
  cases b <;> simp [behindInMarks, e1, e2]
/-- a comparison as a value; hm: nomark b, or (for in, not in) by with_unfolding_all rfl -/
theorem pe_cmpR {op : CmpOp} {r : R2} (ho : OpR X (compareOp op) r) (ha : PE X a ta) (hb : PE X b tb) (hm : behindInMarks op b = false) : PE X (.Compare a [op] [b] pos) (tOp r ta tb) := by
  intro pins s σ H Q I h
  exact wpAny_Compare1 (binT ha hb I h fun v u s2 x y H2 I2 rx ry q => ho pins s2 σ H2 x y v u Q I2 rx ry q) hm
/-- a reading of a value as a test -/
def tTest (t : TE) : TT := fun σ H Q => t σ H fun x H' => ∃ k, x = .bl k ∧ Q k H'
theorem pt_cmpR {op : CmpOp} {r : R2} (ho : OpR X (compareOp op) r) (ha : PE X a ta) (hb : PE X b tb) (hm : behindInMarks op b = false) : PT X (.Compare a [op] [b] pos) (tTest (tOp r ta tb)) := by
  intro pins s σ H Q I h
  refine wpAny_isTrue_Compare1 (thn (ha pins s σ H _ I h) fun v s1 ⟨x, H1, I1, r1, q1⟩ => thn (hb pins s1 σ H1 _ I1 q1) fun u s2 ⟨y, H2, I2, r2, q2⟩ =>
    thn (ho pins s2 σ H2 x y v u _ I2 r1 r2 q2) fun c s3 ⟨z, H3, I3, r3, k, e, q3⟩ => ?_) hm
  subst e
  cases r3
  exact wpAny_truthy_bool ⟨H3, I3, q3⟩
/-- a op1 b op2 c -/
def tChain (r r' : R2) (ta tb tc : TE) : TE := fun σ H Q => ta σ H fun x H1 => tb σ H1 fun y H2 => r x y H2 fun z H3 => ∃ k, z = .bl k ∧
  (if k = true then tc σ H3 fun w' H4 => r' y w' H4 Q else Q (.bl false) H3)
theorem pe_chain {op op' : CmpOp} {r r' : R2} (ho : OpR X (compareOp op) r) (ho' : OpR X (compareOp op') r') (ha : PE X a ta) (hb : PE X b tb) (hc : PE X c tc)
    (hm : lastMarks [op, op'] [b, c] = false := by with_unfolding_all rfl) : PE X (.Compare a [op, op'] [b, c] pos) (tChain r r' ta tb tc) := by
  intro pins s σ H Q I h
  refine Compare_chain (thn (ha pins s σ H _ I h) fun v s1 ⟨x, H1, I1, r1, q1⟩ => chain_link (thn (hb pins s1 σ H1 _ I1 q1) fun u s2 ⟨y, H2, I2, r2, q2⟩ =>
    thn (ho pins s2 σ H2 x y v u _ I2 r1 r2 q2) fun d s3 ⟨z, H3, I3, r3, k, e, q3⟩ => ?_)) hm
  subst e
  cases r3
  refine wpAny_truthy_bool ?_
  cases k with
  | false => exact ite_ff ⟨.bl false, H3, I3, rfl, q3⟩
  | true => exact ite_tt (chain_last (thn (hc pins s3 σ H3 _ I3 q3) fun w' s4 ⟨z', H4, I4, r4, q4⟩ => ho' pins s4 σ H4 y z' u w' Q I4 r2 r4 q4))
theorem pt_chain {op op' : CmpOp} {r r' : R2} (ho : OpR X (compareOp op) r) (ho' : OpR X (compareOp op') r') (ha : PE X a ta) (hb : PE X b tb) (hc : PE X c tc)
    (hm : lastMarks [op, op'] [b, c] = false := by with_unfolding_all rfl) : PT X (.Compare a [op, op'] [b, c] pos) (tTest (tChain r r' ta tb tc)) := by
  intro pins s σ H Q I h
  refine isTrue_chain (thn (ha pins s σ H _ I h) fun v s1 ⟨x, H1, I1, r1, q1⟩ => test_link (thn (hb pins s1 σ H1 _ I1 q1) fun u s2 ⟨y, H2, I2, r2, q2⟩ =>
    thn (ho pins s2 σ H2 x y v u _ I2 r1 r2 q2) fun d s3 ⟨z, H3, I3, r3, k, e, q3⟩ => ?_)) hm
  subst e
  cases r3
  refine wpAny_truthy_bool ?_
  cases k with
  | false =>
    obtain ⟨k', e', q'⟩ := q3
    cases e'
    exact ite_ff ⟨H3, I3, q'⟩
  | true =>
    refine ite_tt (test_last (thn (hc pins s3 σ H3 _ I3 q3) fun w' s4 ⟨z', H4, I4, r4, q4⟩ => thn (ho' pins s4 σ H4 y z' u w' _ I4 r2 r4 q4) fun d' s5 ⟨z2, H5, I5, r5, k2, e2, q5⟩ => ?_))
    subst e2
    cases r5
    exact wpAny_truthy_bool ⟨H5, I5, q5⟩

/-! ### truth -/
/-- a value's truth by the abstract heap -/
def TruV (K : PySem.W.Frag) (x : V) (H : Hp) (k : Bool) : Prop :=
  match x with
  | .non => k = false
  | .bl b => k = b
  | .int i => k = (i != 0)
  | .str y => y.length ≤ sizeLine ∧ k = ((y.length : Int) != 0)
  | .byt y => y.size ≤ sizeLine ∧ k = ((y.size : Int) != 0)
  | .ref p => (∃ xs, SqL K H p xs ∧ k = !xs.isEmpty) ∨ (∃ xs, SqT K H p xs ∧ k = !xs.isEmpty) ∨ ∃ kvs, H p = some (.dK kvs) ∧ k = !kvs.isEmpty
  | _ => False
theorem isEmpty_kv {κ : Type} {kvs : List (κ × V)} {vs : List (κ × Value)} (r : KV kvs vs) : (!vs.isEmpty) = !kvs.isEmpty := by
  cases r <;> rfl
theorem isEmpty_of {xs : List V} {its : List Value} (r : Vals xs its) : (!its.toArray.isEmpty) = !xs.isEmpty := by
  cases r <;> simp
theorem line63 : (sizeLine : Nat) < 2 ^ 63 := by rw [sizeLine_eq]; decide
theorem tru_ok : TruR X (fun x H Q => ∃ k, TruV X.K x H k ∧ Q k H) := by
  intro pins s σ H x v Q I rx h
  obtain ⟨k, e, q⟩ := h
  have hl := line63
  have hs : sizeLine = 16777216 := sizeLine_eq
  cases x with
  | non =>
    cases rx
    have e' : k = false := e
    subst e'
    exact truthy_none ⟨H, I, q⟩
  | bl b =>
    cases rx
    have e' : k = b := e
    subst e'
    exact wpAny_truthy_bool ⟨H, I, q⟩
  | int i =>
    obtain ⟨t, rfl⟩ := rx
    have e' : k = (i != 0) := e
    subst e'
    exact PySem.P.truthy_int ⟨H, I, q⟩
  | str y =>
    obtain ⟨t, rfl⟩ := rx
    obtain ⟨hy, e'⟩ : y.length ≤ sizeLine ∧ k = ((y.length : Int) != 0) := e
    subst e'
    exact PySem.P.truthy_str (by omega) ⟨H, I.tok _, q⟩
  | byt y =>
    obtain ⟨t, rfl⟩ := rx
    obtain ⟨hy, e'⟩ : y.size ≤ sizeLine ∧ k = ((y.size : Int) != 0) := e
    subst e'
    exact PySem.W.truthy_bytes (by omega) ⟨H, I.tok _, q⟩
  | ref p =>
    cases rx
    have e' : (∃ xs, SqL X.K H p xs ∧ k = !xs.isEmpty) ∨ (∃ xs, SqT X.K H p xs ∧ k = !xs.isEmpty) ∨ ∃ kvs, H p = some (.dK kvs) ∧ k = !kvs.isEmpty := e
    rcases e' with ⟨xs, hx, e'⟩ | ⟨xs, hx, e'⟩ | ⟨kvs, hx, e'⟩
    · subst e'
      obtain ⟨its, r, pl, hz⟩ := I.list hx
      have hlen := r.length
      exact wpAny_truthy_list pl.isList (by simp only [List.size_toArray]; omega) ⟨H, I.tok _, by rw [isEmpty_of r]; exact q⟩
    · subst e'
      obtain ⟨its, r, pl, hz⟩ := I.tuple hx
      have hlen := r.length
      exact truthy_tuple pl (by simp only [List.size_toArray]; omega) ⟨H, I.tok _, by rw [isEmpty_of r]; exact q⟩
    · subst e'
      obtain ⟨hz, hS, vs, r, m⟩ : kvs.length ≤ sizeLine ∧ (p == sysModules) = false ∧ ∃ vs, KV kvs vs ∧ s.heap.DictOf (mixKind X.prog X.w) p vs := I.hok p _ hx
      have hlen : kvs.length = vs.length := Paired.length r
      exact wpAny_truthy_dict hS m (by omega) ⟨H, I.tok _, by rw [isEmpty_kv r]; exact q⟩
  | _ => exact (show False from e).elim
/-- any expression whose test is its value's truth (a name, a call, a subscript, a field ..: he by fun _ => rfl) -/
theorem pt_truth (ha : PE X a ta) (he : ∀ whole, isTrue a X.env whole = (do let v ← whole; standAt a.pos; holding [v] (truthy v))) :
    PT X a (fun σ H Q => ta σ H fun x H' => ∃ k, TruV X.K x H' k ∧ Q k H') := by
  intro pins s σ H Q I h
  exact isTrue_plain (thn (ha pins s σ H _ I h) fun v s1 ⟨x, H1, I1, r1, q1⟩ => tru_ok pins s1 σ H1 x v Q I1 r1 q1) (he _)

/-! ### strs and bytes -/
theorem pe_byt {x : List UInt8} {k : Nat} : PE X (.Constant (.bytes x) k pos) (fun _ H Q => Q (.byt x.toArray) H) := fun _ _ _ H _ I h => PySem.W.Constant_bytes ⟨.byt x.toArray, H, I.tok _, ⟨_, rfl⟩, h⟩
theorem op_add_str : OpR X (binaryOp .Add) (fun x y H Q => ∃ i j, x = .str i ∧ y = .str j ∧ i.length + j.length ≤ sizeLine ∧ Q (.str (i ++ j)) H) := by
  intro pins s σ H x y v u Q I rx ry h
  obtain ⟨i, j, rfl, rfl, hz, q⟩ := h
  obtain ⟨t, rfl⟩ := rx
  obtain ⟨t', rfl⟩ := ry
  exact add_str (fun t' tk => ⟨.str (i ++ j), H, I.tok _, ⟨_, rfl⟩, q⟩) hz
theorem iop_add_str : OpR X (inplaceOp .Add) (fun x y H Q => ∃ i j, x = .str i ∧ y = .str j ∧ i.length + j.length ≤ sizeLine ∧ Q (.str (i ++ j)) H) := by
  intro pins s σ H x y v u Q I rx ry h
  obtain ⟨i, j, rfl, rfl, hz, q⟩ := h
  obtain ⟨t, rfl⟩ := rx
  obtain ⟨t', rfl⟩ := ry
  exact iadd_str (fun t' tk => ⟨.str (i ++ j), H, I.tok _, ⟨_, rfl⟩, q⟩) hz
theorem op_add_byt : OpR X (binaryOp .Add) (fun x y H Q => ∃ i j, x = .byt i ∧ y = .byt j ∧ i.size + j.size ≤ 16777216 ∧ Q (.byt (i ++ j)) H) := by
  intro pins s σ H x y v u Q I rx ry h
  obtain ⟨i, j, rfl, rfl, hz, q⟩ := h
  obtain ⟨t, rfl⟩ := rx
  obtain ⟨t', rfl⟩ := ry
  exact PySem.W.KBy.add_bytes hz (fun t' tk => ⟨.byt (i ++ j), H, I.tok _, ⟨_, rfl⟩, q⟩)

def PlainIxT (b : Expr) : Prop := ∀ o i, subscripted b false o i = operate [o, i] (getItem o i)
/-- s[i], 0 ≤ i < len -/
theorem pe_item_str (ha : PE X a ta) (hb : PE X b tb) (hs : PlainIxT b) :
    PE X (.Subscript a b pos) (tOp (fun x y H Q => ∃ z i c, x = .str z ∧ y = .int i ∧ 0 ≤ i ∧ i < 2 ^ 63 ∧ i < z.length ∧ z.cps[i.toNat]? = some c ∧ Q (.str ⟨#[c]⟩) H) ta tb) := by
  intro pins s σ H Q I h
  refine Subscript_ (binT ha hb I h fun v u s2 x y H2 I2 rx ry q => ?_)
  obtain ⟨z, i, c, rfl, rfl, h0, h63, h1, hc, q⟩ := q
  obtain ⟨t, rfl⟩ := rx
  obtain ⟨t', rfl⟩ := ry
  have e : seqIndex? i z.length = some i.toNat := PySem.StrLaws.seqIndex_nonneg h0 h1
  exact tail_any (typeIs_str s2 z t) slot_str_getitem.lookup (getItem_str (c := c) (by
    have e1 : decide (i < -(2 ^ 63 : Int)) = false := decide_eq_false (by omega)
    have e2 : decide (i ≥ 2 ^ 63) = false := decide_eq_false (by omega)
    rw [e1, e2] <;> rfl) (by rw [e]; exact hc) ⟨.str ⟨#[c]⟩, H2, I2.tok _, ⟨_, rfl⟩, q⟩) (hs _ _)
/-- b[i], 0 ≤ i < len -/
theorem pe_item_byt (ha : PE X a ta) (hb : PE X b tb) (hs : PlainIxT b) :
    PE X (.Subscript a b pos) (tOp (fun x y H Q => ∃ (z : List UInt8) (i : Int), x = .byt z.toArray ∧ y = .int i ∧ z.length ≤ sizeLine ∧ 0 ≤ i ∧ i < z.length ∧ Q (.int ((z.getD i.toNat 0).toNat : Nat)) H) ta tb) := by
  intro pins s σ H Q I h
  refine Subscript_ (binT ha hb I h fun v u s2 x y H2 I2 rx ry q => ?_)
  obtain ⟨z, i, rfl, rfl, hz, h0, h1, q⟩ := q
  obtain ⟨t, rfl⟩ := rx
  obtain ⟨t', rfl⟩ := ry
  have hl : sizeLine = 16777216 := sizeLine_eq
  exact tail_any (PySem.W.typeIs_bytes s2 z.toArray t) PySem.W.FB.slot_bytes_getitem.lookup (PySem.W.getItem_bytes (by omega) h0 h1 ⟨.int ((z.getD i.toNat 0).toNat : Nat), H2, I2.tok _, ⟨_, rfl⟩, q⟩) (hs _ _)

/-! ### scalar builtins, by CallR -/
theorem vals1 {x : V} {us : List Value} (r : Vals [x] us) : ∃ u, us = [u] ∧ RelV x u := by
  cases r with
  | cons r1 r2 => cases r2; exact ⟨_, rfl, r1⟩
theorem vals2 {x y : V} {us : List Value} (r : Vals [x, y] us) : ∃ u w', us = [u, w'] ∧ RelV x u ∧ RelV y w' := by
  cases r with
  | cons r1 r2 =>
    cases r2 with
    | cons r3 r4 => cases r4; exact ⟨_, _, rfl, r1, r3⟩
theorem call_abs : CallR X (.builtin "abs") (fun xs H Q => ∃ i, xs = [.int i] ∧ Q (.int (if i < 0 then -i else i)) H) := by
  intro pins s σ H xs us Q I r h
  obtain ⟨i, rfl, q⟩ := h
  obtain ⟨u, rfl, t, rfl⟩ := vals1 r
  exact call_abs_int fun u tk => ⟨.int (if i < 0 then -i else i), H, I.tok _, ⟨_, rfl⟩, q⟩
theorem call_max2 (hc : X.calm = true) : CallR X (.builtin "max") (fun xs H Q => ∃ i j, xs = [.int i, .int j] ∧ Q (.int (if j > i then j else i)) H) := by
  intro pins s σ H xs us Q I r h
  obtain ⟨i, j, rfl, q⟩ := h
  obtain ⟨u, w', rfl, ⟨t, rfl⟩, ⟨t', rfl⟩⟩ := vals2 r
  refine max_two_ints (I.ok.hd hc) fun h' tk k => ⟨_, H, I.kept k, ?_, q⟩
  by_cases hj : j > i
  · rw [if_pos hj, if_pos hj]; exact ⟨_, rfl⟩
  · rw [if_neg hj, if_neg hj]; exact ⟨_, rfl⟩
theorem call_min2 (hc : X.calm = true) : CallR X (.builtin "min") (fun xs H Q => ∃ i j, xs = [.int i, .int j] ∧ Q (.int (if j < i then j else i)) H) := by
  intro pins s σ H xs us Q I r h
  obtain ⟨i, j, rfl, q⟩ := h
  obtain ⟨u, w', rfl, ⟨t, rfl⟩, ⟨t', rfl⟩⟩ := vals2 r
  refine min_two_ints (I.ok.hd hc) fun h' tk k => ⟨_, H, I.kept k, ?_, q⟩
  by_cases hj : j < i
  · rw [if_pos hj, if_pos hj]; exact ⟨_, rfl⟩
  · rw [if_neg hj, if_neg hj]; exact ⟨_, rfl⟩
theorem call_int1 : CallR X (.type "int") (fun xs H Q => (∃ i, xs = [.int i] ∧ Q (.int i) H) ∨ ∃ k, xs = [.bl k] ∧ Q (.int (if k then 1 else 0)) H) := by
  intro pins s σ H xs us Q I r h
  rcases h with ⟨i, rfl, q⟩ | ⟨k, rfl, q⟩
  · obtain ⟨u, rfl, t, rfl⟩ := vals1 r
    exact call_int_int ⟨.int i, H, I, ⟨_, rfl⟩, q⟩
  · obtain ⟨u, rfl, r1⟩ := vals1 r
    cases r1
    exact call_int_bool ⟨.int (if k then 1 else 0), H, I.tok _, ⟨_, rfl⟩, q⟩
theorem call_bool1 : CallR X (.type "bool") (fun xs H Q => (∃ i, xs = [.int i] ∧ Q (.bl (i != 0)) H) ∨ ∃ k, xs = [.bl k] ∧ Q (.bl k) H) := by
  intro pins s σ H xs us Q I r h
  rcases h with ⟨i, rfl, q⟩ | ⟨k, rfl, q⟩
  · obtain ⟨u, rfl, t, rfl⟩ := vals1 r
    exact call_bool_int ⟨.bl (i != 0), H, I, rfl, q⟩
  · obtain ⟨u, rfl, r1⟩ := vals1 r
    cases r1
    exact call_bool_bool ⟨.bl k, H, I, rfl, q⟩
theorem call_str_int : CallR X (.type "str") (fun xs H Q => ∃ i, xs = [.int i] ∧ i.natAbs.log2 < 1920 ∧ Q (.str (toString i)) H) := by
  intro pins s σ H xs us Q I r h
  obtain ⟨i, rfl, hz, q⟩ := h
  obtain ⟨u, rfl, t, rfl⟩ := vals1 r
  exact PySem.P.str_of_int hz ⟨.str _, H, I.tok _, ⟨_, rfl⟩, q⟩
theorem call_ord : CallR X (.builtin "ord") (fun xs H Q => ∃ x, xs = [.str x] ∧ x.length = 1 ∧ Q (.int (x.cps.getD 0 0 : Nat)) H) := by
  intro pins s σ H xs us Q I r h
  obtain ⟨x, rfl, hz, q⟩ := h
  obtain ⟨u, rfl, t, rfl⟩ := vals1 r
  exact ord_of_one hz ⟨.int _, H, I.tok _, ⟨_, rfl⟩, q⟩
theorem call_chr : CallR X (.builtin "chr") (fun xs H Q => ∃ i, xs = [.int i] ∧ 0 ≤ i ∧ i ≤ 1114111 ∧ Q (.str ⟨#[i.toNat]⟩) H) := by
  intro pins s σ H xs us Q I r h
  obtain ⟨i, rfl, h0, h1, q⟩ := h
  obtain ⟨u, rfl, t, rfl⟩ := vals1 r
  exact chr_of_range h0 h1 ⟨.str _, H, I.tok _, ⟨_, rfl⟩, q⟩
/-- len of a str, a bytes, a list, a tuple -/
def LenV (K : PySem.W.Frag) (x : V) (H : Hp) (n : Nat) : Prop :=
  match x with
  | .str y => y.length ≤ sizeLine ∧ n = y.length
  | .byt y => y.size ≤ sizeLine ∧ n = y.size
  | .ref p => (∃ xs, SqL K H p xs ∧ n = xs.length) ∨ ∃ xs, SqT K H p xs ∧ n = xs.length
  | _ => False
theorem call_len : CallR X (.builtin "len") (fun xs H Q => ∃ x n, xs = [x] ∧ LenV X.K x H n ∧ Q (.int n) H) := by
  intro pins s σ H xs us Q I r h
  obtain ⟨x, n, rfl, e, q⟩ := h
  obtain ⟨u, rfl, rx⟩ := vals1 r
  have hl := line63
  have hs : sizeLine = 16777216 := sizeLine_eq
  cases x with
  | str y =>
    obtain ⟨t, rfl⟩ := rx
    obtain ⟨hy, e'⟩ : y.length ≤ sizeLine ∧ n = y.length := e
    subst e'
    exact len_str (by omega) ⟨.int _, H, I.tok _, ⟨_, rfl⟩, q⟩
  | byt y =>
    obtain ⟨t, rfl⟩ := rx
    obtain ⟨hy, e'⟩ : y.size ≤ sizeLine ∧ n = y.size := e
    subst e'
    exact PySem.W.len_bytes (by omega) ⟨.int _, H, I.tok _, ⟨_, rfl⟩, q⟩
  | ref p =>
    cases rx
    have e' : (∃ xs, SqL X.K H p xs ∧ n = xs.length) ∨ ∃ xs, SqT X.K H p xs ∧ n = xs.length := e
    rcases e' with ⟨xs, hx, e'⟩ | ⟨xs, hx, e'⟩
    · subst e'
      obtain ⟨its, r', pl, hz⟩ := I.list hx
      have hlen := r'.length
      exact Calls.call_len_list pl.isList (by simp only [List.size_toArray]; omega) ⟨.int xs.length, H, I.tok _, ⟨_, by simp only [List.size_toArray]; rw [hlen]⟩, q⟩
    · subst e'
      obtain ⟨its, r', pl, hz⟩ := I.tuple hx
      have hlen := r'.length
      exact len_tuple pl (by simp only [List.size_toArray]; omega) ⟨.int xs.length, H, I.tok _, ⟨_, by simp only [List.size_toArray]; rw [hlen]⟩, q⟩
  | _ => exact (show False from e).elim
/-- divmod: a new tuple -/
theorem call_divmod : CallR X (.builtin "divmod") (fun xs H Q => ∃ i j, xs = [.int i, .int j] ∧ CDiv i j ∧ ∀ p, H p = none → Q (.ref p) (upd H p (.tup [.int (i / j), .int (i % j)]))) := by
  intro pins s σ H xs us Q I r h
  obtain ⟨i, j, rfl, ⟨h1, h2⟩, q⟩ := h
  obtain ⟨u, w', rfl, ⟨t, rfl⟩, ⟨t', rfl⟩⟩ := vals2 r
  refine divmod_int (by omega) ?_ (.inl (PyProof.noPylong_small (by omega)))
  rw [Int.fdiv_eq_ediv_of_nonneg i (by omega), Int.fmod_eq_emod_of_nonneg i (by omega)]
  have hn : H s.heap.objs.size = none := I.hok.fresh (Nat.le_refl _)
  refine ⟨.ref s.heap.objs.size, _, ?_, rfl, q _ hn⟩
  refine I.laid (fun b o e => Heap.get?_push_of_some _ e) (Nat.le_refl _) ⟨by simp only [List.length_cons, List.length_nil]; rw [sizeLine_eq]; decide, [.int (i / j) s.toks, .int (i % j) (s.toks + 1)], .cons ⟨_, rfl⟩ (.cons ⟨_, rfl⟩ .nil), ?_⟩
  exact ⟨_, Heap.get?_push_size s.heap rfl, rfl, 0, rfl⟩
end
end L2

namespace L2
open PySem PySem.Spec PyProof.Rows

/-! ### an instance, its attributes a map -/
structure ObjM (h : Heap) (x dx C : Addr) (mA : Str → Option Value) : Prop where
  obj : h.get? x = some (PySem.W.instObj C dx)
  ns : h.Ns1 dx mA
  ne : dx ≠ x

theorem lookIn_ns {h : Heap} {dx : Addr} {mA : Str → Option Value} (n : h.Ns1 dx mA) : ∃ od, h.get? dx = some od ∧ ∀ name, PySem.W.lookIn name od = some (mA name) := by
  obtain ⟨o, es, ep, ho, hd, hk, _, hm⟩ := n
  refine ⟨o, ho, fun name => ?_⟩
  have e := hm name
  unfold nsFind findBy at e
  rw [← Array.find?_toList] at e
  unfold PySem.W.lookIn
  rw [hd]
  dsimp only
  split
  · rename_i y q
    rw [q] at e
    exact congrArg some e
  · rename_i q
    rw [q] at e
    have a : es.toList.any (·.refKey) = false := by
      rw [List.any_eq_false]
      intro y hy
      obtain ⟨z, t, hkey⟩ := hk y (Array.mem_toList_iff.mp hy)
      simp [DictEntry.refKey, hkey]
    have a' : ¬ es.toList.any (·.refKey) = true := by rw [a]; exact Bool.false_ne_true
    rw [if_neg a']
    exact congrArg some e

theorem ObjM.look {h : Heap} {x dx C : Addr} {mA : Str → Option Value} (I : ObjM h x dx C mA) : ∃ od, PySem.W.InstAt h x (PySem.W.instObj C dx) C (some od) ∧ ∀ name, PySem.W.lookIn name od = some (mA name) :=
  let ⟨od, ho, hl⟩ := lookIn_ns I.ns
  ⟨od, ⟨I.obj, rfl, rfl, ho⟩, hl⟩

section
variable {prog : Program} {w : World} {A : Around} {E : Value → Shared → Prop} {s : Shared} {K : PySem.W.Frag} {x dx C f : Addr} {mA : Str → Option Value} {name : Str} {v : Value}

theorem get_map {expr : Bool} {Q : Value → Shared → Prop} (X : K.In s.heap) (I : ObjM s.heap x dx C mA) (hg : PySem.W.plainGet K C name = true) (hh : PySem.W.hasDictIn K C = true)
    (ha : PySem.W.findIn K (.ref C) name = some none) (hv : mA name = some v) (hv' : PySem.W.handedIn v = true) (h : Q v { s with toks := s.toks + 1 }) :
    wpAny (model prog w) A (getAttr (.ref x) name expr) Q E s := by
  obtain ⟨od, J, hl⟩ := I.look
  exact PySem.W.get_value X J (PySem.W.plainGet_of hg).1 (PySem.W.findObj_own hh ha rfl (by rw [hl, hv])) hv' h

theorem get_const {expr : Bool} {a : Value} {Q : Value → Shared → Prop} (X : K.In s.heap) (I : ObjM s.heap x dx C mA) (hg : PySem.W.plainGet K C name = true) (hh : PySem.W.hasDictIn K C = true)
    (ha : PySem.W.findIn K (.ref C) name = some (some a)) (hn : PySem.W.specialIn K a "__get__" = some none) (hc : PySem.W.copiedNames.contains name = false) (hv : mA name = none) (hv' : PySem.W.handedIn a = true)
    (h : Q a { s with toks := s.toks + 1 }) : wpAny (model prog w) A (getAttr (.ref x) name expr) Q E s := by
  obtain ⟨od, J, hl⟩ := I.look
  exact PySem.W.get_value X J (PySem.W.plainGet_of hg).1 (PySem.W.findObj_cls hh ha hn hv' hc (by rw [hl, hv])) hv' h

theorem get_meth {pl : Sem Bool} {Q : Value × List Value → Shared → Prop} (X : K.In s.heap) (I : ObjM s.heap x dx C mA) (hg : PySem.W.plainGet K C name = true)
    (hf : PySem.W.findIn K (.ref C) name = some (some (.ref f))) (ht : PySem.W.isFn K (.ref f) = true) (hv : mA name = none) (h : Q (.ref f, [.ref x]) s) :
    wpAny (model prog w) A (getMethod (.ref x) name pl) Q E s := by
  obtain ⟨od, J, hl⟩ := I.look
  exact PySem.W.method_fn X J (PySem.W.plainGet_of hg).1 (PySem.W.plainGet_of hg).2 hf (beq_iff_eq.mp ht) (by show (PySem.W.lookIn name od).map (·.isSome) = some false; rw [hl, hv]; rfl) h

theorem set_map {ns : List Str} {Q : Unit → Shared → Prop} (X : K.In s.heap) (I : ObjM s.heap x dx C mA)
    (hs : PySem.W.findIn K (.ref C) "__setattr__" = some (some (.builtin "object.__setattr__"))) (hp : PySem.W.plainOver K C = true) (ht : PySem.W.takerIn K C name = some none) (hh : PySem.W.hasDictIn K C = true)
    (hw : PySem.Within mA ns) (hsz : ns.length ≤ sizeLine)
    (h : ∀ h', ObjM h' x dx C (fun y => if y = name then some v else mA y) → Heap.SameBut dx s.heap h' → Q () { s with heap := h', toks := s.toks + 2 }) :
    wpAny (model prog w) A (setAttr (.ref x) name v) Q E s := by
  obtain ⟨od, J, hl⟩ := I.look
  refine PySem.W.set_plain X J hs (PySem.W.osa_open (s := { s with toks := s.toks + 1 }) (r := none) X J hp ht fun b => ?_)
  obtain ⟨cd, hc, hd'⟩ := PySem.W.any_some hh
  have hx : s.heap.get? x = some ⟨.ref C, some dx, .plain, #[]⟩ := I.obj
  refine wpAny_bind (wpAny_pure (wpAny_bind (wpAny_bind (wpAny_loadPart hx (wpAny_bind (PySem.W.Looks.here (s := { s with toks := s.toks + 1 }) (PySem.W.looks_clsIn X hc) ?_))))))
  rw [hd']
  refine wpAny_pure (a := some dx) (wpAny_bind (wpAny_pure (wpAny_bind ?_)))
  refine wpAny_nsSet1 (s := { s with toks := s.toks + 1 }) I.ns fun h' hn2 hs2 => ?_
  obtain ⟨oD, esD, epD, hoD, hdD, hcD⟩ := hn2.count (PySem.Within.cons name v hw)
  refine wpAny_bind (wpAny_lookBehind hoD (by rw [hdD]; exact pastItsLine_dict (Nat.le_trans hcD (by rw [List.length_cons]; omega))) ?_)
  exact wpAny_pure (h _ ⟨(hs2.2 _ (Ne.symm I.ne)).trans I.obj, hn2, I.ne⟩ hs2)

/-- C(..): the dict at the heap's end, the instance behind it; then its __init__ -/
theorem make_map {R : Result → Shared → Prop} {vs : List Value} {kw : List (Str × Value)} (X : K.In s.heap) (hm : PySem.W.makesIn K C = true)
    (hi : PySem.W.findIn K (.ref C) "__init__" = some (some (.ref f))) (hf : PySem.W.typeIn K (.ref f) = some (.type "function"))
    (h : codeAny (model prog w) (A.under (.builtin "type.__call__" ⟨.ref C :: vs, kw⟩)) (.call (.ref f) ⟨.ref (s.heap.objs.size + 1) :: vs, kw⟩) (PySem.W.InitBack (s.heap.objs.size + 1) R)
      { s with heap := (s.heap.push PySem.W.emptyDict).push (PySem.W.instObj C s.heap.objs.size) }) :
    codeAny (model prog w) A (.call (.ref C) ⟨vs, kw⟩) R s := by
  obtain ⟨hh, g, d, t, os⟩ := s
  exact PySem.W.make_core (PySem.W.makes_of X hm) (PySem.W.looks_findIn X hi) (fun self => PySem.W.bind_fn X self hf) (.inl rfl) h
/-- C() where there is no __init__ but object's -/
theorem make_map0 {R : Result → Shared → Prop} (X : K.In s.heap) (hm : PySem.W.makesIn K C = true)
    (hi : PySem.W.findIn K (.ref C) "__init__" = some (some (.builtin "object.__init__")))
    (hb : ∀ self, PySem.W.Looks (model prog w) s.heap (bindSpecial (.builtin "object.__init__") self) (.builtin "object.__init__", [self]))
    (h : codeAny (model prog w) (A.under (.builtin "type.__call__" ⟨[.ref C], []⟩)) (.call (.builtin "object.__init__") ⟨[.ref (s.heap.objs.size + 1)], []⟩) (PySem.W.InitBack (s.heap.objs.size + 1) R)
      { s with heap := (s.heap.push PySem.W.emptyDict).push (PySem.W.instObj C s.heap.objs.size) }) :
    codeAny (model prog w) A (.call (.ref C) ⟨[], []⟩) R s := by
  obtain ⟨hh, g, d, t, os⟩ := s
  exact PySem.W.make_core (PySem.W.makes_of X hm) (PySem.W.looks_findIn X hi) hb (.inr ⟨rfl, rfl⟩) h
end

/-! ### the attributes as a list of pairs -/
def putF (f : Str) (v : V) : List (Str × V) → List (Str × V)
  | [] => [(f, v)]
  | (g, x) :: r => if g = f then (g, v) :: r else (g, x) :: putF f v r
theorem lookup_putF (f g : Str) (v : V) : ∀ fs : List (Str × V), (putF f v fs).lookup g = if g = f then some v else fs.lookup g
  | [] => by
    show List.lookup g [(f, v)] = _
    by_cases h : g = f
    · have hb : (g == f) = true := beq_iff_eq.mpr h
      simp only [List.lookup, hb, if_pos h]
    · have hb : (g == f) = false := beq_eq_false_iff_ne.mpr h
      simp only [List.lookup, hb, if_neg h]
  | (k, x) :: r => by
    have ih := lookup_putF f g v r
    rw [show putF f v ((k, x) :: r) = (if k = f then (k, v) :: r else (k, x) :: putF f v r) from rfl]
    by_cases hk : k = f
    · rw [if_pos hk]
      by_cases h : g = k
      · have hb : (g == k) = true := beq_iff_eq.mpr h
        simp only [List.lookup, hb, if_pos (h.trans hk)]
      · have hb : (g == k) = false := beq_eq_false_iff_ne.mpr h
        simp only [List.lookup, hb, if_neg (fun e : g = f => h (e.trans hk.symm))]
    · rw [if_neg hk]
      by_cases h : g = k
      · have hb : (g == k) = true := beq_iff_eq.mpr h
        simp only [List.lookup, hb, if_neg (fun e : g = f => hk (h.symm.trans e))]
      · have hb : (g == k) = false := beq_eq_false_iff_ne.mpr h
        simp only [List.lookup, hb]
        exact ih
theorem keys_putF (f : Str) (v : V) : ∀ fs : List (Str × V), f ∈ (putF f v fs).map (·.1) ∧ ∀ g, g ∈ fs.map (·.1) → g ∈ (putF f v fs).map (·.1)
  | [] => ⟨by simp [putF], fun g h => by simp at h⟩
  | (k, x) :: r => by
    obtain ⟨i1, i2⟩ := keys_putF f v r
    rw [show putF f v ((k, x) :: r) = (if k = f then (k, v) :: r else (k, x) :: putF f v r) from rfl]
    by_cases hk : k = f
    · rw [if_pos hk]
      subst hk
      exact ⟨by simp, fun g h => by simpa using h⟩
    · rw [if_neg hk]
      refine ⟨?_, fun g h => ?_⟩
      · rw [List.map_cons]
        exact List.mem_cons_of_mem _ i1
      · rw [List.map_cons] at h ⊢
        rcases List.mem_cons.mp h with e | e
        · exact List.mem_cons.mpr (.inl e)
        · exact List.mem_cons_of_mem _ (i2 g e)
theorem length_putF (f : Str) (v : V) : ∀ fs : List (Str × V), (putF f v fs).length ≤ fs.length + 1
  | [] => by simp [putF]
  | (k, x) :: r => by
    have ih := length_putF f v r
    rw [show putF f v ((k, x) :: r) = (if k = f then (k, v) :: r else (k, x) :: putF f v r) from rfl]
    by_cases hk : k = f
    · rw [if_pos hk, List.length_cons, List.length_cons]; omega
    · rw [if_neg hk, List.length_cons, List.length_cons]; omega

theorem RelO.some_of {v : V} {o : Option Value} (r : RelO (some v) o) : ∃ u, o = some u ∧ RelV v u := by
  cases o with
  | none => exact (show False from r).elim
  | some u => exact ⟨u, rfl, r⟩
theorem RelO.none_of {o : Option Value} (r : RelO none o) : o = none := by
  cases o with
  | none => rfl
  | some u => exact (show False from r).elim
theorem handed_of {v : V} {u : Value} (r : RelV v u) : PySem.W.handedIn u = true := by
  cases v with
  | non => cases (show u = Value.none from r); rfl
  | bl b => cases (show u = Value.bool b from r); rfl
  | int i => obtain ⟨t, e⟩ := (show ∃ t, u = Value.int i t from r); cases e; rfl
  | str x => obtain ⟨t, e⟩ := (show ∃ t, u = Value.str x t from r); cases e; rfl
  | byt b => obtain ⟨t, e⟩ := (show ∃ t, u = Value.bytes b t from r); cases e; rfl
  | flt b => obtain ⟨t, e⟩ := (show ∃ t, u = Value.float b t from r); cases e; rfl
  | ref a => cases (show u = Value.ref a from r); rfl
  | ty n => cases (show u = Value.type n from r); rfl

section
variable {P : Program} {w : World} {H H' : Hp} {h h' : Heap} {a C dx : Addr} {fs fs' : List (Str × V)}
theorem ins_get (hok : HOk P w H h) (e : H a = some (.ins C dx fs)) : ∃ mA, ObjM h a dx C mA ∧ (∀ f, RelO (fs.lookup f) (mA f)) ∧ PySem.Within mA (fs.map (·.1)) ∧ fs.length ≤ 1000 ∧ H dx = some (.own a) := by
  obtain ⟨d, z, ne, ob, mA, n, r, q⟩ := (show ObjOk P w H h a (.ins C dx fs) from hok a _ e)
  exact ⟨mA, ⟨ob, n, ne⟩, r, q, z, d⟩
end

/-! ### what of the text a class must have -/
structure Cls (K : PySem.W.Frag) (C : Addr) : Prop where
  pg : PySem.W.plainGet K C Str.empty = true
  hd : PySem.W.hasDictIn K C = true
  po : PySem.W.plainOver K C = true
  sa : PySem.W.findIn K (.ref C) "__setattr__" = some (some (.builtin "object.__setattr__"))
theorem Cls.get {K : PySem.W.Frag} {C : Addr} (c : Cls K C) (f : Str) : PySem.W.plainGet K C f = true := c.pg
/-- no class of it has the name -/
def NoAttr (K : PySem.W.Frag) (C : Addr) (f : Str) : Prop := PySem.W.findIn K (.ref C) f = some none
theorem NoAttr.taker {K : PySem.W.Frag} {C : Addr} {f : Str} (n : NoAttr K C f) : PySem.W.takerIn K C f = some none := by
  unfold PySem.W.takerIn
  rw [show PySem.W.findIn K (.ref C) f = some none from n]
  rfl
/-- a constant of the class -/
structure Con (K : PySem.W.Frag) (C : Addr) (f : Str) (v : V) (u : Value) : Prop where
  at_ : PySem.W.findIn K (.ref C) f = some (some u)
  rel : RelV v u
  get : PySem.W.specialIn K u "__get__" = some none
  cp : PySem.W.copiedNames.contains f = false
/-- a method: a plain def of the class or of one above it -/
structure Meth (K : PySem.W.Frag) (C : Addr) (m : Str) (f : Addr) : Prop where
  at_ : PySem.W.findIn K (.ref C) m = some (some (.ref f))
  fn : PySem.W.isFn K (.ref f) = true
  kp : PySem.W.keepIn K (.ref f) = true

section
variable {X : Cx} {pins : List (Addr × Obj)} {σ : St} {H : Hp} {s : Shared} {a C dx : Addr} {fs : List (Str × V)} {f : Str} {v : V} {A : Around} {E : Value → Shared → Prop}

theorem getattr_ok {b : Bool} {Q : Value → Shared → Prop} (I : Inv X pins σ H s) (e : H a = some (.ins C dx fs)) (c : Cls X.K C) (n : NoAttr X.K C f) (l : fs.lookup f = some v)
    (h : ∀ u s', Inv X pins σ H s' → RelV v u → Q u s') : wpAny (model X.prog X.w) A (getAttr (.ref a) f b) Q E s := by
  obtain ⟨mA, O, r, _, _, _⟩ := ins_get I.hok e
  obtain ⟨u, hu, ru⟩ := RelO.some_of (v := v) (o := mA f) (by rw [← l]; exact r f)
  exact get_map I.kIn O (c.get f) c.hd n hu (handed_of ru) (h u _ (I.tok _) ru)

theorem getcon_ok {b : Bool} {u : Value} {Q : Value → Shared → Prop} (I : Inv X pins σ H s) (e : H a = some (.ins C dx fs)) (c : Cls X.K C) (k : Con X.K C f v u) (l : fs.lookup f = none)
    (h : ∀ s', Inv X pins σ H s' → Q u s') : wpAny (model X.prog X.w) A (getAttr (.ref a) f b) Q E s := by
  obtain ⟨mA, O, r, _, _, _⟩ := ins_get I.hok e
  have hn : mA f = none := RelO.none_of (by rw [← l]; exact r f)
  exact get_const I.kIn O (c.get f) c.hd k.at_ k.get k.cp hn (handed_of k.rel) (h _ (I.tok _))

theorem getmeth_ok {m : Str} {g : Addr} {pl : Sem Bool} {Q : Value × List Value → Shared → Prop} (I : Inv X pins σ H s) (e : H a = some (.ins C dx fs)) (c : Cls X.K C) (k : Meth X.K C m g) (l : fs.lookup m = none)
    (h : Q (.ref g, [.ref a]) s) : wpAny (model X.prog X.w) A (getMethod (.ref a) m pl) Q E s := by
  obtain ⟨mA, O, r, _, _, _⟩ := ins_get I.hok e
  have hn : mA m = none := RelO.none_of (by rw [← l]; exact r m)
  exact get_meth I.kIn O (c.get m) k.at_ k.fn hn h

theorem setattr_ok {y : V} {u : Value} {Q : Unit → Shared → Prop} (I : Inv X pins σ H s) (e : H a = some (.ins C dx fs)) (c : Cls X.K C) (n : NoAttr X.K C f) (hl : fs.length < 1000) (ry : RelV y u)
    (h : ∀ s', Inv X pins σ (upd H a (.ins C dx (putF f y fs))) s' → Q () s') : wpAny (model X.prog X.w) A (setAttr (.ref a) f u) Q E s := by
  obtain ⟨mA, O, r, wi, _, ho⟩ := ins_get I.hok e
  have hz : (fs.map (·.1)).length ≤ sizeLine := by rw [List.length_map, sizeLine_eq]; omega
  refine set_map I.kIn O c.sa c.po n.taker c.hd wi hz fun h' O' sb => h _ ?_
  have hd : ∃ o, h'.get? dx = some o := let ⟨o, _, _, e', _⟩ := O'.ns; ⟨o, e'⟩
  refine I.write (x := a) (e := dx) (by rw [e]; exact True.intro) (.inr ho) (fun b q hb z => (sb.2 b hb).trans z) hd ?_
  refine ⟨by rw [upd_ne O.ne]; exact ho, ?_, O.ne, O'.obj, _, O'.ns, fun g => ?_, fun g hg => ?_⟩
  · have := length_putF f y fs; omega
  · show RelO ((putF f y fs).lookup g) (if g = f then some u else mA g)
    rw [lookup_putF]
    by_cases q : g = f
    · rw [if_pos q, if_pos q]; exact ry
    · rw [if_neg q, if_neg q]; exact r g
  · by_cases q : g = f
    · rw [q]; exact (keys_putF f y fs).1
    · refine (keys_putF f y fs).2 g (wi g fun z => hg ?_)
      show (if g = f then some u else mA g) = none
      rw [if_neg q]; exact z

/-- a new instance, tracked, without attributes -/
theorem Inv.made (I : Inv X pins σ H s) : Inv X pins σ (upd (upd H s.heap.objs.size (.own (s.heap.objs.size + 1))) (s.heap.objs.size + 1) (.ins C s.heap.objs.size []))
    { s with heap := (s.heap.push PySem.W.emptyDict).push (PySem.W.instObj C s.heap.objs.size) } := by
  have e1 : (s.heap.push PySem.W.emptyDict).get? s.heap.objs.size = some PySem.W.emptyDict := Heap.get?_push_size s.heap rfl
  have e2 : ((s.heap.push PySem.W.emptyDict).push (PySem.W.instObj C s.heap.objs.size)).get? (s.heap.objs.size + 1) = some (PySem.W.instObj C s.heap.objs.size) := by
    have := Heap.get?_push_size (s.heap.push PySem.W.emptyDict) (o := PySem.W.instObj C s.heap.objs.size) rfl
    rwa [Heap.size_push] at this
  have e3 : (s.heap.push PySem.W.emptyDict).Ns s.heap.objs.size (fun _ => none) := ⟨PySem.W.emptyDict, #[], _, e1, rfl, (fun e he => absurd he (by simp)), fun _ => rfl⟩
  have I1 := I.laid (a := s.heap.objs.size) (o := .own (s.heap.objs.size + 1)) (h' := s.heap.push PySem.W.emptyDict) (t' := s.toks) (fun b u q => Heap.get?_push_of_some _ q) (Nat.le_refl _) ⟨_, e1⟩
  refine I1.laid (a := s.heap.objs.size + 1) (o := .ins C s.heap.objs.size []) (t' := s.toks) (fun b u q => Heap.get?_push_of_some _ q) (Nat.le_of_eq (Heap.size_push _ _)) ?_
  have ne : s.heap.objs.size ≠ s.heap.objs.size + 1 := Nat.ne_of_lt (Nat.lt_succ_self _)
  refine ⟨by rw [upd_ne ne, upd_same], Nat.zero_le _, ne, e2, fun _ => none, (Heap.Ns1.of_empty e3).at fun o q => Heap.get?_push_of_some _ q, fun _ => True.intro, fun y hy => absurd rfl hy⟩

/-- e.f where nothing but the object is asked: through attributeBase (super) and the last hold -/
theorem attr_of {prog : Program} {w : World} {env : Env} {e : Expr} {f : Str} {pos : Pos} {s : Shared} {Q : Value → Shared → Prop} (hb : attributeBase e f env (eval e env) = eval e env)
    (h : wpAny (model prog w) A (eval e env) (fun o s₁ => wpAny (model prog w) A (getAttr o f true) Q E s₁) E s) : wpAny (model prog w) A (eval (.Attribute e f pos) env) Q E s :=
  Attribute_any_ h (by rw [arm_eval_Attribute, hb])
end

/-! ### readings and rules -/
/-- e.f, an attribute of the instance -/
def tFld (K : PySem.W.Frag) (ta : TE) (f : Str) : TE := fun σ H Q => ta σ H fun x H1 => ∃ a C dx fs v, x = .ref a ∧ H1 a = some (.ins C dx fs) ∧ Cls K C ∧ NoAttr K C f ∧ fs.lookup f = some v ∧ Q v H1
/-- e.f, a constant of the class -/
def tCon (K : PySem.W.Frag) (ta : TE) (f : Str) : TE := fun σ H Q => ta σ H fun x H1 => ∃ a C dx fs v u, x = .ref a ∧ H1 a = some (.ins C dx fs) ∧ Cls K C ∧ Con K C f v u ∧ fs.lookup f = none ∧ Q v H1
/-- e.f = value -/
def sFld (K : PySem.W.Frag) (ta tv : TE) (f : Str) : TS := fun D σ H => tv σ H fun y H1 => ta σ H1 fun x H2 => ∃ a C dx fs, x = .ref a ∧ H2 a = some (.ins C dx fs) ∧ Cls K C ∧ NoAttr K C f ∧ fs.length < 1000 ∧
  D.nx σ (upd H2 a (.ins C dx (putF f y fs)))
/-- an augmented operator on two values -/
def InOp (X : Cx) (op : Operator) (rd : V → V → Hp → VK → Prop) : Prop :=
  ∀ (pins : List (Addr × Obj)) (s : Shared) (σ : St) (H : Hp) (x y : V) (u v : Value) (Q : VK), Inv X pins σ H s → RelV x u → RelV y v → rd x y H Q → wpAny (model X.prog X.w) X.A (inplaceOp op u v) (EP X pins σ Q) X.xe s
/-- e.f op= value -/
def sFldAug (K : PySem.W.Frag) (ta tv : TE) (rd : V → V → Hp → VK → Prop) (f : Str) : TS := fun D σ H => ta σ H fun x H1 => ∃ a C dx fs v, x = .ref a ∧ H1 a = some (.ins C dx fs) ∧ Cls K C ∧ NoAttr K C f ∧ fs.lookup f = some v ∧
  tv σ H1 fun y H2 => rd v y H2 fun z H3 => ∃ dx' fs', H3 a = some (.ins C dx' fs') ∧ fs'.length < 1000 ∧ D.nx σ (upd H3 a (.ins C dx' (putF f z fs')))

section
variable {X : Cx} {o e value : Expr} {f : Str} {pos pos' tpos : Pos} {ta tv : TE}
theorem pe_fld (he : PE X e ta) (hb : attributeBase e f X.env (eval e X.env) = eval e X.env) : PE X (.Attribute e f pos) (tFld X.K ta f) := by
  intro pins s σ H Q I h
  refine attr_of hb (thn (he pins s σ H _ I h) fun u s1 ⟨x, H1, I1, rx, a, C, dx, fs, v, ex, ea, c, n, l, q⟩ => ?_)
  subst ex
  obtain rfl : u = Value.ref a := rx
  exact getattr_ok I1 ea c n l fun u' s2 I2 ru => ⟨v, H1, I2, ru, q⟩
theorem pe_con (he : PE X e ta) (hb : attributeBase e f X.env (eval e X.env) = eval e X.env) : PE X (.Attribute e f pos) (tCon X.K ta f) := by
  intro pins s σ H Q I h
  refine attr_of hb (thn (he pins s σ H _ I h) fun u s1 ⟨x, H1, I1, rx, a, C, dx, fs, v, u0, ex, ea, c, k, l, q⟩ => ?_)
  subst ex
  obtain rfl : u = Value.ref a := rx
  exact getcon_ok I1 ea c k l fun s2 I2 => ⟨v, H1, I2, k.rel, q⟩
theorem ps_fld (ha : PE X o ta) (hv : PE X value tv) (hs : swapsWith value (some (.Attribute o f pos')) pos.line X.env = pure false) : PS X (.Assign [.Attribute o f pos'] value pos) (sFld X.K ta tv f) := by
  intro pins s σ H D I h
  refine plainObj_wpAny_Assign_Attribute (thn (hv pins s σ H _ I h) fun u s1 ⟨y, H1, I1, ry, q⟩ => thn (ha pins s1 σ H1 _ I1 q) fun ov s2 ⟨x, H2, I2, rx, a, C, dx, fs, ex, ea, c, n, l, q2⟩ => ?_) hs
  subst ex
  obtain rfl : ov = Value.ref a := rx
  exact setattr_ok I2 ea c n l ry fun s3 I3 => ⟨σ, _, I3, q2⟩
theorem ps_fldaug {op : Operator} {rd : V → V → Hp → VK → Prop} (ha : PE X o ta) (hv : PE X value tv) (hop : InOp X op rd) : PS X (.AugAssign (.Attribute o f tpos) op value pos) (sFldAug X.K ta tv rd f) := by
  intro pins s σ H D I h
  refine wpAny_AugAssign_AttributeAny (thn (ha pins s σ H _ I h) fun ov s1 ⟨x, H1, I1, rx, a, C, dx, fs, v, ex, ea, c, n, l, q⟩ => ?_)
  subst ex
  obtain rfl : ov = Value.ref a := rx
  refine getattr_ok I1 ea c n l fun u s2 I2 ru => thn (hv pins s2 σ H1 _ I2 q) fun w3 s3 ⟨y, H2, I3, ry, q3⟩ => thn (hop pins s3 σ H2 v y u w3 _ I3 ru ry q3) fun w4 s4 ⟨z, H3, I4, rz, dx', fs', ea', l', q4⟩ => ?_
  exact setattr_ok I4 ea' c n l' rz fun s5 I5 => ⟨σ, _, I5, q4⟩
def rAdd : V → V → Hp → VK → Prop := fun x y H Q => ∃ i j, x = .int i ∧ y = .int j ∧ Q (.int (i + j)) H
def rSub : V → V → Hp → VK → Prop := fun x y H Q => ∃ i j, x = .int i ∧ y = .int j ∧ Q (.int (i - j)) H
theorem in_add : InOp X .Add rAdd := by
  rintro pins s σ H x y u v Q I rx ry ⟨i, j, rfl, rfl, q⟩
  obtain ⟨t, rfl⟩ := (show ∃ t, u = Value.int i t from rx)
  obtain ⟨t', rfl⟩ := (show ∃ t', v = Value.int j t' from ry)
  exact PyProof.Rows.iadd_int ⟨.int (i + j), H, I.tok _, ⟨_, rfl⟩, q⟩
theorem in_sub : InOp X .Sub rSub := by
  rintro pins s σ H x y u v Q I rx ry ⟨i, j, rfl, rfl, q⟩
  obtain ⟨t, rfl⟩ := (show ∃ t, u = Value.int i t from rx)
  obtain ⟨t', rfl⟩ := (show ∃ t', v = Value.int j t' from ry)
  exact PyProof.Rows.isub_int ⟨.int (i - j), H, I.tok _, ⟨_, rfl⟩, q⟩

/-- what is between an instance and its method: the tree of a method call -/
theorem methcall_of {pl : Sem Bool} {m : Str} {apos : Pos} {args : List Expr} {pins : List (Addr × Obj)} {s : Shared} {σ : St} {H : Hp} {Q : Value → Shared → Prop} {te : TE} (he : PE X e te) (I : Inv X pins σ H s)
    (h : te σ H fun x H1 => ∃ a C dx fs g, x = .ref a ∧ H1 a = some (.ins C dx fs) ∧ Cls X.K C ∧ Meth X.K C m g ∧ fs.lookup m = none ∧
      ∀ s1, Inv X pins σ H1 s1 → wpAny (model X.prog X.w) X.A (callWith pos (.ref g) [.ref a] (backTo pos (starEach args X.env)) (backToKw pos (keywordEach [] X.env))) Q X.xe s1)
    (ht : eval (.Call (.Attribute e m apos) args [] pos) X.env = (do
      let ov ← eval e X.env
      standAt apos.atName
      let (f, first) ← holding [ov] (getMethod ov m pl)
      callWith pos f first (backTo pos (starEach args X.env)) (backToKw pos (keywordEach [] X.env)))) :
    wpAny (model X.prog X.w) X.A (eval (.Call (.Attribute e m apos) args [] pos) X.env) Q X.xe s := by
  refine PySem.W.methodCall_KW (pl := pl) (thn (he pins s σ H _ I h) fun u s1 ⟨x, H1, I1, rx, a, C, dx, fs, g, ex, ea, c, k, l, q⟩ => ?_) ht
  subst ex
  obtain rfl : u = Value.ref a := rx
  exact getmeth_ok I1 ea c k l (q s1 I1)
end

/-! ### isinstance -/
section
variable {X : Cx} {pins : List (Addr × Obj)} {σ : St} {H : Hp} {s : Shared} {A : Around} {E : Value → Shared → Prop} {Q : Value → Shared → Prop} {c : Value} {b : Bool}
/-- the type of a value, as the fragment's deciders take it; for an instance its class -/
inductive TyOf (K : PySem.W.Frag) (H : Hp) : V → Value → Prop where
  | non : TyOf K H .non (.type "NoneType")
  | bl (x : Bool) : TyOf K H (.bl x) (.type "bool")
  | int (i : Int) : TyOf K H (.int i) (.type "int")
  | str (x : Str) : TyOf K H (.str x) (.type "str")
  | flt (x : UInt64) : TyOf K H (.flt x) (.type "float")
  | lst {a : Addr} {xs : List V} (e : H a = some (.lst xs)) : TyOf K H (.ref a) (.type "list")
  | frz {a : Addr} {o : Obj} {xs : List V} (e : H a = some (.frz o (.lst xs))) : TyOf K H (.ref a) (.type "list")
  | tup {a : Addr} {xs : List V} (e : H a = some (.tup xs)) : TyOf K H (.ref a) (.type "tuple")
  | dK {a : Addr} {kvs : List (Key × V)} (e : H a = some (.dK kvs)) : TyOf K H (.ref a) (.type "dict")
  | dT {a : Addr} {kvs : List (List Key × V)} (e : H a = some (.dT kvs)) : TyOf K H (.ref a) (.type "dict")
  | ins {a C dx : Addr} {fs : List (Str × V)} (e : H a = some (.ins C dx fs)) (cl : Cls K C) (ha : PySem.W.findIn K (.ref C) "__class__" = some (some (.builtin "object.__class__")))
      (hn : PySem.W.specialIn K (.builtin "object.__class__") "__get__" = some (some (.builtin "getset_descriptor.__get__"))) (htk : PySem.W.takesIn K (.builtin "object.__class__") = some true)
      (hm : PySem.W.mroIn K C (.type "object") = some true) : TyOf K H (.ref a) (.ref C)
/-- isinstance(x, c) for one class c, a built-in or an own one: kitOne's answer -/
theorem isinst_ok {x : V} {u t : Value} (I : Inv X pins σ H s) (rx : RelV x u) (ty : TyOf X.K H x t) (e : PySem.W.kitOne X.K t c = some b) (h : ∀ tk, Q (.bool b) { s with toks := tk }) :
    wpAny (model X.prog X.w) A (call (.builtin "isinstance") [u, c]) Q E s := by
  cases ty with
  | non => cases (show u = Value.none from rx); exact PySem.W.kia_one PySem.W.kitx_none I.kIn True.intro e (fun z => nomatch z) h
  | bl y => cases (show u = Value.bool y from rx); exact PySem.W.kia_one PySem.W.kitx_bool I.kIn True.intro e (fun z => nomatch z) h
  | int i => obtain ⟨t, q⟩ := (show ∃ t, u = Value.int i t from rx); cases q; exact PySem.W.kia_one PySem.W.kitx_int I.kIn True.intro e (fun z => nomatch z) h
  | str y => obtain ⟨t, q⟩ := (show ∃ t, u = Value.str y t from rx); cases q; exact PySem.W.kia_one PySem.W.kitx_str I.kIn True.intro e (fun z => nomatch z) h
  | flt y => obtain ⟨t, q⟩ := (show ∃ t, u = Value.float y t from rx); cases q; exact PySem.W.kia_one PySem.W.kitx_float I.kIn True.intro e (fun z => nomatch z) h
  | @lst a xs ea =>
    cases (show u = Value.ref a from rx)
    obtain ⟨_, _, n, _, h1⟩ := (show ObjOk X.prog X.w H s.heap a (.lst xs) from I.hok a _ ea)
    exact PySem.W.kia_one PySem.W.kitx_list I.kIn ⟨_, h1, rfl⟩ e (fun z => nomatch z) h
  | @frz a ob xs ea =>
    cases (show u = Value.ref a from rx)
    obtain ⟨_, _, _, n, _, h1⟩ := (show ObjOk X.prog X.w H s.heap a (.frz ob (.lst xs)) from I.hok a _ ea)
    exact PySem.W.kia_one PySem.W.kitx_list I.kIn ⟨_, h1, rfl⟩ e (fun z => nomatch z) h
  | @tup a xs ea =>
    cases (show u = Value.ref a from rx)
    obtain ⟨_, _, _, p⟩ := (show ObjOk X.prog X.w H s.heap a (.tup xs) from I.hok a _ ea)
    obtain ⟨o, h1, h2, _⟩ := p
    exact PySem.W.kia_one PySem.W.kitx_tuple I.kIn ⟨o, h1, h2⟩ e (fun z => nomatch z) h
  | @dK a kvs ea =>
    cases (show u = Value.ref a from rx)
    obtain ⟨_, _, vs, _, p⟩ := (show ObjOk X.prog X.w H s.heap a (.dK kvs) from I.hok a _ ea)
    obtain ⟨o, es, ep, h1, h2, _⟩ := p
    exact PySem.W.kia_one PySem.W.kitx_dict I.kIn ⟨o, h1, h2.1⟩ e (fun z => nomatch z) h
  | @dT a kvs ea =>
    cases (show u = Value.ref a from rx)
    obtain ⟨_, _, xs, _, o, es, ep, h1, h2, _⟩ := (show ObjOk X.prog X.w H s.heap a (.dT kvs) from I.hok a _ ea)
    exact PySem.W.kia_one PySem.W.kitx_dict I.kIn ⟨o, h1, h2.1⟩ e (fun z => nomatch z) h
  | @ins a C dx fs ea cl ha hn htk hm =>
    cases (show u = Value.ref a from rx)
    obtain ⟨mA, O, _⟩ := ins_get I.hok ea
    obtain ⟨od, J, _⟩ := O.look
    exact PySem.W.kia_one (PySem.W.kitx_own (cl.get _) cl.hd ha hn htk hm) I.kIn J e (fun z => nomatch z) h
end
end L2

namespace L2
open PySem PySem.Spec PyProof.Rows

/-! ### room -/
structure Room (k : Nat) (A : Around) : Prop where
  hd : A.handled = none
  dp : A.depth + 3 * k + 5 < recursionLimit
  un : A.units + 16 * k + 200 < cLine
  gd : A.guards = some []
theorem Room.mono {j k : Nat} {A : Around} (r : Room k A) (h : j ≤ k) : Room j A := ⟨r.hd, by have := r.dp; omega, by have := r.un; omega, r.gd⟩
theorem Room.deeper {k : Nat} {A : Around} (r : Room (k + 1) A) (env : Env) : Room k (A.deeper env) :=
  ⟨r.hd, by have := r.dp; show A.depth + 1 + 3 * k + 5 < _; omega, by have := r.un; show A.units + 3 + 16 * k + 200 < _; omega, r.gd⟩
theorem Room.in1 {k : Nat} {A : Around} (r : Room (k + 1) A) : Room k A.in1 :=
  ⟨r.hd, by have := r.dp; show A.depth + 3 * k + 5 < _; omega, by have := r.un; show A.units + 1 + 16 * k + 200 < _; omega, r.gd⟩
theorem make_depth {A : Around} {C : Addr} {us : List Value} {kw : List (Str × Value)} : (A.under (.builtin "type.__call__" ⟨.ref C :: us, kw⟩)).depth = A.depth + 1 := by
  first | rfl | simp [Around.under, Code.weight, Code.isCreation, Code.isGuard, Code.isCaller, Code.frames, Code.isFrame, guardIds]
theorem make_units {A : Around} {C : Addr} {us : List Value} {kw : List (Str × Value)} : (A.under (.builtin "type.__call__" ⟨.ref C :: us, kw⟩)).units = A.units + 1 := by
  first | rfl | simp [Around.under, Code.cUnits, Code.frames, Code.isFrame]
theorem Room.make {k : Nat} {A : Around} (r : Room (k + 1) A) (C : Addr) (us : List Value) (kw : List (Str × Value)) : Room k (A.under (.builtin "type.__call__" ⟨.ref C :: us, kw⟩)) :=
  ⟨r.hd, by have := r.dp; rw [make_depth]; omega, by have := r.un; rw [make_units]; omega, by first | exact r.gd | (simpa [Around.under, Code.isGuard, guardIds] using r.gd)⟩
theorem Room.depth {k : Nat} {A : Around} (r : Room k A) : A.depth < recursionLimit := by have := r.dp; omega
theorem Room.units {k : Nat} {A : Around} (r : Room k A) : A.units + 64 < cLine := by have := r.un; omega
theorem Room.units0 {k : Nat} {A : Around} (r : Room k A) : A.units < cLine := by have := r.un; omega

/-! ### argument lists and displays -/
def tNil : TA := fun _ H Q => Q [] H
def tCons (ta : TE) (tr : TA) : TA := fun σ H Q => ta σ H fun x H1 => tr σ H1 fun xs H2 => Q (x :: xs) H2
section
variable {X : Cx} {e : Expr} {es : List Expr} {te : TE} {t : TA} {pos : Pos}
theorem pa_nil : PA X [] tNil := fun _ _ _ _ H Q I h => Calls.spliced_nil ⟨[], H, I, .nil, h⟩
theorem pa_cons (ha : PE X e te) (hr : PA X es t) (hs : starEach (e :: es) X.env = (false, eval e X.env) :: starEach es X.env := by rfl) : PA X (e :: es) (tCons te t) := by
  intro pos pins s σ H Q I h
  rw [hs]
  show wpAny _ _ (spliced ((false, eval e X.env) :: backTo pos (starEach es X.env))) _ _ s
  refine Calls.spliced_cons (thn (ha pins s σ H _ I h) fun u s1 ⟨x, H1, I1, r1, q1⟩ => ?_)
  exact thn (hr pos pins s1 σ H1 _ I1 q1) fun us s2 ⟨xs, H2, I2, r2, q2⟩ => ⟨x :: xs, H2, I2, .cons r1 r2, q2⟩

/-- a tuple, a list of written items -/
def tTup (t : TA) : TE := fun σ H Q => t σ H fun xs H1 => xs.length ≤ sizeLine ∧ ∀ p, H1 p = none → Q (.ref p) (upd H1 p (.tup xs))
def tLst (t : TA) : TE := fun σ H Q => t σ H fun xs H1 => xs.length ≤ sizeLine ∧ ∀ p, H1 p = none → Q (.ref p) (upd H1 p (.lst xs))
theorem pe_tup {x1} (h : PA X es t) : PE X (.Tuple es x1 pos) (tTup t) := by
  intro pins s σ H Q I hq
  refine wpAny_Tuple_spliced (thn (h pos pins s σ H _ I hq) fun us s1 ⟨xs, H1, I1, r, z, q⟩ => ⟨by rw [← r.length]; exact z, ?_⟩)
  have hf : H1 s1.heap.objs.size = none := I1.hok.fresh (Nat.le_refl _)
  refine ⟨.ref s1.heap.objs.size, upd H1 s1.heap.objs.size (.tup xs), I1.laid (t' := s1.toks) (fun b u e => Heap.get?_push_of_some _ e) (Nat.le_refl _) ?_, rfl, q _ hf⟩
  exact ⟨z, us, r, ⟨_, Heap.get?_push_size _ rfl, rfl, _, rfl⟩⟩
theorem pe_lst (h : PA X es t) : PE X (.List es pos) (tLst t) := by
  intro pins s σ H Q I hq
  refine wpAny_List_spliced (thn (h pos pins s σ H _ I hq) fun us s1 ⟨xs, H1, I1, r, z, q⟩ => ⟨by rw [← r.length]; exact z, ?_⟩)
  have hf : H1 s1.heap.objs.size = none := I1.hok.fresh (Nat.le_refl _)
  refine ⟨.ref s1.heap.objs.size, upd H1 s1.heap.objs.size (.lst xs), I1.laid (t' := s1.toks) (fun b u e => Heap.get?_push_of_some _ e) (Nat.le_refl _) ?_, rfl, q _ hf⟩
  exact ⟨z, us, 0, r, Heap.get?_push_size _ rfl⟩
end

/-! ### what a def promises -/
/-- a def's promise: the bound arguments in the parameters' order, the heap, the wanted end, the wanted exception -/
abbrev Sp := List V → Hp → VK → XK → Prop
/-- how an exception lies behind a call (file 08 gives it): the callers' frames, abstract heap and state ahead of the call, the wish, the exception, the state -/
abbrev CXT := List Env → Hp → Shared → XK → Value → Shared → Prop

/-- the state at a call -/
structure Env0 (P : Program) (w : World) (K : PySem.W.Frag) (mg : Str → Option Value) (base : Heap) (A : Around) (outer : List Env) (s : Shared) (H : Hp) : Prop where
  frames : A.frames = some outer
  mod : Mod K mg base
  bs : ∀ b o, base.get? b = some o → s.heap.get? b = some o ∧ H b = none
  bsz : base.objs.size ≤ s.heap.objs.size
  funs : s.heap.FunFrames base outer
  frf : ∀ b ∈ frs outer, H b = none
  hok : HOk P w H s.heap
  bare : AllBare s.gens
/-- a call's end -/
def CE (outer : List Env) (P : Program) (w : World) (H : Hp) (s : Shared) (Q : VK) (u : Value) (s' : Shared) : Prop :=
  ∃ v H', s'.os = s.os ∧ AllBare s'.gens ∧ Un (frs outer) [] H H' s.heap s'.heap ∧ HOk P w H' s'.heap ∧ RelV v u ∧ Q v H'
def CR (CX : CXT) (outer : List Env) (P : Program) (w : World) (H : Hp) (s : Shared) (Q : VK) (E : XK) (r : Result) (s' : Shared) : Prop :=
  match r with
  | .ok (.ret u) => CE outer P w H s Q u s'
  | .ok _ => False
  | .error e => CX outer H s E e s'
structure FnOk (P : Program) (w : World) (K : PySem.W.Frag) (mg : Str → Option Value) (base : Heap) (CX : CXT) (k : Nat) (f : Addr) (fd : FuncData) (ps : List Str) (sp : Sp) : Prop where
  len : ∀ vs H Q E, sp vs H Q E → vs.length = ps.length
  run : ∀ (A : Around) (outer : List Env) (s : Shared) (H : Hp) (args : Args) (us : List Value) (vs : List V) (Q : VK) (E : XK), Room k A → Env0 P w K mg base A outer s H → BindsTo s fd args (ps.zip us) → Vals vs us → sp vs H Q E →
    codeAny (model P w) A (.call (.ref f) args) (CR CX outer P w H s Q E) s
theorem FnOk.mono {P : Program} {w : World} {K : PySem.W.Frag} {mg : Str → Option Value} {base : Heap} {CX : CXT} {j k : Nat} {f : Addr} {fd : FuncData} {ps : List Str} {sp : Sp} (F : FnOk P w K mg base CX j f fd ps sp) (h : j ≤ k) :
    FnOk P w K mg base CX k f fd ps sp := ⟨F.len, fun A outer s H args us vs Q E hr => F.run A outer s H args us vs Q E (hr.mono h)⟩
/-- a weaker promise -/
theorem FnOk.imp {P : Program} {w : World} {K : PySem.W.Frag} {mg : Str → Option Value} {base : Heap} {CX : CXT} {k : Nat} {f : Addr} {fd : FuncData} {ps : List Str} {sp sp' : Sp} (F : FnOk P w K mg base CX k f fd ps sp)
    (h : ∀ vs H Q E, sp' vs H Q E → sp vs H Q E) : FnOk P w K mg base CX k f fd ps sp' :=
  ⟨fun vs H Q E q => F.len vs H Q E (h _ _ _ _ q), fun A outer s H args us vs Q E hr he hb hv hs => F.run A outer s H args us vs Q E hr he hb hv (h _ _ _ _ hs)⟩

theorem Env0.make {P : Program} {w : World} {K : PySem.W.Frag} {mg : Str → Option Value} {base : Heap} {A : Around} {outer : List Env} {s : Shared} {H : Hp} (e : Env0 P w K mg base A outer s H) (C : Addr) (us : List Value) (kw : List (Str × Value)) :
    Env0 P w K mg base (A.under (.builtin "type.__call__" ⟨.ref C :: us, kw⟩)) outer s H := ⟨by first | exact e.frames | (simpa [Around.under, Code.envs, Code.isFrame, pushEnvs] using e.frames), e.mod, e.bs, e.bsz, e.funs, e.frf, e.hok, e.bare⟩
theorem Env0.in1 {P : Program} {w : World} {K : PySem.W.Frag} {mg : Str → Option Value} {base : Heap} {A : Around} {outer : List Env} {s : Shared} {H : Hp} (e : Env0 P w K mg base A outer s H) :
    Env0 P w K mg base A.in1 outer s H := ⟨e.frames, e.mod, e.bs, e.bsz, e.funs, e.frf, e.hok, e.bare⟩

section
variable {X : Cx} {pins : List (Addr × Obj)} {σ : St} {H : Hp} {s s' : Shared}
/-- from a body: what a callee wants -/
theorem Inv.env0 (I : Inv X pins σ H s) : Env0 X.prog X.w X.K X.mg X.base X.A X.stack s H :=
  ⟨I.ok.frames, I.ok.mod, I.bs, Nat.le_trans I.ok.bsz I.sz, I.stack, I.stkFree, I.hok, I.bare⟩
/-- behind a call -/
theorem Inv.after {Q : VK} {u : Value} (I : Inv X pins σ H s) (h : CE X.stack X.prog X.w H s Q u s') : EP X pins σ Q u s' := by
  obtain ⟨v, H', os, bare, un, hok, r, q⟩ := h
  obtain ⟨hh, g, d, t, os'⟩ := s'
  obtain rfl : os' = s.os := os
  exact ⟨v, H', I.call (h' := hh) (g' := g) (d' := d) (t' := t) (ch := []) un hok bare (fun b z => absurd z (by simp)), r, q⟩
end

/-! ### calls -/
/-- f(..): the written arguments, then the defaults dvs; E: what is wanted of an exception -/
def tCall (sp : Sp) (dvs : List V) (E : XK) (t : TA) : TE := fun σ H Q => t σ H fun vs H1 => sp (vs ++ dvs) H1 Q E
/-- o.m(..) of an instance of the class at C -/
def tMeth (C : Addr) (m : Str) (sp : Sp) (dvs : List V) (E : XK) (ta : TE) (t : TA) : TE := fun σ H Q => ta σ H fun x H1 => ∃ a dx fs, x = .ref a ∧ H1 a = some (.ins C dx fs) ∧ fs.lookup m = none ∧
  t σ H1 fun vs H2 => sp (x :: (vs ++ dvs)) H2 Q E
/-- C(..): a new instance and its dict, then __init__ -/
def tMake (C : Addr) (sp : Sp) (dvs : List V) (E : XK) (t : TA) : TE := fun σ H Q => t σ H fun vs H1 => ∀ x dx, H1 x = none → H1 dx = none → dx ≠ x →
  sp (.ref x :: (vs ++ dvs)) (upd (upd H1 dx (.own x)) x (.ins C dx [])) (fun v H2 => v = .non ∧ Q (.ref x) H2) E

/-- how the parameters are bound: us the positional arguments, kw the keywords' values by name, ds the defaults that fill up -/
def Binds (K : PySem.W.Frag) (fd : FuncData) (ps : List Str) (ds : List Value) : Prop :=
  ∀ (s : Shared) (us : List Value), K.In s.heap → (us ++ ds).length = ps.length → BindsTo s fd ⟨us, []⟩ (ps.zip (us ++ ds))
/-- every parameter is given -/
theorem Binds.all {K : PySem.W.Frag} {fd : FuncData} {ps : List Str} (h : ∀ us : List Value, us.length = ps.length → bindArgs fd ⟨us, []⟩ = pure (ps.zip us)) : Binds K fd ps [] := fun s us _ hl => by
  rw [List.append_nil] at hl ⊢
  exact .of_eq (h us hl)

/-- an exception of a callee reaches what this body wants of exceptions -/
def Passes (CX : CXT) (X : Cx) (E : XK) : Prop := ∀ (pins : List (Addr × Obj)) (σ : St) (H : Hp) (s : Shared) (e : Value) (s' : Shared), Inv X pins σ H s → CX X.stack H s E e s' → X.xe e s'

section
variable {X : Cx} {CX : CXT} {k : Nat} {f C : Addr} {fd : FuncData} {ps : List Str} {sp : Sp} {dvs : List V} {ds : List Value} {E : XK} {x m : Str} {p pos apos : Pos} {e o : Expr} {es : List Expr} {ta : TE} {t : TA}

/-- the callee runs -/
theorem run_fn {pins : List (Addr × Obj)} {σ : St} {H : Hp} {s : Shared} {Q : VK} {us : List Value} {vs : List V} (F : FnOk X.prog X.w X.K X.mg X.base CX k f fd ps sp) (hr : Room k X.A) (hb : Binds X.K fd ps ds) (hd : Vals dvs ds) (hx : Passes CX X E)
    (I : Inv X pins σ H s) (r : Vals vs us) (h : sp (vs ++ dvs) H Q E) : wpAny (model X.prog X.w) X.A (call (.ref f) us) (EP X pins σ Q) X.xe s := by
  have r2 : Vals (vs ++ dvs) (us ++ ds) := r.append hd
  have hl : (us ++ ds).length = ps.length := by rw [← r2.length]; exact F.len _ _ _ _ h
  refine wpAny_call (codeAny_mono (F.run X.A X.stack s H ⟨us, []⟩ (us ++ ds) (vs ++ dvs) Q E hr I.env0 (hb s us I.kIn hl) r2 h) fun r s' hq => ?_)
  cases r with
  | error e => exact hx pins σ H s e s' I hq
  | ok fl =>
    cases fl with
    | ret u => exact I.after hq
    | next => exact False.elim hq
    | brk => exact False.elim hq
    | cont => exact False.elim hq

theorem pe_call (F : FnOk X.prog X.w X.K X.mg X.base CX k f fd ps sp) (hr : Room k X.A) (hg : Gl X x) (hm : X.mg x = some (.ref f)) (hk : PySem.W.keepIn X.K (.ref f) = true) (hb : Binds X.K fd ps ds) (hd : Vals dvs ds) (hx : Passes CX X E)
    (ha : PA X (e :: es) t) (hdb : (x == ("__debug__" : Str)) = false := by decide) (he : starEach (e :: es) X.env = (false, eval e X.env) :: starEach es X.env := by rfl) (hpl : (backTo pos (starEach es X.env)).any (·.1) = false := by rfl) :
    PE X (.Call (.Name x p) (e :: es) [] pos) (tCall sp dvs E t) := by
  intro pins s σ H Q I h
  refine wpAny_Call_Name_kw (ld_glob I hg hm ?_ hdb)
  refine PySem.W.callWith_K (h₀ := X.base) I.ok.mod.kin hk (thn (ha pos pins s σ H _ I h) fun us s1 ⟨vs, H1, I1, r, q⟩ => ⟨I1.kIn, ?_⟩) he hpl
  exact run_fn F hr hb hd hx I1 r q
theorem pe_call0 (F : FnOk X.prog X.w X.K X.mg X.base CX k f fd ps sp) (hr : Room k X.A) (hg : Gl X x) (hm : X.mg x = some (.ref f)) (hk : PySem.W.keepIn X.K (.ref f) = true) (hb : Binds X.K fd ps ds) (hd : Vals dvs ds) (hx : Passes CX X E)
    (hdb : (x == ("__debug__" : Str)) = false := by decide) : PE X (.Call (.Name x p) [] [] pos) (tCall sp dvs E tNil) := by
  intro pins s σ H Q I h
  refine wpAny_Call_Name_kw (ld_glob I hg hm ?_ hdb)
  exact PySem.W.callWith_K0 I.kIn hk (run_fn (us := []) F hr hb hd hx I .nil h)

/-- o.m(e, ..) -/
theorem pe_meth {pl : Sem Bool} (he : PE X o ta) (c : Cls X.K C) (hm : Meth X.K C m f) (F : FnOk X.prog X.w X.K X.mg X.base CX k f fd ps sp) (hr : Room k X.A) (hb : Binds X.K fd ps ds) (hd : Vals dvs ds) (hx : Passes CX X E) (ha : PA X (e :: es) t)
    (hst : starEach (e :: es) X.env = (false, eval e X.env) :: starEach es X.env := by rfl) (hpl : (backTo pos (starEach es X.env)).any (·.1) = false := by rfl)
    (ht : eval (.Call (.Attribute o m apos) (e :: es) [] pos) X.env = (do
      let ov ← eval o X.env
      standAt apos.atName
      let (f, first) ← holding [ov] (getMethod ov m pl)
      callWith pos f first (backTo pos (starEach (e :: es) X.env)) (backToKw pos (keywordEach [] X.env))) := by rfl) :
    PE X (.Call (.Attribute o m apos) (e :: es) [] pos) (tMeth C m sp dvs E ta t) := by
  intro pins s σ H Q I h
  refine PySem.W.methodCall_KW (pl := pl) (thn (he pins s σ H _ I h) fun u s1 ⟨x, H1, I1, rx, a, dx, fs, ex, ea, l, q⟩ => ?_) ht
  subst ex
  obtain rfl : u = Value.ref a := rx
  refine getmeth_ok I1 ea c hm l ?_
  refine PySem.W.callWith_K (first := [.ref a]) (h₀ := X.base) I.ok.mod.kin hm.kp (thn (ha pos pins s1 σ H1 _ I1 q) fun us s2 ⟨vs, H2, I2, r, q2⟩ => ⟨I2.kIn, ?_⟩) hst hpl
  exact run_fn (us := .ref a :: us) (vs := .ref a :: vs) F hr hb hd hx I2 (.cons rfl r) q2
/-- o.m() -/
theorem pe_meth0 {pl : Sem Bool} (he : PE X o ta) (c : Cls X.K C) (hm : Meth X.K C m f) (F : FnOk X.prog X.w X.K X.mg X.base CX k f fd ps sp) (hr : Room k X.A) (hb : Binds X.K fd ps ds) (hd : Vals dvs ds) (hx : Passes CX X E)
    (ht : eval (.Call (.Attribute o m apos) [] [] pos) X.env = (do
      let ov ← eval o X.env
      standAt apos.atName
      let (f, first) ← holding [ov] (getMethod ov m pl)
      callWith pos f first (backTo pos (starEach [] X.env)) (backToKw pos (keywordEach [] X.env))) := by rfl) :
    PE X (.Call (.Attribute o m apos) [] [] pos) (tMeth C m sp dvs E ta tNil) := by
  intro pins s σ H Q I h
  refine PySem.W.methodCall_KW (pl := pl) (thn (he pins s σ H _ I h) fun u s1 ⟨x, H1, I1, rx, a, dx, fs, ex, ea, l, q⟩ => ?_) ht
  subst ex
  obtain rfl : u = Value.ref a := rx
  refine getmeth_ok I1 ea c hm l ?_
  exact PySem.W.callWith_K0 (first := [.ref a]) I1.kIn hm.kp (run_fn (us := [.ref a]) (vs := [.ref a]) F hr hb hd hx I1 (.cons rfl .nil) q)

/-- what a class must have to be made -/
structure Mk (K : PySem.W.Frag) (C f : Addr) : Prop where
  makes : PySem.W.makesIn K C = true
  init : PySem.W.findIn K (.ref C) "__init__" = some (some (.ref f))
  fn : PySem.W.isFn K (.ref f) = true
  kp : PySem.W.keepIn K (.ref C) = true

theorem run_make {pins : List (Addr × Obj)} {σ : St} {H : Hp} {s : Shared} {Q : VK} {us : List Value} {vs : List V} (M : Mk X.K C f) (F : FnOk X.prog X.w X.K X.mg X.base CX k f fd ps sp) (hr : Room (k + 1) X.A) (hb : Binds X.K fd ps ds) (hd : Vals dvs ds)
    (hx : Passes CX X E) (I : Inv X pins σ H s) (r : Vals vs us)
    (h : ∀ x dx, H x = none → H dx = none → dx ≠ x → sp (.ref x :: (vs ++ dvs)) (upd (upd H dx (.own x)) x (.ins C dx [])) (fun v H2 => v = .non ∧ Q (.ref x) H2) E) :
    wpAny (model X.prog X.w) X.A (call (.ref C) us) (EP X pins σ Q) X.xe s := by
  have hq := h (s.heap.objs.size + 1) s.heap.objs.size (I.hok.fresh (Nat.le_succ _)) (I.hok.fresh (Nat.le_refl _)) (Nat.ne_of_lt (Nat.lt_succ_self _))
  have I2 := Inv.made (C := C) I
  have r2 : Vals (V.ref (s.heap.objs.size + 1) :: (vs ++ dvs)) (Value.ref (s.heap.objs.size + 1) :: (us ++ ds)) := .cons rfl (r.append hd)
  have hl : (Value.ref (s.heap.objs.size + 1) :: us ++ ds).length = ps.length := by
    have e := r2.length
    rw [F.len _ _ _ _ hq] at e
    exact e.symm
  refine wpAny_call (make_map (f := f) I.kIn M.makes M.init (beq_iff_eq.mp M.fn) (codeAny_mono (F.run _ X.stack _ _ ⟨Value.ref (s.heap.objs.size + 1) :: us, []⟩ (Value.ref (s.heap.objs.size + 1) :: (us ++ ds)) _ _ E (hr.make C us [])
    (I2.env0.make C us []) (hb _ (Value.ref (s.heap.objs.size + 1) :: us) I2.kIn hl) r2 hq) fun r s' hq' => ?_))
  cases r with
  | error e => exact hx pins σ _ _ e s' I2 hq'
  | ok fl =>
    cases fl with
    | ret u =>
      obtain ⟨v, H', I3, rv, ev, q3⟩ := I2.after hq'
      subst ev
      exact ⟨rv, ⟨V.ref (s.heap.objs.size + 1), H', I3, rfl, q3⟩⟩
    | next => exact False.elim hq'
    | brk => exact False.elim hq'
    | cont => exact False.elim hq'
theorem pe_make (M : Mk X.K C f) (F : FnOk X.prog X.w X.K X.mg X.base CX k f fd ps sp) (hr : Room (k + 1) X.A) (hg : Gl X x) (hm : X.mg x = some (.ref C)) (hb : Binds X.K fd ps ds) (hd : Vals dvs ds) (hx : Passes CX X E)
    (ha : PA X (e :: es) t) (hdb : (x == ("__debug__" : Str)) = false := by decide) (he : starEach (e :: es) X.env = (false, eval e X.env) :: starEach es X.env := by rfl) (hpl : (backTo pos (starEach es X.env)).any (·.1) = false := by rfl) :
    PE X (.Call (.Name x p) (e :: es) [] pos) (tMake C sp dvs E t) := by
  intro pins s σ H Q I h
  refine wpAny_Call_Name_kw (ld_glob I hg hm ?_ hdb)
  refine PySem.W.callWith_K (h₀ := X.base) I.ok.mod.kin M.kp (thn (ha pos pins s σ H _ I h) fun us s1 ⟨vs, H1, I1, r, q⟩ => ⟨I1.kIn, ?_⟩) he hpl
  exact run_make M F hr hb hd hx I1 r q
theorem pe_make0 (M : Mk X.K C f) (F : FnOk X.prog X.w X.K X.mg X.base CX k f fd ps sp) (hr : Room (k + 1) X.A) (hg : Gl X x) (hm : X.mg x = some (.ref C)) (hb : Binds X.K fd ps ds) (hd : Vals dvs ds) (hx : Passes CX X E)
    (hdb : (x == ("__debug__" : Str)) = false := by decide) : PE X (.Call (.Name x p) [] [] pos) (tMake C sp dvs E tNil) := by
  intro pins s σ H Q I h
  refine wpAny_Call_Name_kw (ld_glob I hg hm ?_ hdb)
  exact PySem.W.callWith_K0 I.kIn M.kp (run_make (us := []) M F hr hb hd hx I .nil h)
end

/-! ### keywords -/
/-- the values of the keywords, from the left -/
def PK (X : Cx) (kws : List Keyword) (t : TA) : Prop :=
  ∀ (pos : Pos) (pins : List (Addr × Obj)) (s : Shared) (σ : St) (H : Hp) (Q : List V → Hp → Prop), Inv X pins σ H s → t σ H Q → wpAny (model X.prog X.w) X.A (evalAll ((backToKw pos (keywordEach kws X.env)).map (·.2))) (AP X pins σ Q) X.xe s
section
variable {X : Cx} {CX : CXT} {k : Nat} {f C : Addr} {fd : FuncData} {ps ks : List Str} {sp : Sp} {E : XK} {x m : Str} {p pos apos kpos : Pos} {e o : Expr} {es : List Expr} {kws : List Keyword} {te ta : TE} {t tk : TA} {nm : Option Str}
theorem pk_nil : PK X [] tNil := fun _ _ _ _ H Q I h => wpAny_evalAll_nil ⟨[], H, I, .nil, h⟩
theorem pk_cons (ha : PE X e te) (hr : PK X kws t) : PK X (⟨nm, e, kpos⟩ :: kws) (tCons te t) := by
  intro pos pins s σ H Q I h
  show wpAny _ _ (evalAll ((do let v ← eval e X.env; standAt pos; pure v) :: (backToKw pos (keywordEach kws X.env)).map (·.2))) _ _ s
  refine wpAny_evalAll_cons (wpAny_bind (thn (ha pins s σ H _ I h) fun u s1 ⟨x, H1, I1, r1, q1⟩ => wpAny_bind (wpAny_standAt (wpAny_pure ?_))))
  exact thn (hr pos pins s1 σ H1 _ I1 q1) fun us s2 ⟨xs, H2, I2, r2, q2⟩ => ⟨x :: xs, H2, I2, .cons r1 r2, q2⟩

/-- how a call with keywords binds: g puts the positional values us and the keywords' values ws (names ks) in the parameters' order, defaults among them -/
structure KBinds (K : PySem.W.Frag) (fd : FuncData) (ps ks : List Str) (g : List Value → List Value → List Value) (gV : List V → List V → List V) : Prop where
  to : ∀ (s : Shared) (us ws : List Value), K.In s.heap → (g us ws).length = ps.length → BindsTo s fd ⟨us, ks.zip ws⟩ (ps.zip (g us ws))
  rel : ∀ {vs : List V} {us : List Value} {zs : List V} {ws : List Value}, Vals vs us → Vals zs ws → Vals (gV vs zs) (g us ws)
def tCallK (sp : Sp) (gV : List V → List V → List V) (E : XK) (t tk : TA) : TE := fun σ H Q => t σ H fun vs H1 => tk σ H1 fun zs H2 => sp (gV vs zs) H2 Q E
variable {g : List Value → List Value → List Value} {gV : List V → List V → List V}
theorem run_fnk {pins : List (Addr × Obj)} {σ : St} {H : Hp} {s : Shared} {Q : VK} {us ws : List Value} {vs zs : List V} (F : FnOk X.prog X.w X.K X.mg X.base CX k f fd ps sp) (hr : Room k X.A) (hb : KBinds X.K fd ps ks g gV) (hx : Passes CX X E)
    (I : Inv X pins σ H s) (r : Vals vs us) (rz : Vals zs ws) (h : sp (gV vs zs) H Q E) : wpAny (model X.prog X.w) X.A (call (.ref f) us (ks.zip ws)) (EP X pins σ Q) X.xe s := by
  have r2 := hb.rel r rz
  have hl : (g us ws).length = ps.length := by rw [← r2.length]; exact F.len _ _ _ _ h
  refine wpAny_call (codeAny_mono (F.run X.A X.stack s H ⟨us, ks.zip ws⟩ (g us ws) (gV vs zs) Q E hr I.env0 (hb.to s us ws I.kIn hl) r2 h) fun r s' hq => ?_)
  cases r with
  | error e => exact hx pins σ H s e s' I hq
  | ok fl =>
    cases fl with
    | ret u => exact I.after hq
    | next => exact False.elim hq
    | brk => exact False.elim hq
    | cont => exact False.elim hq
/-- f(e, .., k = v, ..) -/
theorem pe_callK (F : FnOk X.prog X.w X.K X.mg X.base CX k f fd ps sp) (hr : Room k X.A) (hg : Gl X x) (hm : X.mg x = some (.ref f)) (hk : PySem.W.keepIn X.K (.ref f) = true) (hb : KBinds X.K fd ps ks g gV) (hx : Passes CX X E)
    (ha : PA X (e :: es) t) (hkw : PK X kws tk) (hall : (backToKw pos (keywordEach kws X.env)).all (·.1.isSome) = true := by rfl) (hks : (backToKw pos (keywordEach kws X.env)).filterMap (·.1) = ks := by rfl)
    (hdb : (x == ("__debug__" : Str)) = false := by decide) (he : starEach (e :: es) X.env = (false, eval e X.env) :: starEach es X.env := by rfl)
    (hpl : ((backTo pos (starEach (e :: es) X.env)).any (·.1) || (backToKw pos (keywordEach kws X.env)).any (·.1.isNone)) = false := by rfl) :
    PE X (.Call (.Name x p) (e :: es) kws pos) (tCallK sp gV E t tk) := by
  intro pins s σ H Q I h
  refine wpAny_Call_Name_kw (ld_glob I hg hm ?_ hdb)
  refine PySem.W.callWith_KW (h₀ := X.base) I.ok.mod.kin hk hall (thn (ha pos pins s σ H _ I h) fun us s1 ⟨vs, H1, I1, r, q⟩ => ?_) hpl he
  refine thn (hkw pos pins s1 σ H1 _ I1 q) fun ws s2 ⟨zs, H2, I2, rz, q2⟩ => ⟨I2.kIn, ?_⟩
  rw [hks]
  exact run_fnk F hr hb hx I2 r rz q2
end

/-! ### a def's body keeps its promise -/
/-- names: the parameters first -/
structure FnScope (N P : List Str) (sc : Scope) : Prop where
  kind : sc.kind = .function
  co : sc.isCoroutine = false
  gen : sc.isGenerator = false
  nd : N.Nodup
  pre : N.take P.length = P
  par : ∀ x ∈ P, sc.names.lookup x = some .local ∨ sc.names.lookup x = some .cell
  nofree : ∀ y ∈ sc.names, y.2 ≠ .free

theorem bindL_out {kindOf : Str → Option NameKind} {x : Str} : ∀ {binds : List (Str × Value)} {m : Str → Option Value}, (∀ v, (x, v) ∉ binds) → bindL kindOf binds m x = m x
  | [], _, _ => rfl
  | (n, v) :: r, m, h => by
    unfold bindL
    rw [bindL_out fun w hw => h w (List.mem_cons_of_mem _ hw)]
    split
    · have : x ≠ n := by rintro rfl; exact h v List.mem_cons_self
      simp [this]
    · rfl
theorem bindC_out {kindOf : Str → Option NameKind} {x : Str} : ∀ {binds : List (Str × Value)} {m : Str → Option Value}, (∀ v, (x, v) ∉ binds) → bindC kindOf binds m x = m x
  | [], _, _ => rfl
  | (n, v) :: r, m, h => by
    unfold bindC
    rw [bindC_out fun w hw => h w (List.mem_cons_of_mem _ hw)]
    split
    · rfl
    · have : x ≠ n := by rintro rfl; exact h v List.mem_cons_self
      simp [this]
theorem bindL_get {kindOf : Str → Option NameKind} {x : Str} {v : Value} : ∀ {P : List Str} {vs : List Value} {i : Nat} {m : Str → Option Value}, P.Nodup → P[i]? = some x → vs[i]? = some v → kindOf x = some .local →
    bindL kindOf (P.zip vs) m x = some v
  | [], _, _, _, _, h, _, _ => by simp at h
  | _ :: _, [], _, _, _, _, h, _ => by simp at h
  | p :: P, w :: vs, 0, m, nd, h1, h2, hk => by
    simp at h1 h2; subst h1; subst h2
    show bindL kindOf ((p, w) :: P.zip vs) m p = _
    unfold bindL
    rw [bindL_out fun v hv => (List.nodup_cons.mp nd).1 (List.of_mem_zip hv).1, if_pos hk]
    simp
  | p :: P, w :: vs, i + 1, m, nd, h1, h2, hk => by
    show bindL kindOf ((p, w) :: P.zip vs) m x = _
    unfold bindL
    exact bindL_get (i := i) (List.nodup_cons.mp nd).2 (by simpa using h1) (by simpa using h2) hk
theorem bindC_get {kindOf : Str → Option NameKind} {x : Str} {v : Value} : ∀ {P : List Str} {vs : List Value} {i : Nat} {m : Str → Option Value}, P.Nodup → P[i]? = some x → vs[i]? = some v → kindOf x ≠ some .local →
    bindC kindOf (P.zip vs) m x = some v
  | [], _, _, _, _, h, _, _ => by simp at h
  | _ :: _, [], _, _, _, _, h, _ => by simp at h
  | p :: P, w :: vs, 0, m, nd, h1, h2, hk => by
    simp at h1 h2; subst h1; subst h2
    show bindC kindOf ((p, w) :: P.zip vs) m p = _
    unfold bindC
    rw [bindC_out fun v hv => (List.nodup_cons.mp nd).1 (List.of_mem_zip hv).1, if_neg hk]
    simp
  | p :: P, w :: vs, i + 1, m, nd, h1, h2, hk => by
    show bindC kindOf ((p, w) :: P.zip vs) m x = _
    unfold bindC
    exact bindC_get (i := i) (List.nodup_cons.mp nd).2 (by simpa using h1) (by simpa using h2) hk

/-- the names' values at the entry -/
def start (N : List Str) (vs : List V) : St := vs.map some ++ List.replicate (N.length - vs.length) none

/-- the context of a def's body, at its entry; an exception leaves the frame, then lies as CX says -/
def cxOf (CX : CXT) (P : Program) (w : World) (K : PySem.W.Frag) (mg : Str → Option Value) (base : Heap) (N : List Str) (qual : Str) (scope : Scope) (f : Addr) (cd : Value) (A : Around) (outer : List Env) (s : Shared) (H : Hp) (E : XK) : Cx where
  prog := P
  w := w
  K := K
  mg := mg
  base := base
  A := A.deeper (envOfC qual scope s.heap.objs.size f cd)
  N := N
  s₀ := s
  H₀ := H
  env := envOfC qual scope s.heap.objs.size f cd
  outer := outer
  stack := envOfC qual scope s.heap.objs.size f cd :: outer
  ex := []
  calm := true
  fn := fun _ => true
  pn := []
  xe := fun e s' => wpAny (model P w) (A.deeper (envOfC qual scope s.heap.objs.size f cd)) (leaving (envOfC qual scope s.heap.objs.size f cd) e) (fun _ s'' => CX outer H s E e s'') (fun e' s'' => CX outer H s E e' s'') s'

theorem cell_has {sc : Scope} {n : Nat} {x : Str} (h : sc.names.lookup x = some .cell) : ∃ c, (cellsFrom n sc.names []).lookup x = some c := by
  have q := PySem.W.cellsFrom_some sc.names n [] (.inl h)
  exact Option.isSome_iff_exists.mp q

theorem inv_start {CX : CXT} {P : Program} {w : World} {K : PySem.W.Frag} {mg : Str → Option Value} {base : Heap} {N ps : List Str} {qual : Str} {scope : Scope} {f : Addr} {cd : Value} {A : Around} {outer : List Env} {s s1 : Shared} {H : Hp} {E : XK} {us : List Value} {vs : List V}
    (S : FnScope N ps scope) (hd : A.handled = none) (e0 : Env0 P w K mg base A outer s H) (hl : vs.length = ps.length) (r : Vals vs us)
    (x : InCallC s s.heap.objs.size (bindL (envOfC qual scope s.heap.objs.size f cd).kindOf (ps.zip us) fun _ => none) (cellsFrom (s.heap.objs.size + 1) scope.names []) (bindC (envOfC qual scope s.heap.objs.size f cd).kindOf (ps.zip us) fun _ => none) s1) :
    Inv (cxOf CX P w K mg base N qual scope f cd A outer s H E) [] (start N vs) H s1 := by
  have hpl : ps.length ≤ N.length := by have := congrArg List.length S.pre; rw [List.length_take] at this; omega
  obtain ⟨h1, tk, rfl, hk⟩ := x.done
  have noA : ∀ b : Addr, b ∉ (cxOf CX P w K mg base N qual scope f cd A outer s H E).ex := fun b z => absurd (show b ∈ ([] : List Addr) from z) (by simp)
  refine ⟨⟨e0.mod, S.kind, rfl, rfl, Nat.le_refl _, fun y z c h1 h2 => ?_, fun y hy => ?_, fun y c _ h => ?_, fun _ => hd, Around.frames_deeper e0.frames, .inr ⟨rfl, rfl⟩, fun b z => absurd z (noA b), e0.bs, e0.bsz, fun b _ _ => noA b, fun b z => absurd z (noA b), e0.funs, e0.frf⟩,
    rfl, e0.bare, Un.kept hk, ⟨_, x.toInCall.ns, fun i y v h1 h2 h3 => ?_⟩, fun y c h => ⟨_, x.cell y c h⟩, e0.hok.fresh (Nat.le_refl _), fun y c h => ?_, fun p hp => absurd (show p ∈ ([] : List (Addr × Obj)) from hp) (by simp), e0.hok.kept hk, ?_⟩
  · exact name_of_addr x.apart (PySem.mem_of_lookup h1) (PySem.mem_of_lookup h2)
  · have hy : scope.names.lookup y = some .cell ∨ scope.names.lookup y = some .free := hy
    rcases hy with hy | hy
    · exact cell_has hy
    · exact absurd rfl (S.nofree _ (PySem.mem_of_lookup hy))
  · exact Nat.le_of_lt (x.above y c (PySem.mem_of_lookup h))
  · have hi : i < vs.length := by
      unfold start at h2
      by_cases hi : i < vs.length
      · exact hi
      · rw [List.getElem?_append_right (by simpa using hi)] at h2
        rw [List.getElem?_replicate] at h2
        split at h2 <;> cases h2
    have ha : vs[i]? = some v := by
      unfold start at h2
      rw [List.getElem?_append_left (by simpa using hi), List.getElem?_map] at h2
      cases e : vs[i]? with
      | none => rw [e] at h2; cases h2
      | some a => rw [e] at h2; cases h2; rfl
    obtain ⟨u, hu, rv⟩ := r.get ha
    have hp : ps[i]? = some y := by
      rw [← S.pre, List.getElem?_take_of_lt (by omega)]; exact h1
    have ndP : ps.Nodup := by rw [← S.pre]; exact S.nd.sublist (List.take_sublist _ _)
    refine ⟨u, rv, ?_⟩
    rcases S.par y (List.mem_of_getElem? hp) with k | k
    · exact .inl ⟨k, bindL_get ndP hp hu k⟩
    · obtain ⟨c, e⟩ := cell_has (n := s.heap.objs.size + 1) k
      refine .inr ⟨.inl k, c, e, ?_⟩
      have q := x.cell y c e
      rw [bindC_get ndP hp hu (by show scope.names.lookup y ≠ _; rw [k]; decide)] at q
      exact q
  · exact e0.hok.fresh (Nat.le_of_lt (x.above y c (PySem.mem_of_lookup h)))
  · unfold start
    show _ = N.length
    rw [List.length_append, List.length_map, List.length_replicate]
    omega

/-- THE RULE: a def (or a method) of the text, by its body. The body's reading t is chosen for each entry; it is run at the parameters' values -/
theorem fn_of {CX : CXT} {P : Program} {w : World} {K : PySem.W.Frag} {mg : Str → Option Value} {base : Heap} {k : Nat} {f : Addr} {name qual : Str} {params : Arguments} {body : List Stmt} {scope : Scope} {dV kV doc pm cdv ct oc : Value} {an od : Option Addr}
    {osl : Array (Option Value)} {N ps : List Str} {sp : Sp} (lk : K.lookup f = some ⟨oc, od, .func (PySem.W.fnOf name qual params body scope dV kV doc pm an cdv ct), osl⟩) (hcd : PySem.W.codeIn K cdv qual = true) (S : FnScope N ps scope)
    (len : ∀ vs H Q E, sp vs H Q E → vs.length = ps.length)
    (hbody : ∀ (A : Around) (outer : List Env) (s : Shared) (H : Hp) (vs : List V) (Q : VK) (E : XK), Room k (A.deeper (envOfC qual scope s.heap.objs.size f cdv)) → sp vs H Q E →
      ∃ t, PSs (cxOf CX P w K mg base N qual scope f cdv A outer s H E) body t ∧ t { nx := fun _ H' => Q .non H', rt := Q } (start N vs) H) :
    FnOk P w K mg base CX (k + 1) f (PySem.W.fnOf name qual params body scope dV kV doc pm an cdv ct) ps sp := by
  refine ⟨len, fun A outer s H args us vs Q E hr e0 hb r hsp => ?_⟩
  have hl := len _ _ _ _ hsp
  have KX : K.In s.heap := e0.mod.kin.keeps fun b o e => (e0.bs b o e).1
  have lim : s.heap.NoLimit := e0.mod.nolimit.keeps fun b o e => (e0.bs b o e).1
  have hkind : ∀ y ∈ ps.zip us, scope.names.lookup y.1 = some .local ∨ (scope.names.lookup y.1 = some .cell ∧ ((cellsFrom (s.heap.objs.size + 1) scope.names []).lookup y.1).isSome = true) := fun ⟨n, v⟩ hy => by
    rcases S.par n (List.of_mem_zip hy).1 with q | q
    · exact .inl q
    · exact .inr ⟨q, PySem.W.cellsFrom_some _ _ _ (.inl q)⟩
  refine codeAny_call_function hr.depth (KX _ _ lk) rfl S.co S.gen rfl (PySem.W.codeRec_of KX hcd) (hb _ _ _ _ ?_)
  refine wpAny_newFunctionEnv_cells S.kind hkind fun env he s1 x => ?_
  subst he
  refine ⟨lim.keeps x.toInCall.keep, codeAny_func ?_⟩
  obtain ⟨t, ht, hq⟩ := hbody A outer s H vs Q E (hr.deeper _) hsp
  have I : Inv (cxOf CX P w K mg base N qual scope f cdv A outer s H E) [] (start N vs) H s1 := inv_start S hr.hd e0 hl r x
  refine wpAny_mono (ht [] s1 (start N vs) H _ I hq) (fun fl s' hs => ?_) fun e s' hs => hs
  have fin : ∀ {σ' : St} {H' : Hp} {v : V} {u : Value}, Inv (cxOf CX P w K mg base N qual scope f cdv A outer s H E) [] σ' H' s' → RelV v u → Q v H' → CE outer P w H s Q u s' :=
    fun {σ' H' v u} J rv q => ⟨v, H', J.os, J.bare, J.base, J.hok, rv, q⟩
  cases fl with
  | ret u =>
    obtain ⟨v, σ', H', J, rv, q⟩ := hs
    exact fin J rv q
  | next =>
    obtain ⟨σ', H', J, q⟩ := hs
    exact fin (v := V.non) (u := Value.none) J rfl q
  | brk =>
    obtain ⟨_, _, _, q⟩ := hs
    exact False.elim q
  | cont =>
    obtain ⟨_, _, _, q⟩ := hs
    exact False.elim q
end L2

namespace L2
open PySem PySem.Spec PyProof.Rows
section
variable {X : Cx} {x : Str} {p pos : Pos} {e : Expr} {es : List Expr} {t : TA} {id T : String} {r : List V → Hp → VK → Prop}

def tCB (r : List V → Hp → VK → Prop) (t : TA) : TE := fun σ H Q => t σ H fun vs H1 => r vs H1 Q
/-- f(e, ..), f a built-in function -/
theorem pe_callB (hc : CallR X (.builtin id) r) (hg : Gl X x) (hm : X.mg x = none) (hv : bootBuiltins x = some (.builtin id)) (ha : PA X (e :: es) t) (hn : x ≠ "__name__" := by decide) (hdb : (x == ("__debug__" : Str)) = false := by decide)
    (he : starEach (e :: es) X.env = (false, eval e X.env) :: starEach es X.env := by rfl) (hpl : (backTo pos (starEach es X.env)).any (·.1) = false := by rfl) : PE X (.Call (.Name x p) (e :: es) [] pos) (tCB r t) := by
  intro pins s σ H Q I h
  refine wpAny_Call_Name_kw (ld_blt I hg hm hv ?_ hn hdb)
  exact PyProof.Rows.callWith_builtin1 (thn (ha pos pins s σ H _ I h) fun us s1 ⟨vs, H1, I1, r1, q1⟩ => hc pins s1 σ H1 vs us Q I1 r1 q1) he hpl
/-- T(e, ..), T a built-in type -/
theorem pe_callTy (hc : CallR X (.type T) r) (hg : Gl X x) (hm : X.mg x = none) (hv : bootBuiltins x = some (.type T)) (ha : PA X (e :: es) t) (hn : x ≠ "__name__" := by decide) (hdb : (x == ("__debug__" : Str)) = false := by decide)
    (he : starEach (e :: es) X.env = (false, eval e X.env) :: starEach es X.env := by rfl) (hpl : (backTo pos (starEach es X.env)).any (·.1) = false := by rfl) : PE X (.Call (.Name x p) (e :: es) [] pos) (tCB r t) := by
  intro pins s σ H Q I h
  refine wpAny_Call_Name_kw (ld_blt I hg hm hv ?_ hn hdb)
  exact PyProof.Rows.callWith_type1 (thn (ha pos pins s σ H _ I h) fun us s1 ⟨vs, H1, I1, r1, q1⟩ => hc pins s1 σ H1 vs us Q I1 r1 q1) he hpl
/-- T() -/
theorem pe_callTy0 (hc : CallR X (.type T) r) (hg : Gl X x) (hm : X.mg x = none) (hv : bootBuiltins x = some (.type T)) (hn : x ≠ "__name__" := by decide) (hdb : (x == ("__debug__" : Str)) = false := by decide) :
    PE X (.Call (.Name x p) [] [] pos) (tCB r tNil) := by
  intro pins s σ H Q I h
  refine wpAny_Call_Name_kw (ld_blt I hg hm hv ?_ hn hdb)
  exact PyProof.Rows.callWith_type0 (hc pins s σ H [] [] Q I .nil h)
end
end L2

namespace HT
open PySem PyProof.Rows

/-- t < u of tuples of ints -/
def lexLt : List Int → List Int → Bool
  | [], [] => false
  | [], _ :: _ => true
  | _ :: _, [] => false
  | x :: xs, y :: ys => if x = y then lexLt xs ys else decide (x < y)
theorem lexLt_cons (x y : Int) (xs ys : List Int) : lexLt (x :: xs) (y :: ys) = if x = y then lexLt xs ys else decide (x < y) := rfl
theorem lexLt_nil_nil : lexLt [] [] = false := rfl
theorem lexLt_nil_cons (y : Int) (ys : List Int) : lexLt [] (y :: ys) = true := rfl
theorem lexLt_cons_nil (x : Int) (xs : List Int) : lexLt (x :: xs) [] = false := rfl

theorem eqAt_int (A : Around) (s : Shared) (a : Int) (t : Tok) (c : Int) (u : Tok) : ∃ e, SeqAt.EqAt A s (.int a t) (.int c u) e ∧ (e = true ↔ a = c) :=
  ⟨(a == c), SeqAt.EqAt.int_int a t c u, by simp⟩
theorem rcLt_int (A : Around) (s : Shared) (a : Int) (t : Tok) (c : Int) (u : Tok) (prog : Program) (w : World) (E : Value → Shared → Prop) (Q : Value → Shared → Prop) (h : Q (.bool (decide (a < c))) s) :
    wpAny (model prog w) A (richCompare .Lt (.int a t) (.int c u)) Q E s :=
  (PyProof.Rows.lt_int h : wpAny (model prog w) A (compareOp .Lt (.int a t) (.int c u)) Q E s)

section
open PySem.SeqAt
open PySem.AutoSeq1 (wpAny_loadPart')
open PySem.MeetsSeq PySem.MeetsSeq2 PySem.MeetsSeq3

theorem tuple_lt_ints (l b : Addr) (items items2 : Array Value) (n n2 : Nat) (dd dd2 : Option Addr) (sl sl2 : Array (Option Value)) (ns ms : List Int) (hi : IntsAre items.toList ns) (hj : IntsAre items2.toList ms) :
    Meets (Builtin.«tuple.__lt__» ⟨[.ref l, .ref b], []⟩)
      (fun _ R s => s.heap.get? l = some { cls := .type "tuple", dict := dd, data := .seq items n, slots := sl } ∧ s.heap.get? b = some { cls := .type "tuple", dict := dd2, data := .seq items2 n2, slots := sl2 } ∧
        R (.ok (.ret (.bool (lexLt ns ms)))) s) :=
  .of_wp fun prog w A R s h => by
    obtain ⟨hp, g, d, tk, os⟩ := s; obtain ⟨hl, hb, h⟩ := h
    have f2 := AutoSeq1.sub_tuple_tuple
    have z1 : items.size = ns.length := by rw [← hi.length]; simp
    have z2 : items2.size = ms.length := by rw [← hj.length]; simp
    wp_walk using wpAny_loadPart' hl, wpAny_loadPart' hb, wpAny_forIn_list _ (fun rest b s' => b.1 = none ∧ s' = ⟨hp, g, d, tk, os⟩ ∧ ∃ (vs ws : List Value) (ns' ms' : List Int), rest = vs.zip ws ∧
      IntsAre vs ns' ∧ IntsAre ws ms' ∧ ns'.length + items2.size = ms'.length + items.size ∧ R (.ok (.ret (.bool (lexLt ns' ms')))) ⟨hp, g, d, tk, os⟩) _
    case turn =>
      rintro ⟨y, x⟩ rest b s' ⟨hb', rfl, vs, ws, ns', ms', hz, hvi, hwi, hlen, hR⟩
      cases hvi with
      | nil => rw [List.zip_nil_left] at hz; cases hz
      | cons a t hvi' =>
        cases hwi with
        | nil => rw [List.zip_nil_right] at hz; cases hz
        | cons c u hwi' =>
          rw [List.zip_cons_cons] at hz
          injection hz with hyx hrest
          injection hyx with hy hx
          subst hy hx
          rw [lexLt_cons] at hR
          simp only [List.length_cons] at hlen
          obtain ⟨e, he, hiff⟩ := eqAt_int A.in1 ⟨hp, g, d, tk, os⟩ a t c u
          refine wpAny_bind (he prog w _ _ ?_)
          cases e with
          | true =>
            rw [if_pos (hiff.mp rfl)] at hR
            wp_walk
            exact ⟨rfl, rfl, _, _, _, _, hrest, hvi', hwi', by omega, hR⟩
          | false =>
            rw [if_neg (fun q => absurd (hiff.mpr q) Bool.false_ne_true)] at hR
            have hri := rcLt_int A.in1 ⟨hp, g, d, tk, os⟩ a t c u prog w
            wp_walk using hri
            exact ⟨_, rfl, by simpa using hR⟩
    case fin =>
      rintro ⟨b1, b2⟩ s' ⟨hb', rfl, vs, ws, ns', ms', hz, hvi, hwi, hlen, hR⟩
      simp only at hb'
      subst hb'
      have hv : lexLt ns' ms' = decide (items.size < items2.size) := by
        cases hvi with
        | nil =>
          cases hwi with
          | nil =>
            simp only [List.length_nil] at hlen
            rw [lexLt_nil_nil]
            exact (decide_eq_false (by omega)).symm
          | cons c u hw =>
            simp only [List.length_nil, List.length_cons] at hlen
            rw [lexLt_nil_cons]
            exact (decide_eq_true (by omega)).symm
        | cons a t hv =>
          cases hwi with
          | nil =>
            simp only [List.length_nil, List.length_cons] at hlen
            rw [lexLt_cons_nil]
            exact (decide_eq_false (by omega)).symm
          | cons c u hw =>
            rw [List.zip_cons_cons] at hz
            cases hz
      rw [hv] at hR
      wp_walk
      exact ⟨_, rfl, by simpa [Builtin.Tuple.tupleCompareSizes] using hR⟩
    case h =>
      exact ⟨rfl, rfl, items.toList, items2.toList, ns, ms, rfl, hi, hj, by omega, h⟩
end

section
variable {prog : Program} {w : World} {A : Around} {E : Value → Shared → Prop} {s : Shared}

theorem lt_tupInts {l b : Addr} {items items2 : Array Value} {ns ms : List Int} {Q : Value → Shared → Prop} (hl : IsTup s.heap l items) (hb : IsTup s.heap b items2) (hi : IntsAre items.toList ns) (hj : IntsAre items2.toList ms)
    (hu : A.units < cLine) (h : Q (.bool (lexLt ns ms)) s) : wpAny (model prog w) A (compareOp .Lt (.ref l) (.ref b)) Q E s := by
  obtain ⟨⟨cls, dd, data, sl⟩, ho, hc, n, hd⟩ := id hl
  obtain ⟨⟨cls2, dd2, data2, sl2⟩, ho2, hc2, n2, hd2⟩ := id hb
  simp only at hc hd hc2 hd2
  subst hc hd hc2 hd2
  exact richCompare_meets_room (op := .Lt) ⟨_, ho, rfl⟩ ⟨_, ho2, rfl⟩ PySem.F.slot_tuple_lt PySem.F.entry_tuple_lt (PySem.F.args_tuple_lt_2 _ _) (tuple_lt_ints l b items items2 n n2 dd dd2 sl sl2 ns ms hi hj)
    ⟨ho, ho2, show Value.bool (lexLt ns ms) ≠ Value.notImplemented ∧ Q (.bool (lexLt ns ms)) s from ⟨(fun x => nomatch x), h⟩⟩ hu

/-- t + u, t not empty -/
theorem cat_tup {t b : Addr} {vs ws : List Value} {Q : Value → Shared → Prop} (ht : IsTup s.heap t vs.toArray) (hb : IsTup s.heap b ws.toArray) (hv : vs ≠ [])
    (h1 : ws = [] → Q (.ref t) s) (h2 : ws ≠ [] → Q (.ref s.heap.objs.size) { s with heap := s.heap.push { cls := .type "tuple", data := .seq (vs ++ ws).toArray } })
    (hsz : vs.length + ws.length ≤ sizeLine) : wpAny (model prog w) A (binaryOp .Add (.ref t) (.ref b)) Q E s := by
  obtain ⟨⟨cls, dd, data, sl⟩, ho, hc, n, hd⟩ := id ht
  obtain ⟨⟨cls2, dd2, data2, sl2⟩, ho2, hc2, n2, hd2⟩ := id hb
  simp only at hc hd hc2 hd2
  subst hc hd hc2 hd2
  have e : vs.toArray ++ ws.toArray = (vs ++ ws).toArray := by simp
  by_cases hw : ws = []
  · exact concat_meets ⟨_, ho, rfl⟩ ⟨_, ho2, rfl⟩ noFill_tuple_add seq_tuple_add PySem.F.slot_tuple_add PySem.F.entry_tuple_add (PySem.F.args_tuple_add_2 _ _)
      (tuple_addW1 t b vs.toArray ws.toArray n n2 dd dd2 sl sl2 (by simpa using hv) (by simp [hw])) ⟨ho, ho2, h1 hw⟩
  · refine concat_meets ⟨_, ho, rfl⟩ ⟨_, ho2, rfl⟩ noFill_tuple_add seq_tuple_add PySem.F.slot_tuple_add PySem.F.entry_tuple_add (PySem.F.args_tuple_add_2 _ _)
      (tuple_addW2 t b vs.toArray ws.toArray n n2 dd dd2 sl sl2 (by simpa using hv) (by simpa using hw) (by rw [List.size_toArray, List.size_toArray]; exact hsz)) ⟨ho, ho2, ?_⟩
    rw [e]
    exact h2 hw

/-! ### t[a:b], not the whole -/
/-- a slice's bound as a place among n (d where it is left out) -/
def sIx (n d : Nat) : Option Int → Nat
  | none => d
  | some v => if v < 0 then (v + (n : Int)).toNat else min v.toNat n
theorem sIx_none (n d : Nat) : sIx n d none = d := rfl
theorem sIx_nat (n d k : Nat) : sIx n d (some (k : Int)) = min k n := by
  show (if (k : Int) < 0 then ((k : Int) + (n : Int)).toNat else min (k : Int).toNat n) = min k n
  rw [if_neg (by omega), Int.toNat_natCast]
theorem sIx_le (n d : Nat) (hd : d ≤ n) (o : Option Int) : sIx n d o ≤ n := by
  cases o with
  | none => exact hd
  | some v =>
    show (if v < 0 then (v + (n : Int)).toNat else min v.toNat n) ≤ n
    by_cases hv : v < 0
    · rw [if_pos hv]; omega
    · rw [if_neg hv]; exact Nat.min_le_right _ _
theorem clip_eq (v : Int) (n d : Nat) : (if v < 0 then max (v + (n : Int)) 0 else min v (n : Int)) = ((sIx n d (some v) : Nat) : Int) := by
  show (if v < 0 then max (v + (n : Int)) 0 else min v (n : Int)) = (((if v < 0 then (v + (n : Int)).toNat else min v.toNat n) : Nat) : Int)
  by_cases hv : v < 0
  · simp only [if_pos hv]; omega
  · simp only [if_neg hv]; omega
theorem adjust_gen (lo hi : Option Int) (n : Nat) : Builtin.Slice.sliceAdjust lo hi 1 (n : Int) = (((sIx n 0 lo : Nat) : Int), ((sIx n n hi : Nat) : Int)) := by
  have h1 : ¬ ((1 : Int) < 0) := by omega
  unfold Builtin.Slice.sliceAdjust
  simp only [h1, if_false]
  refine Prod.ext ?_ ?_
  · cases lo with
    | none => rfl
    | some v => exact clip_eq v n 0
  · cases hi with
    | none => rfl
    | some v => exact clip_eq v n n
theorem places_gen (i j : Nat) : Builtin.Slice.slicePlaces (i : Int) (j : Int) 1 = j - i := by
  unfold Builtin.Slice.slicePlaces
  have h1 : (1 : Int) > 0 := by omega
  simp only [h1, if_true, Int.ediv_one]
  split <;> omega
theorem slicePart_ {v : Value} {o : Option Int} {Q : Option Int → Shared → Prop} (p : IsPart v o) (h : Q o s) : wpAny (model prog w) A (Builtin.Slice.slicePartIndex v) Q E s := by
  cases p with
  | none => exact slicePart_none h
  | int i t => exact slicePart_int h
theorem sliceApplied_gen {sl : Addr} {vl vu : Value} {lo hi : Option Int} {n : Nat} {Q : Int × Int × Nat → Shared → Prop} (hs : s.heap.IsSliceOf sl vl vu .none) (pl : IsPart vl lo) (pu : IsPart vu hi)
    (h : Q (((sIx n 0 lo : Nat) : Int), 1, sIx n n hi - sIx n 0 lo) s) : wpAny (model prog w) A (Builtin.Slice.sliceApplied (.ref sl) (pure (n : Int))) Q E s := by
  obtain ⟨os, hos, hcs, hds⟩ := id hs
  unfold Builtin.Slice.sliceApplied Builtin.Slice.sliceFields
  refine wpAny_bind (wpAny_bind (wpAny_field hos hds (x := vl) rfl (wpAny_bind (wpAny_field hos hds (x := vu) rfl (wpAny_bind (wpAny_field hos hds (x := .none) rfl (wpAny_pure ?_)))))))
  refine wpAny_bind (slicePart_none ?_)
  show wpAny _ _ (if ((1 : Int) == 0) = true then _ else _) _ _ s
  rw [if_neg (by decide)]
  refine wpAny_bind (slicePart_ pl (wpAny_bind (slicePart_ pu (wpAny_bind (wpAny_pure ?_)))))
  show wpAny _ _ (match Builtin.Slice.sliceAdjust lo hi 1 (n : Int) with | (lo, hi) => pure (lo, (1 : Int), Builtin.Slice.slicePlaces lo hi 1)) _ _ s
  rw [adjust_gen lo hi n]
  show wpAny _ _ (pure (((sIx n 0 lo : Nat) : Int), (1 : Int), Builtin.Slice.slicePlaces ((sIx n 0 lo : Nat) : Int) ((sIx n n hi : Nat) : Int) 1)) _ _ s
  rw [places_gen]
  exact wpAny_pure h
theorem pick_gen (xs : Array Value) (i k : Nat) : ((List.range k).filterMap fun (m : Nat) => xs[((i : Int) + (m : Int) * 1).toNat]?).toArray = ((xs.toList.drop i).take k).toArray := by
  have e : (fun (m : Nat) => xs[((i : Int) + (m : Int) * 1).toNat]?) = fun m => xs[i + m]? := by
    funext m
    have : ((i : Int) + (m : Int) * 1).toNat = i + m := by omega
    rw [this]
  rw [e]
  have := pick_run xs i k
  rw [List.filterMap_map] at this
  have e2 : ((fun x => xs[x]?) ∘ fun x => i + x) = fun m => xs[i + m]? := rfl
  rw [e2] at this
  rw [this]

theorem getItem_tuple_cut {t sl : Addr} {items : Array Value} {vl vu : Value} {lo hi : Option Int} {Q : Value → Shared → Prop} (ht : IsTup s.heap t items) (hs : s.heap.IsSliceOf sl vl vu .none) (pl : IsPart vl lo) (pu : IsPart vu hi)
    (hw : ¬ (sIx items.size 0 lo = 0 ∧ sIx items.size items.size hi = items.size))
    (h : Q (.ref s.heap.objs.size) { s with heap := s.heap.push { cls := .type "tuple", data := .seq ((items.toList.drop (sIx items.size 0 lo)).take (sIx items.size items.size hi - sIx items.size 0 lo)).toArray } })
    (hsz : items.size ≤ sizeLine) : wpAny (model prog w) A (getItem (.ref t) (.ref sl)) Q E s := by
  have htake : sizeOk (.seq ((items.toList.drop (sIx items.size 0 lo)).take (sIx items.size items.size hi - sIx items.size 0 lo)).toArray) := by
    show ((items.toList.drop (sIx items.size 0 lo)).take (sIx items.size items.size hi - sIx items.size 0 lo)).toArray.size ≤ sizeLine
    rw [List.size_toArray, List.length_take, List.length_drop, Array.length_toList]
    omega
  have hj : sIx items.size items.size hi ≤ items.size := sIx_le _ _ (Nat.le_refl _) hi
  obtain ⟨os, hos, hcs, hds⟩ := id hs
  have hTs : s.TypeIs (.ref sl) "slice" := ⟨os, hos, hcs⟩
  unfold getItem
  try with_reducible refine wpAny_holding ?_
  first | refine wpAny_bind (wpAny_pure ?_) | skip
  refine wpAny_bind (wpAny_sequenceKey ht.typeIs (by decide) ?_)
  refine wpAny_bind (wpAny_callSpecial?_slot (name := Str.ofString "__getitem__") ht.typeIs PyProof.Rows.slot_tuple_getitem
    (wpAny_call_entry PyProof.Rows.slot_tuple_getitem ht.typeIs entry_tuple_getitem ?_ (args_tuple_getitem _ _)))
  show wpAny _ _ (Builtin.Tuple.tupleItemsOf (.ref t) >>= _) _ _ s
  refine wpAny_bind (tupleItemsOf_ ht ?_)
  refine wpAny_bind (wpAny_typeOf hTs ?_)
  rw [if_pos (by decide)]
  refine wpAny_bind (sliceApplied_gen hs pl pu ?_)
  have hno : ¬ ((((sIx items.size 0 lo : Nat) : Int) == 0 && (1 : Int) == 1 && (sIx items.size items.size hi - sIx items.size 0 lo) == items.size) = true) := by
    intro q
    rw [Bool.and_eq_true, Bool.and_eq_true] at q
    have q1 : ((sIx items.size 0 lo : Nat) : Int) = 0 := eq_of_beq q.1.1
    have q2 : sIx items.size items.size hi - sIx items.size 0 lo = items.size := eq_of_beq q.2
    exact hw ⟨by omega, by omega⟩
  show wpAny _ _ (if (((sIx items.size 0 lo : Nat) : Int) == 0 && (1 : Int) == 1 && (sIx items.size items.size hi - sIx items.size 0 lo) == items.size) = true then _ else _) _ _ s
  rw [if_neg hno, pick_gen]
  first
    | exact wpAny_bind (m := Builtin.Tuple.tupleExact _) (wpAny_newObj_type (wpAny_pure ⟨_, rfl, wpAny_pure h⟩) htake)
    | exact wpAny_bind (m := Builtin.Tuple.tupleExact _) (wpAny_newObj_type (wpAny_bind (wpAny_pure (wpAny_pure ⟨_, rfl, wpAny_pure h⟩))) htake)
    | exact wpAny_bind (wpAny_bind (m := Builtin.Tuple.tupleExact _) (wpAny_newObj_type (wpAny_pure (wpAny_pure ⟨_, rfl, wpAny_pure h⟩)) htake))
    | exact wpAny_bind (wpAny_bind (m := Builtin.Tuple.tupleExact _) (wpAny_newObj_type (wpAny_pure ⟨_, rfl, wpAny_pure h⟩) htake))
end
end HT

namespace L2
open PySem PySem.Spec PyProof.Rows

/-! ### the parts of a slice -/
abbrev TO := St → Hp → (Option Int → Hp → Prop) → Prop
/-- a slice's part (left out, or an int) -/
def PO (X : Cx) (e : Option Expr) (t : TO) : Prop :=
  ∀ (pins : List (Addr × Obj)) (s : Shared) (σ : St) (H : Hp) (Q : Option Int → Hp → Prop), Inv X pins σ H s → t σ H Q →
    wpAny (model X.prog X.w) X.A (evalPart e X.env) (fun u s' => ∃ o H', Inv X pins σ H' s' ∧ IsPart u o ∧ Q o H') X.xe s
def tNoPart : TO := fun _ H Q => Q none H
def tPart (t : TE) : TO := fun σ H Q => t σ H fun x H1 => ∃ i, x = .int i ∧ Q (some i) H1

theorem intsAre_of {ns : List Int} : ∀ {us : List Value}, Vals (ns.map V.int) us → IntsAre us ns := by
  induction ns with
  | nil => intro us r; rw [List.map_nil] at r; cases r; exact .nil
  | cons n ns ih =>
    intro us r
    rw [List.map_cons] at r
    cases r with
    | cons r1 r2 =>
      obtain ⟨t, e⟩ := r1
      subst e
      exact .cons n t (ih r2)

section
variable {X : Cx} {e : Expr} {te : TE} {lo hi : Option Expr} {tl th : TO} {pos p2 : Pos}

theorem po_none : PO X none tNoPart := by
  intro pins s σ H Q I h
  rw [evalPart_none]
  exact wpAny_pure ⟨none, H, I, .none, h⟩
theorem po_some (h : PE X e te) : PO X (some e) (tPart te) := by
  intro pins s σ H Q I hw
  rw [evalPart_some]
  refine thn (h pins s σ H _ I hw) fun u s1 ⟨x, H1, I1, r1, q1⟩ => ?_
  obtain ⟨i, rfl, q⟩ := q1
  obtain ⟨t, rfl⟩ := r1
  exact ⟨some i, H1, I1, .int i t, q⟩

/-- what a slice of a value is, by values: the slice object stands at sl -/
def SlR (X : Cx) (r : V → Option Int → Option Int → Hp → VK → Prop) : Prop :=
  ∀ (pins : List (Addr × Obj)) (s : Shared) (σ : St) (H : Hp) (x : V) (v vl vu : Value) (lo hi : Option Int) (sl : Addr) (Q : VK), Inv X pins σ H s → RelV x v → s.heap.IsSliceOf sl vl vu .none → IsPart vl lo → IsPart vu hi → r x lo hi H Q →
    ∃ T id, typeLookup (.type T) "__getitem__" = pure (some (.builtin id)) ∧ s.TypeIs v T ∧ wpAny (model X.prog X.w) X.A (getItem v (.ref sl)) (EP X pins σ Q) X.xe s
theorem SlR.or {r r' : V → Option Int → Option Int → Hp → VK → Prop} (h : SlR X r) (h' : SlR X r') : SlR X (fun x lo hi H Q => r x lo hi H Q ∨ r' x lo hi H Q) := by
  intro pins s σ H x v vl vu lo hi sl Q I rx hs pl pu q
  rcases q with q | q
  · exact h pins s σ H x v vl vu lo hi sl Q I rx hs pl pu q
  · exact h' pins s σ H x v vl vu lo hi sl Q I rx hs pl pu q
def tSl (r : V → Option Int → Option Int → Hp → VK → Prop) (te : TE) (tl th : TO) : TE := fun σ H Q => te σ H fun x H1 => tl σ H1 fun l H2 => th σ H2 fun u H3 => r x l u H3 Q
/-- a[lo:hi], any a -/
theorem pe_slice {r : V → Option Int → Option Int → Hp → VK → Prop} (hr : SlR X r) (he : PE X e te) (hl : PO X lo tl) (hu : PO X hi th) : PE X (.Subscript e (.Slice lo hi none p2) pos) (tSl r te tl th) := by
  intro pins s σ H Q I h
  refine Subscript_ (thn (he pins s σ H _ I h) fun v s1 ⟨x, H1, I1, r1, q1⟩ => ?_)
  refine wpAny_Slice (thn (hl pins s1 σ H1 _ I1 q1) fun vl s2 ⟨l, H2, I2, pl, q2⟩ => thn (hu pins s2 σ H2 _ I2 q2) fun vu s3 ⟨u, H3, I3, pu, q3⟩ => ?_)
  rw [evalPart_none]
  refine wpAny_pure ?_
  have I4 : Inv X pins σ H3 { s3 with heap := s3.heap.push { cls := .type "slice", data := .fields #[vl, vu, .none] } } := I3.kept (t' := s3.toks) fun b ob q => Heap.get?_push_of_some _ q
  obtain ⟨T, id, hT, ht, hg⟩ := hr pins { s3 with heap := s3.heap.push { cls := .type "slice", data := .fields #[vl, vu, .none] } } σ H3 x v vl vu l u s3.heap.objs.size Q I4 r1 (Heap.IsSliceOf.new ..) pl pu q3
  show wpAny (model X.prog X.w) X.A (subscriptTail e (.Slice lo hi none p2) v (.ref s3.heap.objs.size)) (EP X pins σ Q) X.xe { s3 with heap := s3.heap.push { cls := .type "slice", data := .fields #[vl, vu, .none] } }
  exact tail_any (ops := [.ref s3.heap.objs.size, v]) ht hT hg (by with_unfolding_all rfl)

/-- the items of xs[lo:hi] -/
def cutV (xs : List V) (lo hi : Option Int) : List V := (xs.drop (HT.sIx xs.length 0 lo)).take (HT.sIx xs.length xs.length hi - HT.sIx xs.length 0 lo)
theorem cutV_length (xs : List V) (lo hi : Option Int) : (cutV xs lo hi).length ≤ xs.length := by
  unfold cutV
  rw [List.length_take, List.length_drop]
  omega
/-- t[lo:hi], not the whole of it (the whole would be t itself) -/
def rSlT (K : PySem.W.Frag) : V → Option Int → Option Int → Hp → VK → Prop := fun x lo hi H Q => ∃ a xs, x = .ref a ∧ SqT K H a xs ∧
  ¬ (HT.sIx xs.length 0 lo = 0 ∧ HT.sIx xs.length xs.length hi = xs.length) ∧ ∀ p, H p = none → Q (.ref p) (upd H p (.tup (cutV xs lo hi)))
theorem sl_tup : SlR X (rSlT X.K) := by
  intro pins s σ H x v vl vu lo hi sl Q I rx hs pl pu h
  obtain ⟨a, xs, rfl, hx, hw, q⟩ := h
  cases rx
  obtain ⟨its, r, ht, hz⟩ := I.tuple hx
  have hlen : its.toArray.size = xs.length := by rw [List.size_toArray]; exact r.length.symm
  refine ⟨"tuple", _, PyProof.Rows.slot_tuple_getitem.lookup, ht.typeIs, ?_⟩
  refine HT.getItem_tuple_cut ht hs pl pu (by rw [hlen]; exact hw) ?_ (by rw [hlen]; exact hz)
  rw [hlen]
  refine ⟨.ref s.heap.objs.size, _, I.laid (t' := s.toks) (o := .tup (cutV xs lo hi)) (fun b ob q => Heap.get?_push_of_some _ q) (Nat.le_refl _) ?_, rfl, q _ (I.hok.fresh (Nat.le_refl _))⟩
  exact ⟨Nat.le_trans (cutV_length xs lo hi) hz, _, (r.drop (HT.sIx xs.length 0 lo)).take (HT.sIx xs.length xs.length hi - HT.sIx xs.length 0 lo), IsTup.new _ _⟩

/-! ### t < u, t + u -/
def rLtT (K : PySem.W.Frag) : R2 := fun x y H Q => ∃ a b ns ms, x = .ref a ∧ y = .ref b ∧ SqT K H a (ns.map V.int) ∧ SqT K H b (ms.map V.int) ∧ Q (.bl (HT.lexLt ns ms)) H
theorem op_ltT (hu : X.A.units < cLine) : OpR X (compareOp .Lt) (rLtT X.K) := by
  intro pins s σ H x y v u Q I rx ry h
  obtain ⟨a, b, ns, ms, rfl, rfl, ha, hb, q⟩ := h
  cases rx
  cases ry
  obtain ⟨its, r1, p1, _⟩ := I.tuple ha
  obtain ⟨its2, r2, p2, _⟩ := I.tuple hb
  have i1 : IntsAre its.toArray.toList ns := intsAre_of r1
  have i2 : IntsAre its2.toArray.toList ms := intsAre_of r2
  exact HT.lt_tupInts p1 p2 i1 i2 hu ⟨.bl (HT.lexLt ns ms), H, I, rfl, q⟩
/-- t + u, t not empty: u empty gives t itself -/
def rCatT (K : PySem.W.Frag) : R2 := fun x y H Q => ∃ a b xs ys, x = .ref a ∧ y = .ref b ∧ SqT K H a xs ∧ SqT K H b ys ∧ xs ≠ [] ∧ xs.length + ys.length ≤ sizeLine ∧
  (ys = [] → Q (.ref a) H) ∧ (ys ≠ [] → ∀ p, H p = none → Q (.ref p) (upd H p (.tup (xs ++ ys))))
theorem Vals.nil_iff {xs : List V} {us : List Value} (r : Vals xs us) : us = [] ↔ xs = [] := by
  cases r with
  | nil => simp
  | cons _ _ => simp
theorem op_catT : OpR X (binaryOp .Add) (rCatT X.K) := by
  intro pins s σ H x y v u Q I rx ry h
  obtain ⟨a, b, xs, ys, rfl, rfl, ha, hb, hx, hz, q1, q2⟩ := h
  cases rx
  cases ry
  obtain ⟨its, r1, p1, _⟩ := I.tuple ha
  obtain ⟨its2, r2, p2, _⟩ := I.tuple hb
  refine HT.cat_tup p1 p2 (fun z => hx (r1.nil_iff.mp z)) (fun z => ⟨.ref a, H, I, rfl, q1 (r2.nil_iff.mp z)⟩) (fun z => ?_) (by rw [← r1.length, ← r2.length]; exact hz)
  refine ⟨.ref s.heap.objs.size, _, I.laid (t' := s.toks) (o := .tup (xs ++ ys)) (fun b ob q => Heap.get?_push_of_some _ q) (Nat.le_refl _) ?_, rfl, q2 (fun w => z (r2.nil_iff.mpr w)) _ (I.hok.fresh (Nat.le_refl _))⟩
  exact ⟨by rw [List.length_append]; exact hz, _, r1.append r2, IsTup.new _ _⟩
/-- tuple(t) -/
theorem call_tupleT : CallR X (.type "tuple") (fun xs H Q => ∃ a ys, xs = [.ref a] ∧ SqT X.K H a ys ∧ Q (.ref a) H) := by
  intro pins s σ H xs us Q I r h
  obtain ⟨a, ys, rfl, ha, q⟩ := h
  obtain ⟨u, rfl, ru⟩ := vals1 r
  cases ru
  obtain ⟨its, _, p1, _⟩ := I.tuple ha
  exact call_tuple_same (items := its.toArray) p1 ⟨.ref a, H, I, rfl, q⟩
end
end L2

namespace L2
open PySem PySem.Spec PyProof.Rows

/-! ### places -/
/-- the place that an index of any sign means -/
def ixN (n : Nat) (i : Int) : Option Nat := if 0 ≤ i then (if i < n then some i.toNat else none) else if -(n : Int) ≤ i then some (i + n).toNat else none
def atI {α : Type} (xs : List α) (i : Int) : Option α := (ixN xs.length i).bind fun j => xs[j]?
theorem ixN_seq {n : Nat} {i : Int} {j : Nat} (h : ixN n i = some j) : seqIndex? i n = some j ∧ j < n ∧ -(n : Int) ≤ i ∧ i < n := by
  unfold ixN at h
  by_cases h0 : 0 ≤ i
  · rw [if_pos h0] at h
    by_cases h1 : i < n
    · rw [if_pos h1] at h
      have e : i.toNat = j := Option.some.inj h
      exact ⟨by rw [seqIndex_of h0 h1, e], by omega, by omega, h1⟩
    · rw [if_neg h1] at h; cases h
  · rw [if_neg h0] at h
    by_cases h1 : -(n : Int) ≤ i
    · rw [if_pos h1] at h
      have e : (i + n).toNat = j := Option.some.inj h
      exact ⟨by rw [seqIndex_neg (by omega) h1, e], by omega, h1, by omega⟩
    · rw [if_neg h1] at h; cases h
theorem atI_get {α : Type} {xs : List α} {i : Int} {v : α} (h : atI xs i = some v) : ∃ j, seqIndex? i xs.length = some j ∧ xs[j]? = some v ∧ j < xs.length ∧ -(xs.length : Int) ≤ i ∧ i < xs.length := by
  unfold atI at h
  cases e : ixN xs.length i with
  | none => rw [e] at h; cases h
  | some j =>
    rw [e] at h
    obtain ⟨h1, h2, h3, h4⟩ := ixN_seq e
    exact ⟨j, h1, h, h2, h3, h4⟩
theorem atI_nat {α : Type} {xs : List α} {j : Nat} {v : α} (h : xs[j]? = some v) : atI xs (j : Int) = some v := by
  have hj : j < xs.length := (List.getElem?_eq_some_iff.mp h).1
  have e : ixN xs.length (j : Int) = some j := by
    unfold ixN
    rw [if_pos (by omega), if_pos (by omega)]; simp
  unfold atI; rw [e]; exact h
theorem atI_last {α : Type} (xs : List α) (v : α) : atI (xs ++ [v]) (-1) = some v := by
  have hl : (xs ++ [v]).length = xs.length + 1 := by simp
  have e : ixN (xs ++ [v]).length (-1) = some xs.length := by
    unfold ixN
    rw [hl, if_neg (by decide), if_pos (by omega)]
    congr 1
    omega
  unfold atI
  rw [e]
  show (xs ++ [v])[xs.length]? = some v
  simp

/-! ### what may be subscripted -/
/-- what stands as an index of a plain subscript -/
def PlainIx (b : Expr) : Prop := ∀ o i, subscripted b false o i = operate [o, i] (getItem o i)
/-- a subscript by values -/
def IxR (X : Cx) (r : R2) : Prop :=
  ∀ (value slice : Expr) (pins : List (Addr × Obj)) (s : Shared) (σ : St) (H : Hp) (x y : V) (v u : Value) (Q : VK), Inv X pins σ H s → RelV x v → RelV y u → r x y H Q →
    subscripted slice false v u = operate [v, u] (getItem v u) → wpAny (model X.prog X.w) X.A (subscriptTail value slice v u) (EP X pins σ Q) X.xe s
/-- a call of a builtin's method by values: the receiver, the arguments -/
def MtR (X : Cx) (id : String) (r : V → List V → Hp → VK → Prop) : Prop :=
  ∀ (pins : List (Addr × Obj)) (s : Shared) (σ : St) (H : Hp) (x : V) (xs : List V) (v : Value) (us : List Value) (Q : VK), Inv X pins σ H s → RelV x v → Vals xs us → r x xs H Q →
    wpAny (model X.prog X.w) X.A (call (.builtin id) (v :: us)) (EP X pins σ Q) X.xe s
section
variable {X : Cx} {a b : Expr} {ta tb : TE} {pos : Pos}
theorem IxR.or {r r' : R2} (h : IxR X r) (h' : IxR X r') : IxR X (fun x y H Q => r x y H Q ∨ r' x y H Q) := by
  intro value slice pins s σ H x y v u Q I rx ry q hs
  rcases q with q | q
  · exact h value slice pins s σ H x y v u Q I rx ry q hs
  · exact h' value slice pins s σ H x y v u Q I rx ry q hs
theorem MtR.or {id : String} {r r' : V → List V → Hp → VK → Prop} (h : MtR X id r) (h' : MtR X id r') : MtR X id (fun x xs H Q => r x xs H Q ∨ r' x xs H Q) := by
  intro pins s σ H x xs v us Q I rx rs q
  rcases q with q | q
  · exact h pins s σ H x xs v us Q I rx rs q
  · exact h' pins s σ H x xs v us Q I rx rs q
/-- a[b] -/
theorem pe_ix {r : R2} (hr : IxR X r) (ha : PE X a ta) (hb : PE X b tb) (hs : PlainIx b) : PE X (.Subscript a b pos) (tOp r ta tb) := by
  intro pins s σ H Q I h
  exact Subscript_ (binT ha hb I h fun v u s2 x y H2 I2 rx ry q => hr a b pins s2 σ H2 x y v u Q I2 rx ry q (hs _ _))

def rIxL (K : PySem.W.Frag) : R2 := fun x y H Q => ∃ p xs i v, x = .ref p ∧ y = .int i ∧ SqL K H p xs ∧ atI xs i = some v ∧ Q v H
def rIxT (K : PySem.W.Frag) : R2 := fun x y H Q => ∃ p xs i v, x = .ref p ∧ y = .int i ∧ SqT K H p xs ∧ atI xs i = some v ∧ Q v H
def rIxS : R2 := fun x y H Q => ∃ z i c, x = .str z ∧ y = .int i ∧ z.length ≤ sizeLine ∧ atI z.cps.toList i = some c ∧ Q (.str ⟨#[c]⟩) H
theorem ix_list : IxR X (rIxL X.K) := by
  intro value slice pins s σ H x y v u Q I rx ry h hs
  obtain ⟨p, xs, i, z, rfl, rfl, hq, he, q⟩ := h
  cases rx
  obtain ⟨t, rfl⟩ := ry
  obtain ⟨its, r, pl, hz⟩ := I.list hq
  obtain ⟨j, h1, h2, h3, h4, h5⟩ := atI_get he
  obtain ⟨w, ew, rw'⟩ := r.get h2
  have hl := r.length
  have hn := line63
  have fin : EP X pins σ Q w s := ⟨z, H, I, rw', q⟩
  by_cases h0 : 0 ≤ i
  · have hj : i.toNat = j := by
      rw [seqIndex_of h0 h5] at h1
      exact Option.some.inj h1
    exact item_listR pl.isList h0 (by omega) (by rw [hj]; simpa using ew) fin hs
  · have hj : (i + (its.toArray.size : Int)).toNat = j := by
      rw [seqIndex_neg (by omega) h4] at h1
      rw [List.size_toArray, ← hl]
      exact Option.some.inj h1
    exact subscriptTail_builtinR (x := w) pl.isList.typeIs slot_list_getitem.lookup
      (wpAny_getItem_list_neg (Q := fun r s' => r = w ∧ EP X pins σ Q r s') pl.isList (by omega) (by rw [List.size_toArray] <;> omega) (by omega) (by rw [hj]; simpa using ew) ⟨rfl, fin⟩) hs
theorem ix_tup : IxR X (rIxT X.K) := by
  intro value slice pins s σ H x y v u Q I rx ry h hs
  obtain ⟨p, xs, i, z, rfl, rfl, hq, he, q⟩ := h
  cases rx
  obtain ⟨t, rfl⟩ := ry
  obtain ⟨its, r, pl, hz⟩ := I.tuple hq
  obtain ⟨j, h1, h2, h3, h4, h5⟩ := atI_get he
  obtain ⟨w, ew, rw'⟩ := r.get h2
  have hl := r.length
  have hn := line63
  have fin : EP X pins σ Q w s := ⟨z, H, I, rw', q⟩
  exact subscriptTail_builtinR (x := w) pl.typeIs slot_tuple_getitem.lookup
    (getItem_tuple (j := j) (Q := fun r s' => r = w ∧ EP X pins σ Q r s') pl (by omega) (by omega) (by rw [List.size_toArray, ← hl]; exact h1) (by simpa using ew) ⟨rfl, fin⟩) hs
theorem ix_str : IxR X rIxS := by
  intro value slice pins s σ H x y v u Q I rx ry h hs
  obtain ⟨z, i, c, rfl, rfl, hz, he, q⟩ := h
  obtain ⟨t, rfl⟩ := rx
  obtain ⟨t', rfl⟩ := ry
  obtain ⟨j, h1, h2, h3, h4, h5⟩ := atI_get he
  have hl : z.cps.toList.length = z.length := by simp [Str.length]
  rw [hl] at h1 h4 h5
  have hn := line63
  exact tail_any (typeIs_str s z t) slot_str_getitem.lookup (getItem_str (c := c) (by
    have e1 : decide (i < -(2 ^ 63 : Int)) = false := decide_eq_false (by omega)
    have e2 : decide (i ≥ 2 ^ 63) = false := decide_eq_false (by omega)
    rw [e1, e2, Bool.or_false]) (by rw [h1]; simpa using h2) ⟨.str ⟨#[c]⟩, H, I.tok _, ⟨_, rfl⟩, q⟩) hs
/-- list, tuple or str -/
def rIx (K : PySem.W.Frag) : R2 := fun x y H Q => rIxL K x y H Q ∨ rIxT K x y H Q ∨ rIxS x y H Q
theorem ix_seq : IxR X (rIx X.K) := ix_list.or (ix_tup.or ix_str)

/-! ### xs[i] = v, any sign -/
/-- the list's object behind a store -/
theorem mapSeq_set (its : List Value) (n j : Nat) (u : Value) : Obj.mapSeq (·.setIfInBounds j u) { cls := .type "list", data := .seq its.toArray n } = { cls := .type "list", data := .seq (its.set j u).toArray n } := by
  simp [Obj.mapSeq]
theorem Inv.lst {pins : List (Addr × Obj)} {σ : St} {H : Hp} {s : Shared} {p : Addr} {xs : List V} (I : Inv X pins σ H s) (h : H p = some (.lst xs)) :
    ∃ (its : List Value) (n : Nat), Vals xs its ∧ s.heap.get? p = some { cls := .type "list", data := .seq its.toArray n } ∧ xs.length ≤ sizeLine := by
  obtain ⟨z, its, n, r, e⟩ := I.hok p _ h
  exact ⟨its, n, r, e, z⟩
/-- the list at p is written by an update of its object -/
theorem Inv.lstUpd {pins : List (Addr × Obj)} {σ : St} {H : Hp} {s : Shared} {p : Addr} {xs ys : List V} {its its' : List Value} {n n' : Nat} {f : Obj → Obj} (I : Inv X pins σ H s) (h : H p = some (.lst xs))
    (ho : s.heap.get? p = some { cls := .type "list", data := .seq its.toArray n }) (hf : f { cls := .type "list", data := .seq its.toArray n } = { cls := .type "list", data := .seq its'.toArray n' }) (r : Vals ys its') (hz : ys.length ≤ sizeLine) (t : Nat) :
    Inv X pins σ (upd H p (.lst ys)) { s with heap := s.heap.update p f, toks := t } := by
  have e : (s.heap.update p f).get? p = some { cls := .type "list", data := .seq its'.toArray n' } := by
    rw [Heap.get?_update_self f ho (by rw [hf] <;> rfl), hf]
  refine I.write (x := p) (e := p) (by rw [h]; trivial) (.inl rfl) (fun b u hb q => (Heap.get?_update_other _ _ (Ne.symm hb)).trans q) ⟨_, e⟩ ?_
  exact ⟨hz, its', n', r, e⟩
def rSetL : V → V → V → Hp → (Hp → Prop) → Prop := fun o i v H Q => ∃ p xs k j, o = .ref p ∧ i = .int k ∧ H p = some (.lst xs) ∧ ixN xs.length k = some j ∧ Q (upd H p (.lst (xs.set j v)))
theorem set_list : PSet X rSetL := by
  intro pins s σ H o i v ov iv u Q I ro ri rv h
  obtain ⟨p, xs, k, j, rfl, rfl, hp, hj, q⟩ := h
  cases ro
  obtain ⟨t, rfl⟩ := ri
  obtain ⟨its, n, r, ho, hz⟩ := I.lst hp
  obtain ⟨h1, h2, h3, h4⟩ := ixN_seq hj
  have hl := r.length
  have hn := line63
  have I' : Inv X pins σ (upd H p (.lst (xs.set j v))) { s with heap := s.heap.update p (Obj.mapSeq (·.setIfInBounds j u)) } :=
    I.lstUpd hp ho (mapSeq_set its n j u) (r.set rv j) (by rw [List.length_set]; exact hz) s.toks
  by_cases h0 : 0 ≤ k
  · have hk : k.toNat = j := by
      rw [seqIndex_of h0 h4] at h1
      exact Option.some.inj h1
    exact PySem.W.ki_setAt ho h0 (by omega) (by rw [List.size_toArray, ← hl]; exact h4) (by rw [hk]; exact ⟨_, I', q⟩)
  · have hk : (k + (its.toArray.size : Int)).toNat = j := by
      rw [seqIndex_neg (by omega) h3] at h1
      rw [List.size_toArray, ← hl]
      exact Option.some.inj h1
    exact PySem.W.ki_setBack ho (by omega) (by rw [List.size_toArray, ← hl]; exact h3) (by omega) (by rw [hk]; exact ⟨_, I', q⟩)

/-! ### slices -/
theorem slice_bounds (lo hi : Option Int) (n : Nat) : (sliceBounds lo hi none n).1 = ((HT.sIx n 0 lo : Nat) : Int) ∧ (sliceBounds lo hi none n).2.1 = ((HT.sIx n n hi : Nat) : Int) ∧ (sliceBounds lo hi none n).2.2 = 1 := by
  refine ⟨?_, ?_, rfl⟩
  · cases lo with
    | none => simp [sliceBounds, HT.sIx]
    | some i =>
      simp only [sliceBounds, HT.sIx, Option.getD_none, show (1 : Int) > 0 by decide, if_true]
      by_cases h : i < 0
      · simp only [h, if_true] <;> omega
      · simp only [h, if_false] <;> omega
  · cases hi with
    | none => simp [sliceBounds, HT.sIx]
    | some i =>
      simp only [sliceBounds, HT.sIx, Option.getD_none, show (1 : Int) > 0 by decide, if_true]
      by_cases h : i < 0
      · simp only [h, if_true] <;> omega
      · simp only [h, if_false] <;> omega
theorem slicePick_cut (its : List Value) (lo hi : Option Int) : slicePick its.toArray lo hi none = ((its.drop (HT.sIx its.length 0 lo)).take (HT.sIx its.length its.length hi - HT.sIx its.length 0 lo)).toArray := by
  obtain ⟨h1, h2, h3⟩ := slice_bounds lo hi its.toArray.size
  unfold slicePick
  rw [h1, h2, h3]
  simp only [sliceRange_one, pick_run, List.size_toArray] <;> rfl
/-- xs[lo:hi] of a list: a new list -/
def rSlL (K : PySem.W.Frag) : V → Option Int → Option Int → Hp → VK → Prop := fun x lo hi H Q => ∃ a xs, x = .ref a ∧ SqL K H a xs ∧ ∀ p, H p = none → Q (.ref p) (upd H p (.lst (cutV xs lo hi)))
theorem sl_list : SlR X (rSlL X.K) := by
  intro pins s σ H x v vl vu lo hi sl Q I rx hs pl pu h
  obtain ⟨a, xs, rfl, hx, q⟩ := h
  cases rx
  obtain ⟨its, r, ht, hz⟩ := I.list hx
  have hlen := r.length
  refine ⟨"list", _, slot_list_getitem.lookup, ht.isList.typeIs, ?_⟩
  refine wpAny_getItem_list_slice ht.isList hs pl pu .none (by simp) ?_ (by rw [List.size_toArray] <;> omega)
  rw [slicePick_cut, ← hlen]
  refine ⟨.ref s.heap.objs.size, _, I.laid (t' := s.toks) (o := .lst (cutV xs lo hi)) (fun b ob q => Heap.get?_push_of_some _ q) (Nat.le_refl _) ?_, rfl, q _ (I.hok.fresh (Nat.le_refl _))⟩
  exact ⟨Nat.le_trans (cutV_length xs lo hi) hz, _, 0, (r.drop (HT.sIx xs.length 0 lo)).take (HT.sIx xs.length xs.length hi - HT.sIx xs.length 0 lo), Heap.get?_push_size _ rfl⟩

/-! ### in, not in: flat items -/
def flatV : V → Bool
  | .non => true
  | .bl _ => true
  | .int _ => true
  | .str _ => true
  | _ => false
/-- == of flat values -/
def eqV : V → V → Bool
  | .non, .non => true
  | .bl a, .bl b => a == b
  | .bl a, .int b => (if a then 1 else 0) == b
  | .int a, .bl b => a == (if b then 1 else 0)
  | .int a, .int b => a == b
  | .str a, .str b => a == b
  | _, _ => false
theorem eqAt_V {A : Around} {s : Shared} {y x : V} {u v : Value} (ry : RelV y u) (rx : RelV x v) (fy : flatV y = true) (fx : flatV x = true) : SeqAt.EqAt A s u v (eqV y x) := by
  cases y with
  | non =>
    cases ry
    cases x with
    | non => cases rx; exact SeqAt.EqAt.same _
    | bl b => cases rx; exact SeqAt.EqAt.none_bool b
    | int b => obtain ⟨t, rfl⟩ := rx; exact SeqAt.EqAt.none_int b t
    | str b => obtain ⟨t, rfl⟩ := rx; exact SeqAt.EqAt.none_str b t
    | _ => exact absurd (show false = true from fx) Bool.false_ne_true
  | bl a =>
    cases ry
    cases x with
    | non => cases rx; exact SeqAt.EqAt.bool_none a
    | bl b => cases rx; exact SeqAt.EqAt.bool_bool a b
    | int b => obtain ⟨t, rfl⟩ := rx; exact SeqAt.EqAt.bool_int a b t
    | str b => obtain ⟨t, rfl⟩ := rx; exact SeqAt.EqAt.bool_str a b t
    | _ => exact absurd (show false = true from fx) Bool.false_ne_true
  | int a =>
    obtain ⟨t', rfl⟩ := ry
    cases x with
    | non => cases rx; exact SeqAt.EqAt.int_none a t'
    | bl b => cases rx; exact SeqAt.EqAt.int_bool a t' b
    | int b => obtain ⟨t, rfl⟩ := rx; exact SeqAt.EqAt.int_int a t' b t
    | str b => obtain ⟨t, rfl⟩ := rx; exact SeqAt.EqAt.int_str a t' b t
    | _ => exact absurd (show false = true from fx) Bool.false_ne_true
  | str a =>
    obtain ⟨t', rfl⟩ := ry
    cases x with
    | non => cases rx; exact SeqAt.EqAt.str_none a t'
    | bl b => cases rx; exact SeqAt.EqAt.str_bool a t' b
    | int b => obtain ⟨t, rfl⟩ := rx; exact SeqAt.EqAt.str_int a t' b t
    | str b => obtain ⟨t, rfl⟩ := rx; exact SeqAt.EqAt.str_str a t' b t
    | _ => exact absurd (show false = true from fx) Bool.false_ne_true
  | _ => exact absurd (show false = true from fy) Bool.false_ne_true
/-- the items' answers, read off the values (a value's own answer does not lean on its token) -/
def eqU (x : V) (u : Value) : Bool := match u with
  | .none => eqV .non x
  | .bool b => eqV (.bl b) x
  | .int i _ => eqV (.int i) x
  | .str z _ => eqV (.str z) x
  | _ => false
theorem eqU_of {x y : V} {u : Value} (r : RelV y u) (f : flatV y = true) : eqU x u = eqV y x := by
  cases y with
  | non => cases r; rfl
  | bl b => cases r; rfl
  | int i => obtain ⟨t, rfl⟩ := r; rfl
  | str z => obtain ⟨t, rfl⟩ := r; rfl
  | _ => exact absurd (show false = true from f) Bool.false_ne_true
theorem any_eqU {x : V} : ∀ {xs : List V} {us : List Value}, Vals xs us → xs.all flatV = true → us.any (eqU x) = xs.any fun y => eqV y x
  | _, _, .nil, _ => rfl
  | y :: xs, u :: us, .cons r t, f => by
    rw [List.all_cons, Bool.and_eq_true] at f
    rw [List.any_cons, List.any_cons, eqU_of r f.1, any_eqU t f.2]
theorem mem_eqAt {A : Around} {s : Shared} {x : V} {v : Value} (rx : RelV x v) (fx : flatV x = true) : ∀ {xs : List V} {us : List Value}, Vals xs us → xs.all flatV = true → ∀ u ∈ us, SeqAt.EqAt A s u v (eqU x u)
  | _, _, .nil, _ => fun u hu => by cases hu
  | y :: xs, u :: us, .cons r t, f => fun u' hu => by
    rw [List.all_cons, Bool.and_eq_true] at f
    rcases List.mem_cons.mp hu with rfl | hu
    · rw [eqU_of r f.1]; exact eqAt_V r rx f.1 fx
    · exact mem_eqAt rx fx t f.2 u' hu
def inV (x : V) (xs : List V) : Bool := xs.any fun y => eqV y x
/-- x in a list or tuple of flat items -/
def rIn (K : PySem.W.Frag) (neg : Bool) : R2 := fun x y H Q => ∃ p xs, y = .ref p ∧ (SqL K H p xs ∨ SqT K H p xs) ∧ flatV x = true ∧ xs.all flatV = true ∧ Q (.bl (if neg then !inV x xs else inV x xs)) H
theorem op_in_seq : OpR X (compareOp .In) (rIn X.K false) := by
  intro pins s σ H x y v u Q I rx ry h
  obtain ⟨p, xs, rfl, hq, fx, fs, q⟩ := h
  cases ry
  rcases hq with hq | hq
  · obtain ⟨its, r, pl, hz⟩ := I.list hq
    refine SeqAt.in_listAt (eqU x) pl.isList (fun w hw => mem_eqAt rx fx r fs w (by simpa using hw)) ⟨.bl _, H, I, rfl, ?_⟩
    rw [show its.toArray.any (eqU x) = its.any (eqU x) by simp, any_eqU r fs]
    exact q
  · obtain ⟨its, r, pl, hz⟩ := I.tuple hq
    refine SeqAt.in_tupleAt (eqU x) pl (fun w hw => mem_eqAt rx fx r fs w (by simpa using hw)) ⟨.bl _, H, I, rfl, ?_⟩
    rw [show its.toArray.any (eqU x) = its.any (eqU x) by simp, any_eqU r fs]
    exact q
theorem op_notIn_seq : OpR X (compareOp .NotIn) (rIn X.K true) := by
  intro pins s σ H x y v u Q I rx ry h
  obtain ⟨p, xs, rfl, hq, fx, fs, q⟩ := h
  cases ry
  rcases hq with hq | hq
  · obtain ⟨its, r, pl, hz⟩ := I.list hq
    refine SeqAt.notIn_listAt (eqU x) pl.isList (fun w hw => mem_eqAt rx fx r fs w (by simpa using hw)) ⟨.bl _, H, I, rfl, ?_⟩
    rw [show its.toArray.any (eqU x) = its.any (eqU x) by simp, any_eqU r fs]
    exact q
  · obtain ⟨its, r, pl, hz⟩ := I.tuple hq
    refine SeqAt.notIn_tupleAt (eqU x) pl (fun w hw => mem_eqAt rx fx r fs w (by simpa using hw)) ⟨.bl _, H, I, rfl, ?_⟩
    rw [show its.toArray.any (eqU x) = its.any (eqU x) by simp, any_eqU r fs]
    exact q
theorem op_notIn_str : OpR X (compareOp .NotIn) (fun x y H Q => ∃ i j, x = .str i ∧ y = .str j ∧ Q (.bl (!(!(Builtin.Str.occurrences j i 0 j.length 1).isEmpty))) H) := by
  intro pins s σ H x y v u Q I rx ry h
  obtain ⟨i, j, rfl, rfl, q⟩ := h
  obtain ⟨t, rfl⟩ := rx
  obtain ⟨t', rfl⟩ := ry
  exact notIn_str ⟨.bl _, H, I, rfl, q⟩

/-! ### len, list(x), tuple(x) of any list or tuple that is read -/
theorem call_len_seq : CallR X (.builtin "len") (fun xs H Q => ∃ p ys, xs = [.ref p] ∧ (SqL X.K H p ys ∨ SqT X.K H p ys) ∧ Q (.int ys.length) H) := by
  intro pins s σ H xs us Q I r h
  obtain ⟨p, ys, rfl, hq, q⟩ := h
  obtain ⟨u, rfl, rx⟩ := vals1 r
  cases rx
  have hn := line63
  rcases hq with hq | hq
  · obtain ⟨its, r', pl, hz⟩ := I.list hq
    have hlen := r'.length
    exact Calls.call_len_list pl.isList (by simp only [List.size_toArray] <;> omega) ⟨.int ys.length, H, I.tok _, ⟨s.toks + 1, by rw [List.size_toArray, hlen]⟩, q⟩
  · obtain ⟨its, r', pl, hz⟩ := I.tuple hq
    have hlen := r'.length
    exact len_tuple pl (by simp only [List.size_toArray] <;> omega) ⟨.int ys.length, H, I.tok _, ⟨s.toks + 1, by rw [List.size_toArray, hlen]⟩, q⟩
theorem call_len_str : CallR X (.builtin "len") (fun xs H Q => ∃ z, xs = [.str z] ∧ z.length ≤ sizeLine ∧ Q (.int z.length) H) := by
  intro pins s σ H xs us Q I r h
  obtain ⟨z, rfl, hz, q⟩ := h
  obtain ⟨u, rfl, t, rfl⟩ := vals1 r
  have hn := line63
  exact len_str (by omega) ⟨.int z.length, H, I.tok _, ⟨_, rfl⟩, q⟩
theorem CallR.or {f : Value} {r r' : List V → Hp → VK → Prop} (h : CallR X f r) (h' : CallR X f r') : CallR X f (fun xs H Q => r xs H Q ∨ r' xs H Q) := by
  intro pins s σ H xs us Q I rs q
  rcases q with q | q
  · exact h pins s σ H xs us Q I rs q
  · exact h' pins s σ H xs us Q I rs q
theorem call_list_of : CallR X (.type "list") (fun xs H Q => ∃ p ys, xs = [.ref p] ∧ (SqL X.K H p ys ∨ SqT X.K H p ys) ∧ ∀ l, H l = none → Q (.ref l) (upd H l (.lst ys))) := by
  intro pins s σ H xs us Q I r h
  obtain ⟨p, ys, rfl, hq, q⟩ := h
  obtain ⟨u, rfl, rx⟩ := vals1 r
  cases rx
  have fin : ∀ (its : List Value), Vals ys its → ys.length ≤ sizeLine → ∀ (h' : Heap) (c' : Nat), (∀ b o', s.heap.get? b = some o' → h'.get? b = some o') →
      h'.get? s.heap.objs.size = some { cls := .type "list", dict := none, data := .seq its.toArray c', slots := #[] } → EP X pins σ Q (.ref s.heap.objs.size) { s with heap := h' } := fun its r' hz h' c' kp e =>
    ⟨.ref s.heap.objs.size, _, I.laid (t' := s.toks) kp (Nat.le_refl _) (show ObjOk X.prog X.w _ h' _ (.lst ys) from ⟨hz, its, c', r', e⟩), rfl, q _ (I.hok.fresh (Nat.le_refl _))⟩
  rcases hq with hq | hq
  · obtain ⟨its, r', pl, hz⟩ := I.list hq
    have hlen := r'.length
    obtain ⟨o, ho, hc, n, hd⟩ := pl.isList
    exact call_list_seq p (.inl rfl) ho hc hd (fun h' c' kp e => fin its r' hz h' c' kp e) (by simp only [List.size_toArray] <;> omega)
  · obtain ⟨its, r', pl, hz⟩ := I.tuple hq
    have hlen := r'.length
    obtain ⟨o, ho, hc, n, hd⟩ := pl
    exact call_list_seq p (.inr rfl) ho hc hd (fun h' c' kp e => fin its r' hz h' c' kp e) (by simp only [List.size_toArray] <;> omega)
theorem call_tuple_of : CallR X (.type "tuple") (fun xs H Q => ∃ p ys, xs = [.ref p] ∧ ((SqL X.K H p ys ∧ ∀ l, H l = none → Q (.ref l) (upd H l (.tup ys))) ∨ (SqT X.K H p ys ∧ Q (.ref p) H))) := by
  intro pins s σ H xs us Q I r h
  obtain ⟨p, ys, rfl, h⟩ := h
  obtain ⟨u, rfl, rx⟩ := vals1 r
  cases rx
  rcases h with ⟨hq, q⟩ | ⟨hq, q⟩
  · obtain ⟨its, r', pl, hz⟩ := I.list hq
    have hlen := r'.length
    refine call_tuple_list pl.isList (fun h' kp => ?_) (by simp only [List.size_toArray] <;> omega)
    have I1 : Inv X pins σ H { s with heap := h' } := I.kept (t' := s.toks) kp
    have I2 : Inv X pins σ (upd H h'.objs.size (.tup ys)) { s with heap := h'.push { cls := .type "tuple", data := .seq its.toArray } } :=
      I1.laid (t' := s.toks) (fun b o e => Heap.get?_push_of_some _ e) (Nat.le_refl _) (show ObjOk X.prog X.w _ _ _ (.tup ys) from ⟨hz, its, r', IsTup.new _ _⟩)
    exact ⟨.ref h'.objs.size, _, I2, rfl, q _ (I1.hok.fresh (Nat.le_refl _))⟩
  · obtain ⟨its, r', pl, hz⟩ := I.tuple hq
    exact call_tuple_same pl ⟨.ref p, H, I, rfl, q⟩

/-! ### the call of a builtin's method: o.m(..) -/
/-- the value is of that builtin type -/
def tyV (K : PySem.W.Frag) (T : String) (x : V) (H : Hp) : Prop := match x with
  | .str _ => T = "str"
  | .int _ => T = "int"
  | .ref p => (T = "list" ∧ ∃ xs, SqL K H p xs) ∨ (T = "tuple" ∧ ∃ o, K.lookup p = some o ∧ o.cls = .type "tuple" ∧ o.dict = none) ∨
      (T = "dict" ∧ ((∃ kvs, H p = some (.dK kvs)) ∨ ∃ kvs, H p = some (.dT kvs))) ∨ (T = "set" ∧ ∃ S n, H p = some (.set S n))
  | _ => False
theorem tyV_is {pins : List (Addr × Obj)} {σ : St} {H : Hp} {s : Shared} {T : String} {x : V} {v : Value} (I : Inv X pins σ H s) (r : RelV x v) (ty : tyV X.K T x H) :
    s.TypeIs v T ∧ ∀ a, v = .ref a → ∃ ob, s.heap.get? a = some ob ∧ ob.dict = none := by
  cases x with
  | str z =>
    obtain ⟨t, rfl⟩ := r
    cases (show T = "str" from ty)
    exact ⟨typeIs_str s z t, fun _ e => nomatch e⟩
  | int i =>
    obtain ⟨t, rfl⟩ := r
    cases (show T = "int" from ty)
    exact ⟨typeIs_int s i t, fun _ e => nomatch e⟩
  | ref p =>
    cases r
    rcases ty with ⟨rfl, xs, hq⟩ | ⟨rfl, o, hk, hc, hd⟩ | ⟨rfl, hk⟩ | ⟨rfl, S, n, hk⟩
    · obtain ⟨its, _, pl, _⟩ := I.list hq
      refine ⟨pl.isList.typeIs, fun a e => ?_⟩
      cases e
      obtain ⟨o, n, e, c, hd, _⟩ := pl
      exact ⟨o, e, hd⟩
    · refine ⟨⟨o, I.kIn p o hk, hc⟩, fun a e => ?_⟩
      cases e
      exact ⟨o, I.kIn _ o hk, hd⟩
    · have z : ∃ o, s.heap.get? p = some o ∧ o.ExactDict := by
        rcases hk with ⟨kvs, hk⟩ | ⟨kvs, hk⟩
        · obtain ⟨_, _, _, _, o, _, _, e, ex, _⟩ := I.hok p _ hk
          exact ⟨o, e, ex⟩
        · obtain ⟨_, _, _, _, o, _, _, e, ex, _⟩ := I.hok p _ hk
          exact ⟨o, e, ex⟩
      obtain ⟨o, e, ex⟩ := z
      refine ⟨⟨o, e, ex.1⟩, fun a e2 => ?_⟩
      cases e2
      exact ⟨o, e, ex.2.1⟩
    · obtain ⟨o, _, _, _, e, ex, _⟩ := I.hok p _ hk
      refine ⟨⟨o, e, ex.1⟩, fun a e2 => ?_⟩
      cases e2
      exact ⟨o, e, ex.2.1⟩
  | _ => exact False.elim ty
def tBM0 (K : PySem.W.Frag) (T : String) (r : V → List V → Hp → VK → Prop) (to : TE) : TE := fun σ H Q => to σ H fun x H1 => tyV K T x H1 ∧ r x [] H1 Q
def tBM (K : PySem.W.Frag) (T : String) (r : V → List V → Hp → VK → Prop) (to : TE) (t : TA) : TE := fun σ H Q => to σ H fun x H1 => tyV K T x H1 ∧ t σ H1 fun xs H2 => r x xs H2 Q
variable {o e : Expr} {es : List Expr} {to : TE} {t : TA} {name : Str} {apos cpos : Pos} {T id : String} {r : V → List V → Hp → VK → Prop}
theorem pe_bm0 (pa : PlainAttrs T) (slot : Slot T name id) (hty : typeOf (.builtin id) = pure (.type "method_descriptor")) (hm : MtR X id r) (ho : PE X o to)
    (hbase : attributeBase o name X.env (eval o X.env) = eval o X.env := by rfl) (hline : (apos.endLine == cpos.line) = true := by rfl) : PE X (.Call (.Attribute o name apos) [] [] cpos) (tBM0 X.K T r to) := by
  intro pins s σ H Q I h
  refine wpAny_Call_method0_late hbase hline (thn (ho pins s σ H _ I h) fun v s1 ⟨x, H1, I1, r1, ty, q1⟩ => ?_)
  obtain ⟨h1, h2⟩ := tyV_is I1 r1 ty
  exact ⟨T, id, pa, slot, hty, h1, h2, Calls.callWith_builtin rfl (PySem.evalArgs_none (hm pins s1 σ H1 x [] v [] Q I1 r1 .nil q1))⟩
theorem pe_bm (pa : PlainAttrs T) (slot : Slot T name id) (hty : typeOf (.builtin id) = pure (.type "method_descriptor")) (hm : MtR X id r) (ho : PE X o to) (ha : PA X (e :: es) t)
    (hbase : attributeBase o name X.env (eval o X.env) = eval o X.env := by rfl)
    (hfew : ((backTo cpos (starEach (e :: es) X.env)).all (fun x => !x.1) && (backToKw cpos (keywordEach [] X.env)).all (fun x => x.1.isSome)
      && decide ((e :: es).length + ([] : List Keyword).length + (if ([] : List Keyword).isEmpty then 0 else 1) < 30)) = true := by rfl)
    (hline : (apos.endLine == cpos.line) = true := by rfl) (hs : starEach (e :: es) X.env = (false, eval e X.env) :: starEach es X.env := by rfl) (hplain : (backTo cpos (starEach es X.env)).any (·.1) = false := by rfl) :
    PE X (.Call (.Attribute o name apos) (e :: es) [] cpos) (tBM X.K T r to t) := by
  intro pins s σ H Q I h
  refine wpAny_Call_method_late hbase hfew hline rfl (thn (ho pins s σ H _ I h) fun v s1 ⟨x, H1, I1, r1, ty, q1⟩ => ?_)
  obtain ⟨h1, h2⟩ := tyV_is I1 r1 ty
  refine ⟨T, id, pa, slot, hty, h1, h2, ?_⟩
  have hA := ha cpos pins s1 σ H1 _ I1 q1
  rw [hs] at hA ⊢
  refine Calls.callWith_builtin (by show (false || (backTo cpos (starEach es X.env)).any (·.1)) = false; rw [hplain] <;> rfl) (Calls.evalArgs_plain ?_)
  exact thn hA fun us s2 ⟨vs, H2, I2, r2, q2⟩ => hm pins s2 σ H2 x vs v us Q I2 r1 r2 q2
/- xs.append(e), list.index on a module's tuple .. are MtR facts of 06m -/
end
end L2

namespace L2
open PySem PySem.Spec PyProof.Rows

def MtM (X : Cx) (id : String) (r : V → List V → Hp → VK → Prop) : Prop :=
  ∀ (pins : List (Addr × Obj)) (s : Shared) (σ : St) (H : Hp) (x : V) (xs : List V) (v : Value) (us : List Value) (Q : VK), Inv X pins σ H s → RelV x v → Vals xs us → r x xs H Q →
    wpAny (model X.prog X.w) X.A (call (.builtin id) (v :: us)) (EP X pins σ Q) X.xe s

/-! ### lists of values -/
theorem Vals.one : ∀ {x : V} {us : List Value}, Vals [x] us → ∃ u, us = [u] ∧ RelV x u
  | _, _, .cons r .nil => ⟨_, rfl, r⟩
theorem Vals.two : ∀ {x y : V} {us : List Value}, Vals [x, y] us → ∃ u v, us = [u, v] ∧ RelV x u ∧ RelV y v
  | _, _, _, .cons r (.cons q .nil) => ⟨_, _, rfl, r, q⟩
theorem Vals.zero : ∀ {us : List Value}, Vals [] us → us = []
  | _, .nil => rfl
theorem Vals.dropLast {xs : List V} {us : List Value} (h : Vals xs us) : Vals xs.dropLast us.dropLast := by
  induction h with
  | nil => exact .nil
  | cons r t ih =>
    cases t with
    | nil => exact .nil
    | cons q t' => exact .cons r ih
theorem Vals.eraseIdx : ∀ {xs : List V} {us : List Value} (i : Nat), Vals xs us → Vals (xs.eraseIdx i) (us.eraseIdx i)
  | _, _, _, .nil => .nil
  | _, _, 0, .cons _ t => t
  | _, _, i + 1, .cons r t => .cons r (Vals.eraseIdx i t)
theorem Vals.reverse {xs : List V} {us : List Value} (h : Vals xs us) : Vals xs.reverse us.reverse := by
  induction h with
  | nil => exact .nil
  | cons r t ih => rw [List.reverse_cons, List.reverse_cons]; exact Vals.append ih (.cons r .nil)
theorem Vals.rep {xs : List V} {us : List Value} (h : Vals xs us) : ∀ k : Nat, Vals (List.replicate k xs).flatten (List.replicate k us).flatten
  | 0 => .nil
  | k + 1 => by
    rw [List.replicate_succ, List.replicate_succ, List.flatten_cons, List.flatten_cons]
    exact Vals.append h (Vals.rep h k)
theorem erase_last {α : Type} (l : List α) : l.eraseIdx (l.length - 1) = l.dropLast := by
  induction l with
  | nil => rfl
  | cons a r ih =>
    cases r with
    | nil => rfl
    | cons b r =>
      have e : (a :: b :: r).length - 1 = ((b :: r).length - 1) + 1 := by
        have h1 : (a :: b :: r).length = r.length + 2 := rfl
        have h2 : (b :: r).length = r.length + 1 := rfl
        omega
      rw [e, List.eraseIdx_cons_succ, ih]
      all_goals rfl
theorem len_erase {α : Type} : ∀ (l : List α) (i : Nat), (l.eraseIdx i).length ≤ l.length
  | [], _ => Nat.le_refl _
  | _ :: _, 0 => Nat.le_succ _
  | _ :: r, i + 1 => Nat.succ_le_succ (len_erase r i)
theorem foldl_rep (its : List Value) : ∀ (k : Nat) (acc : List Value),
    List.foldl (fun x1 x2 => x1 ++ x2) acc.toArray (List.replicate k its.toArray) = (acc ++ (List.replicate k its).flatten).toArray
  | 0, acc => by simp
  | k + 1, acc => by
    have e : acc.toArray ++ its.toArray = (acc ++ its).toArray := by simp
    have e2 : (acc ++ its) ++ (List.replicate k its).flatten = acc ++ (List.replicate (k + 1) its).flatten := by
      rw [List.replicate_succ, List.flatten_cons, List.append_assoc]
    rw [← e2, ← foldl_rep its k (acc ++ its), ← e, List.replicate_succ, List.foldl_cons]

section
variable {X : Cx} {pins : List (Addr × Obj)} {σ : St} {H : Hp} {s : Shared} {l b : Addr} {xs ys zs : List V}

/-! ### the two steps: a tracked list is rewritten, a new list is laid -/
theorem Inv.lset {its its' : List Value} {n : Nat} {f : Array Value → Array Value} {t' : Nat} (I : Inv X pins σ H s) (hH : H l = some (.lst xs))
    (e : s.heap.get? l = some { cls := .type "list", data := .seq its.toArray n }) (hf : f its.toArray = its'.toArray) (hv : Vals ys its') (hz : ys.length ≤ sizeLine) :
    Inv X pins σ (upd H l (.lst ys)) { s with heap := s.heap.update l (Obj.mapSeq f), toks := t' } := by
  have q := PySem.IsL.update e f
  rw [hf] at q
  refine I.write (x := l) (e := l) (by rw [hH]; exact trivial) (.inl rfl) (fun b' u hb hu => (Heap.get?_update_other s.heap (Obj.mapSeq f) (Ne.symm hb)).trans hu) ⟨_, q⟩ ?_
  exact ⟨hz, its', _, hv, q⟩
theorem Inv.lnew {its : List Value} {t' : Nat} (I : Inv X pins σ H s) (hv : Vals ys its) (hz : ys.length ≤ sizeLine) :
    Inv X pins σ (upd H s.heap.objs.size (.lst ys)) { s with heap := s.heap.push { cls := .type "list", data := .seq its.toArray }, toks := t' } :=
  I.laid (fun _ _ q => Heap.get?_push_of_some _ q) (Nat.le_refl _) ⟨hz, its, 0, hv, Heap.get?_push_size _ rfl⟩
theorem Inv.fresh (I : Inv X pins σ H s) : H s.heap.objs.size = none := I.hok.fresh (Nat.le_refl _)
theorem Inv.lstM (I : Inv X pins σ H s) (hH : H l = some (.lst xs)) : xs.length ≤ sizeLine ∧ ∃ (its : List Value) (n : Nat), Vals xs its ∧ xs.length = its.length ∧ s.heap.get? l = some { cls := .type "list", data := .seq its.toArray n } := by
  obtain ⟨z, its, n, r, e⟩ := I.hok l _ hH
  exact ⟨z, its, n, r, r.length, e⟩

theorem notLongL {n : Nat} (h : n ≤ sizeLine) : Builtin.List.listTooLong n = false := by
  unfold Builtin.List.listTooLong
  exact decide_eq_false (by omega)
end

section
variable {X : Cx}

/-! ### methods -/
def rAppend : V → List V → Hp → VK → Prop := fun x vs H Q => ∃ l xs y, x = .ref l ∧ vs = [y] ∧ H l = some (.lst xs) ∧ xs.length < sizeLine ∧ Q .non (upd H l (.lst (xs ++ [y])))
theorem mt_append : MtM X "list.append" rAppend := by
  intro pins s σ H x vs v us Q I rx rv h
  obtain ⟨l, xs, y, rfl, rfl, hH, hz, q⟩ := h
  cases rx
  obtain ⟨u, rfl, ru⟩ := rv.one
  obtain ⟨z, its, n, r, hl, e⟩ := I.lstM hH
  refine call_meets F.slot_list_append ⟨_, e, rfl⟩ F.entry_list_append (F.args_list_append_2 _ _) (PySem.list_append l its.toArray n u (by rw [List.size_toArray]; omega)) ⟨e, ?_⟩
  refine ⟨.non, _, I.lset (its' := its ++ [u]) hH e (by simp) (r.append (.cons ru .nil)) ?_, rfl, q⟩
  rw [List.length_append, List.length_singleton]
  omega

def rExtend : V → List V → Hp → VK → Prop := fun x vs H Q => ∃ l b xs zs, x = .ref l ∧ vs = [.ref b] ∧ H l = some (.lst xs) ∧ H b = some (.lst zs) ∧ xs.length + zs.length ≤ sizeLine ∧ Q .non (upd H l (.lst (xs ++ zs)))
theorem mt_extend : MtM X "list.extend" rExtend := by
  intro pins s σ H x vs v us Q I rx rv h
  obtain ⟨l, b, xs, zs, rfl, rfl, hH, hB, hz, q⟩ := h
  cases rx
  obtain ⟨u, rfl, ru⟩ := rv.one
  cases ru
  obtain ⟨z, its, n, r, hl, e⟩ := I.lstM hH
  obtain ⟨z2, its2, n2, r2, hl2, e2⟩ := I.lstM hB
  have hsz : its.toArray.size + its2.toArray.size ≤ sizeLine := by rw [List.size_toArray, List.size_toArray]; omega
  have hlong : ¬ (!its.toArray.isEmpty && Builtin.List.listTooLong (its.toArray.size + its2.toArray.size)) = true := by
    rw [notLongL hsz, Bool.and_false]
    exact Bool.false_ne_true
  refine call_meets F.slot_list_extend ⟨_, e, rfl⟩ F.entry_list_extend (F.args_list_extend_2 _ _)
    (AutoSeq1.list_extend_list_list_0 l its.toArray n b its2.toArray n2 hlong (by rw [List.size_toArray]; omega) (by omega)) ⟨e, e2, ?_⟩
  refine ⟨.non, _, I.lset (its' := its ++ its2) hH e (by simp) (r.append r2) ?_, rfl, q⟩
  rw [List.length_append]
  omega

def rPop : V → List V → Hp → VK → Prop := fun x vs H Q => ∃ l xs y, x = .ref l ∧ vs = [] ∧ H l = some (.lst xs) ∧ xs[xs.length - 1]? = some y ∧ Q y (upd H l (.lst xs.dropLast))
theorem mt_pop : MtM X "list.pop" rPop := by
  intro pins s σ H x vs v us Q I rx rv h
  obtain ⟨l, xs, y, rfl, rfl, hH, hy, q⟩ := h
  cases rx
  have hus := rv.zero
  subst hus
  obtain ⟨z, its, n, r, hl, e⟩ := I.lstM hH
  obtain ⟨u, hu, ru⟩ := r.get hy
  have hy' : its.toArray[its.toArray.size - 1]? = some u := by
    show its.toArray[its.length - 1]? = some u
    rw [← Array.getElem?_toList, ← hl]
    exact hu
  refine call_meets F.slot_list_pop ⟨_, e, rfl⟩ F.entry_list_pop (F.args_list_pop_1 _) (MeetsSeq.list_pop_last l its.toArray n u hy' (by rw [List.size_toArray]; omega)) ⟨e, ?_⟩
  refine ⟨y, _, I.lset (its' := its.dropLast) hH e ?_ r.dropLast ?_, ru, q⟩
  · show its.toArray.eraseIdxIfInBounds (its.toArray.size - 1) = its.dropLast.toArray
    rw [List.size_toArray, List.eraseIdxIfInBounds_toArray, erase_last]
  · rw [List.length_dropLast]
    omega

def rPopAt : V → List V → Hp → VK → Prop := fun x vs H Q => ∃ l xs i k y, x = .ref l ∧ vs = [.int i] ∧ H l = some (.lst xs) ∧ -(2 ^ 63) ≤ i ∧ i < 2 ^ 63 ∧ seqIndex? i xs.length = some k ∧ xs[k]? = some y ∧ Q y (upd H l (.lst (xs.eraseIdx k)))
theorem mt_popAt : MtM X "list.pop" rPopAt := by
  intro pins s σ H x vs v us Q I rx rv h
  obtain ⟨l, xs, i, k, y, rfl, rfl, hH, h1, h2, hk, hy, q⟩ := h
  cases rx
  obtain ⟨u, rfl, ru⟩ := rv.one
  obtain ⟨t, rfl⟩ := ru
  obtain ⟨z, its, n, r, hl, e⟩ := I.lstM hH
  obtain ⟨w, hw, rw'⟩ := r.get hy
  refine call_meets F.slot_list_pop ⟨_, e, rfl⟩ F.entry_list_pop (F.args_list_pop_2 _ _)
    (MeetsSeq.list_pop_at l its.toArray n i t k w (fitsIndex_both h1 h2) (by rw [List.size_toArray, ← hl]; exact hk) (by rw [← Array.getElem?_toList]; exact hw) (by rw [List.size_toArray]; omega)) ⟨e, ?_⟩
  refine ⟨y, _, I.lset (its' := its.eraseIdx k) hH e ?_ (r.eraseIdx k) ?_, rw', q⟩
  · show its.toArray.eraseIdxIfInBounds k = (its.eraseIdx k).toArray
    rw [List.eraseIdxIfInBounds_toArray]
  · have := len_erase xs k
    omega

def rReverse : V → List V → Hp → VK → Prop := fun x vs H Q => ∃ l xs, x = .ref l ∧ vs = [] ∧ H l = some (.lst xs) ∧ Q .non (upd H l (.lst xs.reverse))
theorem mt_reverse : MtM X "list.reverse" rReverse := by
  intro pins s σ H x vs v us Q I rx rv h
  obtain ⟨l, xs, rfl, rfl, hH, q⟩ := h
  cases rx
  have hus := rv.zero
  subst hus
  obtain ⟨z, its, n, r, hl, e⟩ := I.lstM hH
  refine call_meets F.slot_list_reverse ⟨_, e, rfl⟩ F.entry_list_reverse (F.args_list_reverse_1 _) (AutoSeq1.list_reverse_list_0 l its.toArray n (by rw [List.size_toArray]; omega)) ⟨e, ?_⟩
  refine ⟨.non, _, I.lset (its' := its.reverse) hH e (by simp) r.reverse ?_, rfl, q⟩
  rw [List.length_reverse]
  omega

def rClear : V → List V → Hp → VK → Prop := fun x vs H Q => ∃ l xs, x = .ref l ∧ vs = [] ∧ H l = some (.lst xs) ∧ Q .non (upd H l (.lst []))
theorem mt_clear : MtM X "list.clear" rClear := by
  intro pins s σ H x vs v us Q I rx rv h
  obtain ⟨l, xs, rfl, rfl, hH, q⟩ := h
  cases rx
  have hus := rv.zero
  subst hus
  obtain ⟨z, its, n, r, hl, e⟩ := I.lstM hH
  refine call_meets F.slot_list_clear ⟨_, e, rfl⟩ F.entry_list_clear (F.args_list_clear_1 _) (AutoSeq1.list_clear_list_0 l its.toArray n (by rw [List.size_toArray]; omega)) ⟨e, ?_⟩
  exact ⟨.non, _, I.lset (its' := []) (ys := []) hH e rfl .nil (Nat.zero_le _), rfl, q⟩

/-! ### list + list, list += list, list * int -/
def rCat : R2 := fun x y H Q => ∃ l b xs zs, x = .ref l ∧ y = .ref b ∧ H l = some (.lst xs) ∧ H b = some (.lst zs) ∧ xs.length + zs.length ≤ sizeLine ∧ ∀ p, H p = none → Q (.ref p) (upd H p (.lst (xs ++ zs)))
theorem op_cat : OpR X (binaryOp .Add) rCat := by
  intro pins s σ H x y v u Q I rx ry h
  obtain ⟨l, b, xs, zs, rfl, rfl, hH, hB, hz, q⟩ := h
  cases rx
  cases ry
  obtain ⟨z, its, n, r, hl, e⟩ := I.lstM hH
  obtain ⟨z2, its2, n2, r2, hl2, e2⟩ := I.lstM hB
  refine PySem.P.add_list e e2 ?_ (by rw [List.size_toArray, List.size_toArray]; omega)
  have ea : its.toArray ++ its2.toArray = (its ++ its2).toArray := by simp
  rw [ea]
  exact ⟨.ref _, _, I.lnew (t' := s.toks) (r.append r2) (by rw [List.length_append]; omega), rfl, q _ I.fresh⟩
/-- a list times an int (a negative one is nothing) -/
def rRep : R2 := fun x y H Q => ∃ l k xs, x = .ref l ∧ y = .int k ∧ H l = some (.lst xs) ∧ -(2 ^ 63) ≤ k ∧ k < 2 ^ 63 ∧ xs.length * k.toNat ≤ sizeLine ∧
  ∀ p, H p = none → Q (.ref p) (upd H p (.lst (List.replicate k.toNat xs).flatten))
theorem len_rep {α : Type} (xs : List α) (k : Nat) : (List.replicate k xs).flatten.length = k * xs.length := by
  induction k with
  | zero => simp
  | succ k ih => rw [List.replicate_succ, List.flatten_cons, List.length_append, ih, Nat.succ_mul, Nat.add_comm]
theorem op_rep : OpR X (binaryOp .Mult) rRep := by
  intro pins s σ H x y v u Q I rx ry h
  obtain ⟨l, k, xs, rfl, rfl, hH, h1, h2, hz, q⟩ := h
  cases rx
  obtain ⟨t, rfl⟩ := ry
  obtain ⟨z, its, n, r, hl, e⟩ := I.lstM hH
  have hlen : its.toArray.size * k.toNat ≤ sizeLine := by rw [List.size_toArray, ← hl]; exact hz
  have hcap : ¬ its.toArray.size * k.toNat > (2 ^ 63 - 1) / 8 := by
    have : (sizeLine : Nat) ≤ (2 ^ 63 - 1) / 8 := by decide
    omega
  have hfit : ¬ (!Builtin.List.listFitsIndex k) = true := by
    rw [fitsIndex_both h1 h2]
    exact Bool.false_ne_true
  have hlong : ¬ Builtin.List.listTooLong (its.toArray.size * k.toNat) = true := by
    rw [notLongL hlen]
    exact Bool.false_ne_true
  have hnew : List.foldl (fun x1 x2 => x1 ++ x2) #[] (List.replicate (if its.toArray.isEmpty = true then 0 else k.toNat) its.toArray) = (List.replicate k.toNat its).flatten.toArray := by
    have f0 : ∀ m : Nat, List.foldl (fun x1 x2 => x1 ++ x2) #[] (List.replicate m its.toArray) = (List.replicate m its).flatten.toArray := fun m => by
      have := foldl_rep its m []
      rw [List.nil_append] at this
      exact this
    rw [f0]
    cases its with
    | nil => simp
    | cons a r' => rw [if_neg (by simp)]
  refine wpAny_binaryOp_repeat_ref (T := "list") (U := "int") (by decide) ⟨_, e, rfl⟩ (fun s' => typeIs_int s' k t) noFill_list_mul F.fills_int_mul F.slot_int_rmul repeat_list F.slot_int_index.lookup
    (call_meets F.slot_int_rmul (typeIs_int s k t) F.entry_int_rmul (F.args_int_rmul_2 _ _) (int___rmul___int_list k t l its.toArray n)
      ⟨e, rfl, ⟨_, e, rfl⟩, call_meets F.slot_list_mul ⟨_, e, rfl⟩ F.entry_list_mul (F.args_list_mul_2 _ _) (AutoListH.list___mul___list_int_3 l its.toArray n k t hfit hcap hlong) ⟨e, ?_⟩⟩)
  rw [hnew]
  exact ⟨.ref _, _, I.lnew (t' := s.toks) (r.rep k.toNat) (by rw [len_rep, Nat.mul_comm]; exact hz), rfl, q _ I.fresh⟩

/-! ### del xs[i] -/
theorem del_list {pins : List (Addr × Obj)} {s : Shared} {σ : St} {H : Hp} {l : Addr} {xs : List V} {i : Int} {t : Tok} {k : Nat} {Q : Unit → Shared → Prop} (I : Inv X pins σ H s) (hH : H l = some (.lst xs))
    (h1 : -(2 ^ 63) ≤ i) (h2 : i < 2 ^ 63) (hk : seqIndex? i xs.length = some k) (h : ∀ s', Inv X pins σ (upd H l (.lst (xs.eraseIdx k))) s' → Q () s') :
    wpAny (model X.prog X.w) X.A (delItem (.ref l) (.int i t)) Q X.xe s := by
  obtain ⟨z, its, n, r, hl, e⟩ := I.lstM hH
  refine PySem.P.delItem_list (k := k) e (fitsIndex_both h1 h2) (by rw [List.size_toArray, ← hl]; exact hk) (h _ ?_) (by rw [List.size_toArray]; omega)
  refine I.lset (its' := its.eraseIdx k) (t' := s.toks) hH e ?_ (r.eraseIdx k) ?_
  · show its.toArray.eraseIdxIfInBounds k = (its.eraseIdx k).toArray
    rw [List.eraseIdxIfInBounds_toArray]
  · have := len_erase xs k
    omega
end

/-! ### xs[a:b] = ys -/
section
variable {prog : Program} {w : World} {A : Around} {E : Value → Shared → Prop} {s : Shared}
theorem splice_eq (its its2 : List Value) (a c : Nat) : its.toArray.extract 0 a ++ its2.toArray ++ its.toArray.extract c its.toArray.size = (its.take a ++ its2 ++ its.drop c).toArray := by
  apply Array.toList_inj.mp
  first
    | (simp
       exact List.take_of_length_le (by simp))
    | simp [List.take_of_length_le]
    | simp
theorem bounds_run {a c n : Nat} (hac : a ≤ c) (hc : c ≤ n) : sliceBounds (some (a : Int)) (some (c : Int)) none n = ((a : Int), (c : Int), 1) := by
  simp only [sliceBounds, Option.getD_none]
  have h1 : ¬ ((a : Int) < 0) := by omega
  have h2 : ¬ ((c : Int) < 0) := by omega
  simp only [h1, h2, if_false, show (1 : Int) > 0 by decide, if_true]
  congr 1
  · omega
  · congr 1; omega
set_option maxRecDepth 100000 in
/-- list.__setitem__ with a slice of step one and another list -/
theorem setItem_slice {l b sl : Addr} {items new : Array Value} {n n2 : Nat} {vl vu : Value} {a c : Nat} {Q : Unit → Shared → Prop}
    (e : s.heap.get? l = some { cls := .type "list", data := .seq items n }) (e2 : s.heap.get? b = some { cls := .type "list", data := .seq new n2 }) (hne : l ≠ b)
    (hs : s.heap.IsSliceOf sl vl vu .none) (pl : IsPart vl (some (a : Int))) (pu : IsPart vu (some (c : Int))) (hac : a ≤ c) (hc : c ≤ items.size)
    (hsz : items.size + new.size ≤ sizeLine) (h : Q () { s with heap := s.heap.update l (Obj.mapSeq fun xs => xs.extract 0 a ++ new ++ xs.extract c xs.size) }) :
    wpAny (model prog w) A (setItem (.ref l) (.ref sl) (.ref b)) Q E s := by
  have hl : s.heap.IsList l items := PySem.IsL.isList e
  have hb : s.heap.IsList b new := PySem.IsL.isList e2
  obtain ⟨os, hos, hcs, hds⟩ := id hs
  have hTs : s.TypeIs (.ref sl) "slice" := ⟨os, hos, hcs⟩
  have hstep : ¬ ((rawPart none == rawInt 0) = true) := Bool.false_ne_true
  have hsame : Builtin.List.listSameRef (.ref l) (.ref b) = false := by
    unfold Builtin.List.listSameRef
    exact beq_eq_false_iff_ne.mpr hne
  have hmax : (max (a : Int) (c : Int)).toNat = c := by omega
  have hz' : ((fun xs : Array Value => xs.extract 0 a ++ new ++ xs.extract c xs.size) items).size ≤ sizeLine + 1 := by
    simp only [Array.size_append, Array.size_extract]
    omega
  unfold setItem
  try with_reducible refine wpAny_holding ?_
  first | refine wpAny_bind (wpAny_pure ?_) | skip
  refine wpAny_bind (wpAny_sequenceKey hl.typeIs (by decide) ?_)
  refine wpAny_bind (wpAny_callSpecial?_slot (name := Str.ofString "__setitem__") hl.typeIs slot_list_setitem
    (wpAny_call_entry slot_list_setitem hl.typeIs entry_list_setitem ?_ (args_list_setitem _ _ _)))
  show wpAny _ _ (Builtin.List.listSubscript? (.ref sl) >>= _) _ _ s
  refine wpAny_bind ?_
  unfold Builtin.List.listSubscript?
  refine wpAny_bind (wpAny_specialOf hTs slice_no_index ?_)
  simp only [Option.isNone_none, if_true]
  refine wpAny_pure ?_
  show wpAny _ _ (typeOf (.ref sl) >>= _) _ _ s
  refine wpAny_bind (wpAny_typeOf hTs ?_)
  first
    | rw [if_neg (by decide)]
    | refine PySem.W.KFB.if_not (by decide) ?_
  rw [listSliceParts_eq]
  refine wpAny_bind (wpAny_bind (wpAny_field hos hds (x := .none) rfl (wpAny_bind (wpAny_listPart .none ?_))))
  rw [if_neg hstep]
  refine wpAny_bind (wpAny_field hos hds (x := vl) rfl (wpAny_bind (wpAny_listPart pl ?_)))
  refine wpAny_bind (wpAny_field hos hds (x := vu) rfl (wpAny_bind (wpAny_listPart pu (wpAny_pure ?_))))
  first
    | simp only [hsame, Bool.false_eq_true, if_false]
    | refine PySem.W.KFB.if_not hsame ?_
    | (dsimp only
       rw [if_neg (by rw [hsame]; exact Bool.false_ne_true)])
  refine wpAny_bind (m := Builtin.List.listAllItems (.ref b) "must assign iterable to extended slice") ?_
  unfold Builtin.List.listAllItems
  refine wpAny_bind (wpAny_typeOf hb.typeIs ?_)
  first
    | refine PySem.W.KFB.if_so (by decide) ?_
    | rw [if_pos (by decide)]
    | simp only [beq_self_eq_true, Bool.true_or, if_true]
  unfold Builtin.List.listItems
  refine wpAny_bind (wpAny_seqItems e2 rfl (wpAny_pure ?_))
  refine wpAny_bind (wpAny_bind (wpAny_seqItems e rfl (wpAny_pure ?_)))
  refine wpAny_bind (wpAny_of_eq ((sliceIndices_raw (some (a : Int)) (some (c : Int)) none items.size (by simp)).trans (congrArg (pure : Int × Int × Int → Sem (Int × Int × Int)) (bounds_run hac hc))) ?_)
  show wpAny _ _ (if ((1 : Int) == 1) = true then _ else _) _ _ s
  rw [if_pos (by decide)]
  refine wpAny_bind (wpAny_rule ?_)
  first
    | simp only [notLongL hsz, Bool.false_eq_true, if_false]
    | refine PySem.W.KFB.if_not (notLongL hsz) ?_
  first | refine wpAny_bind (wpAny_pure ?_) | skip
  show wpAny _ _ (updateSeq l (fun xs => xs.extract 0 ((a : Int)).toNat ++ new ++ xs.extract (max (a : Int) (c : Int)).toNat xs.size) >>= _) _ _ s
  rw [hmax, Int.toNat_natCast]
  refine wpAny_bind (wpAny_updateSeq (hz := Nat.le_trans (Nat.le_add_right _ _) hsz) (_hz' := hz') e rfl ?_)
  refine wpAny_bind (wpAny_letGo ?_)
  first
    | exact wpAny_bind (wpAny_pure (wpAny_pure ⟨.none, rfl, wpAny_pure h⟩))
    | exact wpAny_pure ⟨.none, rfl, wpAny_pure h⟩
end

section
variable {X : Cx}
/-- xs[a:c] = ys of another list, at the value level: sl is the slice object that was just made -/
theorem set_slice {pins : List (Addr × Obj)} {s : Shared} {σ : St} {H : Hp} {l b sl : Addr} {xs ys : List V} {a c : Int} {vl vu : Value} {Q : Unit → Shared → Prop} (I : Inv X pins σ H s)
    (hH : H l = some (.lst xs)) (hB : H b = some (.lst ys)) (hne : l ≠ b) (hs : s.heap.IsSliceOf sl vl vu .none) (ra : RelV (.int a) vl) (rc : RelV (.int c) vu) (h0 : 0 ≤ a) (hac : a ≤ c) (hc : c ≤ xs.length)
    (hz : xs.length + ys.length ≤ sizeLine) (h : ∀ s', Inv X pins σ (upd H l (.lst (xs.take a.toNat ++ ys ++ xs.drop c.toNat))) s' → Q () s') :
    wpAny (model X.prog X.w) X.A (setItem (.ref l) (.ref sl) (.ref b)) Q X.xe s := by
  obtain ⟨ta, rfl⟩ := ra
  obtain ⟨tc, rfl⟩ := rc
  obtain ⟨z, its, n, r, hl, e⟩ := I.lstM hH
  obtain ⟨z2, its2, n2, r2, hl2, e2⟩ := I.lstM hB
  obtain ⟨a', rfl⟩ := Int.eq_ofNat_of_zero_le h0
  obtain ⟨c', rfl⟩ := Int.eq_ofNat_of_zero_le (Int.le_trans h0 hac)
  simp only [Int.toNat_natCast] at h
  refine setItem_slice (a := a') (c := c') e e2 hne hs (.int _ _) (.int _ _) (by omega) (by rw [List.size_toArray]; omega) (by rw [List.size_toArray, List.size_toArray]; omega) (h _ ?_)
  refine I.lset (its' := its.take a' ++ its2 ++ its.drop c') (t' := s.toks) hH e ?_ (Vals.append (Vals.append (r.take _) r2) (r.drop _)) ?_
  · exact splice_eq its its2 a' c'
  · rw [List.length_append, List.length_append, List.length_take, List.length_drop]
    omega
end
end L2

namespace Att
open PySem PySem.W PySem.Calls PyProof.Rows

/-! ### the script -/
theorem ints_of_wellAll {P : Params} {h : Heap} : ∀ (ns : List Int) (vs : List Value), WellAll P h vs (ns.map WData.int) → IntsAre vs ns := by
  intro ns
  induction ns with
  | nil =>
    intro vs w
    rw [List.map_nil] at w
    cases w
    exact .nil
  | cons n ns ih =>
    intro vs w
    rw [List.map_cons] at w
    cases w with
    | cons a b =>
      cases a
      exact .cons _ _ (ih _ b)

theorem script_of {l : OpenLaw} {n : Nat} (hn : l.most = some n) {P : Params} {h : Heap} {args : List WData} {vals : List Value}
    (hpre : l.row.toRowW.claim.pre args = true) (hwl : WellAll P h vals args) :
    ∃ a vs ns, vals = [Value.ref a] ∧ args = [WData.list (ns.map WData.int)] ∧ h.get? a = some { cls := .type "list", data := .seq vs.toArray } ∧ IntsAre vs ns ∧ ns.length ≤ n := by
  have hsh : WShape.hasAll [] args [.list .int] = true := (pre_splitW hpre).1
  have hc : l.pre.holds [] { args := args } = true := (pre_splitW hpre).2
  obtain ⟨d, r, rfl, h1, h2⟩ := hasAllW_cons hsh
  obtain rfl := hasAllW_nil h2
  obtain ⟨xs, rfl, h3⟩ := hasW_list h1
  obtain ⟨ns, rfl⟩ := items_int h3
  have hlen : ns.length ≤ n := by
    unfold OpenLaw.pre at hc
    have h4 : (WTm.not (.lt (.lit (.int (n : Int))) (.len (.arg 0)))).holds [] { args := [.list (ns.map .int)] } = true := by
      have h4 := (holds_andW hc).1
      rw [hn] at h4
      exact h4
    have h5 := condW_of h4 (w_not (w_lt w_lit (w_len_list (w_arg rfl))))
    rw [List.length_map] at h5
    refine Nat.le_of_not_lt fun q => ?_
    have q' : (n : Int) < ((ns.length : Nat) : Int) := by omega
    first
      | (rw [decide_eq_true q'] at h5; exact absurd h5 (by decide))
      | (simp at h5; omega)
  cases hwl with
  | cons w1 w2 =>
    cases w2
    cases w1 with
    | list ho hall => exact ⟨_, _, ns, rfl, rfl, ho, ints_of_wellAll ns _ hall, hlen⟩

theorem post_true (l : OpenLaw) (args : List WData) : l.row.toRowW.claim.post args (.bool true) args = true :=
  postW_of (r := l.row.toRowW) (X := (true == true))
    (show WShape.has [] (.bool true) .bool = true by first | rfl | decide | simp [WShape.has, WShape.arms, WShape.armsAll])
    (show (WTm.eq .res (.lit (.bool true))).value [] { args := args, res := some (.bool true), after := args } = some (.bool (true == true)) from w_eq_bool (w_res rfl) w_lit) rfl

/-! ### the attachment: holds_open's last premise (the goal 'hc' behind k_head) from a wpAny of the law's body -/
theorem attach {l : OpenLaw} {n : Nat} {q : Program} {loose : List Str} {XP : (Str → Option Value) → Heap → Prop} {YP : World → Heap → Prop} {d : DefRec} {x : Str}
    (hn : l.most = some n) (hdf : d.params.defaults = [])
    (hbind : ∀ pm cd doc v : Value, bindArgs (docDef d.name d.params d.body d.scope pm cd doc) ⟨[v], []⟩ = pure [(x, v)])
    (hx : d.scope.names.lookup x = some .local ∨ d.scope.names.lookup x = some .cell)
    (hk : d.scope.kind = .function) (hco : d.scope.isCoroutine = false) (hgen : d.scope.isGenerator = false)
    (body : ∀ (w : World) (s₀ s₁ s : Shared) (mg mb : Str → Option Value) (fa : Addr) (o : Obj) (pm cd doc : Value) (a : Addr) (vs : List Value) (ns : List Int),
      Ground q loose [] XP w s₀ mg mb s₁.heap → YP w s₁.heap →
      s₁.heap.get? fa = some o → o.data = .func (docDef d.name d.params d.body d.scope pm cd doc) → s₁.heap.CodeRec cd d.name → mg d.name = some (.ref fa) →
      s₁.heap.get? a = some { cls := .type "list", data := .seq vs.toArray } → IntsAre vs ns → ns.length ≤ n →
      s.gens = #[] → s.os = s₁.os →
      Fr s₁.heap s₁.heap.objs.size s.heap (bindL (envOfC d.name d.scope s₁.heap.objs.size fa cd).kindOf [(x, .ref a)] fun _ => none) →
      Cl s₁.heap.objs.size (cellsFrom (s₁.heap.objs.size + 1) d.scope.names []) s.heap (bindC (envOfC d.name d.scope s₁.heap.objs.size fa cd).kindOf [(x, .ref a)] fun _ => none) →
      wpAny (model l.prog w) (callerA.deeper (envOfC d.name d.scope s₁.heap.objs.size fa cd)) (execs d.body (envOfC d.name d.scope s₁.heap.objs.size fa cd))
        (fun f s' => f = .ret (.bool true) ∧ OldK s₁.heap s'.heap ∧ s'.os = s₁.os ∧ AllBare s'.gens) (fun _ _ => False) s) :
    WalkO q loose XP YP l.row.toRowW d [] (fun f vs => PySem.call f vs) := by
  intro w s₀ s₁ mg mb G Y fa o pm cd doc dV kV ho hd hcd hD hmg hg args vals as hpre hlay hrd hwl hlo
  obtain rfl : dV = .none := Dflts.none hD hdf
  obtain rfl : kV = .none := Dflts.noKw hD
  obtain ⟨a, vs, ns, rfl, rfl, hobj, hints, hlen⟩ := script_of hn hpre hwl
  refine enter_call ?_
  refine call_cells_ret (o := o) (by rw [depth_caller]; decide) ho (fd_plain hd) G.T.nolimit hcd (hbind pm cd doc (.ref a)) (fun y hy => ?_) (fun h₁ tk F X => ?_) hco hgen hk
  · obtain rfl : y = (x, Value.ref a) := List.mem_singleton.mp hy
    rcases hx with e | e
    · exact .inl e
    · exact .inr ⟨e, cellsFrom_some _ _ _ (.inl e)⟩
  · refine wpAny_mono (body w s₀ s₁ { s₁ with heap := h₁, toks := tk } mg mb fa o pm cd doc a vs ns G Y ho (fd_plain hd) hcd hmg hobj hints hlen hg rfl F X) (fun f s' hq => ?_) (fun _ _ hq => hq)
    obtain ⟨rfl, h2, h3, h4⟩ := hq
    exact ⟨.inl ⟨.bool true, .bool true, [], rfl, fun _ => rfl, .bool true, post_true l _, fun _ => ⟨List.Pairwise.nil, fun _ hm => (nomatch hm)⟩⟩, h2, h3, h4⟩

/-- the same from a codeAny of the CALL (for a layer whose function contracts speak of calls) -/
theorem attach_call {l : OpenLaw} {n : Nat} {q : Program} {loose : List Str} {XP : (Str → Option Value) → Heap → Prop} {YP : World → Heap → Prop} {d : DefRec}
    (hn : l.most = some n) (hdf : d.params.defaults = [])
    (call : ∀ (w : World) (s₀ s₁ : Shared) (mg mb : Str → Option Value) (fa : Addr) (o : Obj) (pm cd doc : Value) (a : Addr) (vs : List Value) (ns : List Int),
      Ground q loose [] XP w s₀ mg mb s₁.heap → YP w s₁.heap →
      s₁.heap.get? fa = some o → o.data = .func (docDef d.name d.params d.body d.scope pm cd doc) → s₁.heap.CodeRec cd d.name → mg d.name = some (.ref fa) →
      s₁.heap.get? a = some { cls := .type "list", data := .seq vs.toArray } → IntsAre vs ns → ns.length ≤ n → s₁.gens = #[] →
      codeAny (model l.prog w) callerA (.call (.ref fa) ⟨[.ref a], []⟩) (fun r s' => r = .ok (.ret (.bool true)) ∧ OldK s₁.heap s'.heap ∧ s'.os = s₁.os ∧ AllBare s'.gens) s₁) :
    WalkO q loose XP YP l.row.toRowW d [] (fun f vs => PySem.call f vs) := by
  intro w s₀ s₁ mg mb G Y fa o pm cd doc dV kV ho hd hcd hD hmg hg args vals as hpre hlay hrd hwl hlo
  obtain rfl : dV = .none := Dflts.none hD hdf
  obtain rfl : kV = .none := Dflts.noKw hD
  obtain ⟨a, vs, ns, rfl, rfl, hobj, hints, hlen⟩ := script_of hn hpre hwl
  refine enter_call (codeAny_mono (call w s₀ s₁ mg mb fa o pm cd doc a vs ns G Y ho (fd_plain hd) hcd hmg hobj hints hlen hg) fun r s' hq => ?_)
  obtain ⟨rfl, h2, h3, h4⟩ := hq
  exact ⟨.inl ⟨.bool true, .bool true, [], rfl, fun _ => rfl, .bool true, post_true l _, fun _ => ⟨List.Pairwise.nil, fun _ hm => (nomatch hm)⟩⟩, h2, h3, h4⟩

/-- the same where the top left finished generators (o_head chose holds_openN): nothing may have changed at all and no generator may be left -/
theorem attachN {l : OpenLaw} {n : Nat} {q : Program} {loose : List Str} {XP : (Str → Option Value) → Heap → Prop} {YP : World → Heap → Prop} {d : DefRec} {x : Str}
    (hn : l.most = some n) (hdf : d.params.defaults = [])
    (hbind : ∀ pm cd doc v : Value, bindArgs (docDef d.name d.params d.body d.scope pm cd doc) ⟨[v], []⟩ = pure [(x, v)])
    (hx : d.scope.names.lookup x = some .local ∨ d.scope.names.lookup x = some .cell)
    (hk : d.scope.kind = .function) (hco : d.scope.isCoroutine = false) (hgen : d.scope.isGenerator = false)
    (body : ∀ (w : World) (s₀ s₁ s : Shared) (mg mb : Str → Option Value) (fa : Addr) (o : Obj) (pm cd doc : Value) (a : Addr) (vs : List Value) (ns : List Int),
      Ground q loose [] XP w s₀ mg mb s₁.heap → YP w s₁.heap →
      s₁.heap.get? fa = some o → o.data = .func (docDef d.name d.params d.body d.scope pm cd doc) → s₁.heap.CodeRec cd d.name → mg d.name = some (.ref fa) →
      s₁.heap.get? a = some { cls := .type "list", data := .seq vs.toArray } → IntsAre vs ns → ns.length ≤ n →
      s.gens = #[] → s.os = s₁.os →
      Fr s₁.heap s₁.heap.objs.size s.heap (bindL (envOfC d.name d.scope s₁.heap.objs.size fa cd).kindOf [(x, .ref a)] fun _ => none) →
      Cl s₁.heap.objs.size (cellsFrom (s₁.heap.objs.size + 1) d.scope.names []) s.heap (bindC (envOfC d.name d.scope s₁.heap.objs.size fa cd).kindOf [(x, .ref a)] fun _ => none) →
      wpAny (model l.prog w) (callerA.deeper (envOfC d.name d.scope s₁.heap.objs.size fa cd)) (execs d.body (envOfC d.name d.scope s₁.heap.objs.size fa cd))
        (fun f s' => f = .ret (.bool true) ∧ (∀ b o, s₁.heap.get? b = some o → s'.heap.get? b = some o) ∧ s'.os = s₁.os ∧ s'.gens = #[]) (fun _ _ => False) s) :
    WalkN q loose XP YP l.row.toRowW d [] (fun f vs => PySem.call f vs) := by
  intro w s₀ s₁ mg mb G Y fa o pm cd doc dV kV ho hd hcd hD hmg hg args vals as hpre hlay hrd hwl hlo
  obtain rfl : dV = .none := Dflts.none hD hdf
  obtain rfl : kV = .none := Dflts.noKw hD
  obtain ⟨a, vs, ns, rfl, rfl, hobj, hints, hlen⟩ := script_of hn hpre hwl
  refine enter_callW ?_
  refine call_cells_ret (o := o) (by rw [depth_caller]; decide) ho (fd_plain hd) G.T.nolimit hcd (hbind pm cd doc (.ref a)) (fun y hy => ?_) (fun h₁ tk F X => ?_) hco hgen hk
  · obtain rfl : y = (x, Value.ref a) := List.mem_singleton.mp hy
    rcases hx with e | e
    · exact .inl e
    · exact .inr ⟨e, cellsFrom_some _ _ _ (.inl e)⟩
  · refine wpAny_mono (body w s₀ s₁ { s₁ with heap := h₁, toks := tk } mg mb fa o pm cd doc a vs ns G Y ho (fd_plain hd) hcd hmg hobj hints hlen hg rfl F X) (fun f s' hq => ?_) (fun _ _ hq => hq)
    obtain ⟨rfl, h2, h3, h4⟩ := hq
    exact ⟨.inl ⟨.bool true, .bool true, [], rfl, fun _ => rfl, .bool true, post_true l _, fun _ => ⟨List.Pairwise.nil, fun _ hm => (nomatch hm)⟩⟩, h2, h3, h4⟩

/-! ### rules over ANY heap (no ledger) from facts about the written part K: the library's own take a ledger (News) for what they write -/
section
variable {prog : Program} {w : World} {A : Around} {E : Value → Shared → Prop} {s : Shared} {K : Frag}

/-- a def of the module, or a method (qual 'C.m'), entered: the frame is the next address; cells behind it -/
theorem call_fn {R : Result → Shared → Prop} {name qual : Str} {params : Arguments} {body : List Stmt} {scope : Scope} {dV kV doc pm cdv ct oc : Value} {an od : Option Addr} {osl : Array (Option Value)} {f : Addr} {args : Args} {binds : List (Str × Value)}
    (X : K.In s.heap) (hlim : s.heap.NoLimit) (ho : K.lookup f = some ⟨oc, od, .func (fnOf name qual params body scope dV kV doc pm an cdv ct), osl⟩) (hcd : codeIn K cdv qual = true) (hroom : A.depth < recursionLimit)
    (hbind : BindsTo s (fnOf name qual params body scope dV kV doc pm an cdv ct) args binds)
    (hkind : (binds.all fun y => scope.names.lookup y.1 == some .local || scope.names.lookup y.1 == some .cell) = true)
    (h : ∀ s₁, InCallC s s.heap.objs.size (bindL (envOfC qual scope s.heap.objs.size f cdv).kindOf binds fun _ => none) (cellsFrom (s.heap.objs.size + 1) scope.names [])
        (bindC (envOfC qual scope s.heap.objs.size f cdv).kindOf binds fun _ => none) s₁ →
      wpAny (model prog w) (A.deeper (envOfC qual scope s.heap.objs.size f cdv)) (execs body (envOfC qual scope s.heap.objs.size f cdv))
        (fun fl s' => R (.ok (.ret (match fl with | .ret v => v | _ => .none))) s')
        (fun e s' => wpAny (model prog w) (A.deeper (envOfC qual scope s.heap.objs.size f cdv)) (leaving (envOfC qual scope s.heap.objs.size f cdv) e) (fun _ s'' => R (.error e) s'') (fun e' s'' => R (.error e') s'') s') s₁)
    (hco : scope.isCoroutine = false) (hgen : scope.isGenerator = false) (hk : scope.kind = .function) : codeAny (model prog w) A (.call (.ref f) args) R s := by
  refine codeAny_call_function hroom (X _ _ ho) rfl hco hgen rfl (codeRec_of X hcd) (hbind _ _ _ _ ?_)
  refine wpAny_newFunctionEnv_cells hk (kindsX hkind _) fun env he s₁ x => ?_
  subst he
  exact ⟨hlim.keeps x.toInCall.keep, codeAny_func (h s₁ x)⟩

/-- C(..): dict at size, instance at size + 1, then __init__ -/
theorem make_obj {R : Result → Shared → Prop} {C fI : Addr} {rest : List Value} {kw : List (Str × Value)}
    (X : K.In s.heap) (hm : makesIn K C = true) (hi : findIn K (.ref C) "__init__" = some (some (.ref fI))) (hf : isFn K (.ref fI) = true)
    (h : codeAny (model prog w) (A.under (.builtin "type.__call__" ⟨.ref C :: rest, kw⟩)) (.call (.ref fI) ⟨.ref (s.heap.objs.size + 1) :: rest, kw⟩) (InitBack (s.heap.objs.size + 1) R)
      { s with heap := (s.heap.push emptyDict).push (instObj C s.heap.objs.size) }) : codeAny (model prog w) A (.call (.ref C) ⟨rest, kw⟩) R s := by
  obtain ⟨hh, g, d, t, os⟩ := s
  exact make_core (makes_of X hm) (looks_findIn X hi) (fun self => bind_fn X self (beq_iff_eq.mp hf)) (.inl rfl) h

/-- x.name where the instance's dict holds the name and the class does not -/
theorem get_field {x C : Addr} {ox : Obj} {es : List DictEntry} {n : Nat} {name : Str} {expr : Bool} {v : Value} {Q : Value → Shared → Prop}
    (X : K.In s.heap) (I : PySem.W.InstAt s.heap x ox C (some (dictOf es n))) (hg : plainGet K C name = true) (hh : hasDictIn K C = true) (ha : findIn K (.ref C) name = some none)
    (hl : getL name es = some (some v)) (hv : handedIn v = true) (h : Q v { s with toks := s.toks + 1 }) : wpAny (model prog w) A (getAttr (.ref x) name expr) Q E s :=
  get_value X I (plainGet_of hg).1 (findObj_own hh ha rfl hl) hv h

/-- x.m(..): the method found in the class -/
theorem get_method {x C f : Addr} {ox : Obj} {es : List DictEntry} {n : Nat} {name : Str} {pl : Sem Bool} {Q : Value × List Value → Shared → Prop}
    (X : K.In s.heap) (I : PySem.W.InstAt s.heap x ox C (some (dictOf es n))) (hg : plainGet K C name = true) (hf : findIn K (.ref C) name = some (some (.ref f))) (ht : isFn K (.ref f) = true)
    (hl : getL name es = some none) (h : Q (.ref f, [.ref x]) s) : wpAny (model prog w) A (getMethod (.ref x) name pl) Q E s :=
  method_fn X I (plainGet_of hg).1 (plainGet_of hg).2 hf (beq_iff_eq.mp ht) (by show (lookIn name (dictOf es n)).map _ = _; rw [lookIn_dict, hl]; rfl) h

/-! the whole heap as the ledger: makes every rule that writes through a ledger a rule over any heap -/
def noObjs (h : Heap) : Heap := { h with objs := #[] }
theorem noObjs_get (h : Heap) (b : Addr) : (noObjs h).get? b = none := by
  cases e : (noObjs h).get? b with
  | none => rfl
  | some o => exact absurd (Heap.lt_size e) (Nat.not_lt_zero _)
def ledger (h : Heap) (L d : Addr) : List (Addr × Obj) := (List.range h.objs.size).filterMap fun a => if a = L ∨ a = d then none else (h.get? a).map fun o => (a, o)
theorem mem_ledger {h : Heap} {L d a : Addr} {o : Obj} : (a, o) ∈ ledger h L d ↔ a ≠ L ∧ a ≠ d ∧ h.get? a = some o := by
  unfold ledger
  rw [List.mem_filterMap]
  constructor
  · rintro ⟨b, _, e⟩
    split at e
    · cases e
    · rename_i hb
      obtain ⟨o', ho, e'⟩ := Option.map_eq_some_iff.mp e
      cases e'
      exact ⟨fun q => hb (.inl q), fun q => hb (.inr q), ho⟩
  · rintro ⟨n1, n2, ho⟩
    refine ⟨a, List.mem_range.mpr (Heap.lt_size ho), ?_⟩
    rw [if_neg (show ¬ (a = L ∨ a = d) from fun q => q.elim n1 n2), ho] <;> rfl
theorem news_ledger {h : Heap} {L d : Addr} {od : Obj} (hne : d ≠ L) (ho : h.get? d = some od) : News (noObjs h) L h ([] ++ (d, od) :: ledger h L d) := by
  rintro ⟨a, o⟩ hp
  rcases List.mem_cons.mp hp with e | hp
  · cases e
    exact ⟨ho, hne, noObjs_get _ _⟩
  · obtain ⟨n1, n2, e⟩ := mem_ledger.mp hp
    exact ⟨e, n1, noObjs_get _ _⟩
theorem fr_all {h : Heap} {L : Addr} {m : Str → Option Value} (n : h.Ns L m) : Fr (noObjs h) L h m :=
  ⟨n, fun b o e => (by rw [noObjs_get] at e; cases e), Nat.zero_le _⟩
/-- Upd of the head entry (for append_K, setItem_K ..) -/
theorem upd_ledger {h : Heap} {L d : Addr} {o o' : Obj} : Upd d o o' ((d, o) :: ledger h L d) ((d, o') :: ledger h L d) :=
  .head fun ⟨_, _⟩ hp => (mem_ledger.mp hp).2.1

/-- x.name = v over any heap: L is any namespace of the heap (the frame's, say): its map stays, its object is not told; all else but the dict stays -/
theorem set_field {x C dx L : Addr} {ox : Obj} {m : Str → Option Value} {es es' : List DictEntry} {n n' : Nat} {name : Str} {v : Value} {Q : Unit → Shared → Prop}
    (X : K.In s.heap) (I : PySem.W.InstAt s.heap x ox C (some (dictOf es n))) (hd : ox.dict = some dx) (hL : s.heap.Ns L m) (hne : dx ≠ L)
    (hs : findIn K (.ref C) "__setattr__" = some (some (.builtin "object.__setattr__"))) (hp : plainOver K C = true) (ht : takerIn K C name = some none) (hh : hasDictIn K C = true) (hl : (getL name es).isSome = true)
    (e : (putL name (PyData.keyHash w.params name) (.str name (s.toks + 1)) v es, putN name es n) = (es', n')) (hz : es'.length ≤ 1000)
    (h : ∀ h' : Heap, h'.Ns L m → h'.get? dx = some (dictOf es' n') → (∀ b o, b ≠ dx → b ≠ L → s.heap.get? b = some o → h'.get? b = some o) → Q () { s with heap := h', toks := s.toks + 2 }) :
    wpAny (model prog w) A (setAttr (.ref x) name v) Q E s := by
  obtain ⟨e1, e2⟩ := Prod.mk.inj e
  have hdx : s.heap.get? dx = some (dictOf es n) := by
    have := I.dict
    rw [hd] at this
    exact this
  refine set_plain X I hs (osa_dict (s := { s with toks := s.toks + 1 }) (h₀ := noObjs s.heap) (L := L) (m := m) (od := dictOf es n) (od' := dictOf es' n') (es := es') (n := n') (pre := []) (post := ledger s.heap L dx)
    (fr_all hL) (news_ledger hne hdx) X I hd hp ht hh hl (fun _ q => nomatch q) (fun ⟨_, _⟩ q => (mem_ledger.mp q).2.1) (by rw [putName_dict, e1, e2]) rfl hz fun h' F' N' => ?_)
  exact h h' F'.ns (N'.get (List.Mem.head _)) fun b o n1 n2 ho => N'.get (List.Mem.tail _ (mem_ledger.mpr ⟨n2, n1, ho⟩))
end
end Att

namespace L2
open PySem PySem.Spec PyProof.Rows

theorem vals_ints : ∀ {vs : List Value} {ns : List Int}, IntsAre vs ns → Vals (ns.map V.int) vs
  | _, _, .nil => .nil
  | _, _, .cons n t h => .cons ⟨t, rfl⟩ (vals_ints h)

/-- nothing is tracked but the script, known to the object (or it is an object of the module) -/
def Only (H : Hp) : Prop := ∀ b, H b = none ∨ ∃ o xs, H b = some (.frz o (.lst xs))

/-- THE HEAD: the law's promise, at the heap behind the top. F, the promise of the law's def, may use that base is part of the heap (so K.In base, base.Ns mainGlobals mg stand in Mod) -/
theorem law_call {P : Program} {w : World} {K : PySem.W.Frag} {mg mb : Str → Option Value} {CX : CXT} {k : Nat} {fa a : Addr} {fd : FuncData} {x : Str} {sp : Sp} {s₁ : Shared} {vs : List Value} {ns : List Int}
    (KX : K.In s₁.heap) (hns : s₁.heap.Ns mainGlobals mg) (hb : s₁.heap.Ns builtinsNs mb) (hbb : ∀ x : Str, x ≠ "__name__" → mb x = bootBuiltins x) (hlim : s₁.heap.NoLimit) (hg : s₁.gens = #[])
    (ha : s₁.heap.get? a = some { cls := .type "list", data := .seq vs.toArray }) (hi : IntsAre vs ns) (hl : ns.length ≤ sizeLine) (hr : Room k callerA)
    (F : ∀ base : Heap, K.In base → base.Ns mainGlobals mg → FnOk P w K mg base CX k fa fd [x] sp) (hbind : ∀ (s : Shared) (u : Value), BindsTo s fd ⟨[u], []⟩ [(x, u)])
    (hsp : ∀ H : Hp, Only H → SqL K H a (ns.map V.int) → sp [.ref a] H (fun v _ => v = .bl true) fun _ _ _ => False)
    (hCX : ∀ H e s', CX [] H s₁ (fun _ _ _ => False) e s' → False) :
    codeAny (model P w) callerA (.call (.ref fa) ⟨[.ref a], []⟩) (fun r s' => r = .ok (.ret (.bool true)) ∧ OldK s₁.heap s'.heap ∧ s'.os = s₁.os ∧ AllBare s'.gens) s₁ := by
  have rv := vals_ints hi
  have lenV := hi.length
  -- from an abstract heap in which nothing but the script may be tracked
  have core : ∀ H : Hp, Only H → SqL K H a (ns.map V.int) → HOk P w H s₁.heap → (∀ b, H b ≠ none → b = a) → (H a ≠ none → K.lookup a = none) →
      codeAny (model P w) callerA (.call (.ref fa) ⟨[.ref a], []⟩) (fun r s' => r = .ok (.ret (.bool true)) ∧ OldK s₁.heap s'.heap ∧ s'.os = s₁.os ∧ AllBare s'.gens) s₁ := by
    intro H hO hS hok hA hK
    have base_of : ∀ {b : Addr} {o : Obj}, s₁.heap.get? b = some o → H b = none → (hidT s₁.heap H).get? b = some o := fun e n => hidT_get e n
    have noA : ∀ {b : Addr} {o : Obj} {es : Array DictEntry} {ep : Nat}, s₁.heap.get? b = some o → o.data = .dict es ep → H b = none := fun {b o es ep} e d => by
      cases q : H b with
      | none => rfl
      | some u =>
        have e' : b = a := hA b (by rw [q]; simp)
        subst e'
        rw [ha] at e; cases e
        have d' : Data.seq vs.toArray _ = Data.dict es ep := d
        cases d'
    have nsK : ∀ {b : Addr} {m : Str → Option Value}, s₁.heap.Ns b m → (hidT s₁.heap H).Ns b m := fun {b m} ⟨o, es, ep, e, d, r⟩ => ⟨o, es, ep, base_of e (noA e d), d, r⟩
    have hKb : K.In (hidT s₁.heap H) := fun b o e => base_of (KX b o e) (by
      cases q : H b with
      | none => rfl
      | some u =>
        have e' : b = a := hA b (by rw [q]; simp)
        subst e'
        rw [hK (by rw [q]; simp)] at e; cases e)
    have hM : Mod K mg (hidT s₁.heap H) := ⟨hKb, nsK hns, ⟨mb, nsK hb, hbb⟩, let ⟨mc, h1, h2⟩ := hlim; ⟨mc, nsK h1, h2⟩⟩
    have e0 : Env0 P w K mg (hidT s₁.heap H) callerA [] s₁ H := ⟨rfl, hM, fun b o e => of_hidT e, Nat.le_of_eq (hidT_size _ _), trivial, fun b hb => absurd (show b ∈ ([] : List Addr) from hb) (by simp), hok, .of_eq hg⟩
    refine codeAny_mono ((F _ hKb (nsK hns)).run callerA [] s₁ H ⟨[.ref a], []⟩ [.ref a] [.ref a] _ _ hr e0 (hbind s₁ (.ref a)) (.cons rfl .nil) (hsp H hO hS)) fun r s' h => ?_
    cases r with
    | error e => exact (hCX H e s' h).elim
    | ok fl =>
      cases fl with
      | next => exact False.elim h
      | brk => exact False.elim h
      | cont => exact False.elim h
      | ret u =>
        obtain ⟨v, H', os, bare, un, hok', r', q⟩ := h
        have q' : v = .bl true := q
        subst q'
        obtain rfl : u = Value.bool true := r'
        refine ⟨rfl, OldK.of_keep fun b o e => ?_, os, bare⟩
        cases q : H b with
        | none => exact un.keep b o e q (by intro z; exact absurd (show b ∈ ([] : List Addr) from z) (by simp)) (by simp)
        | some u =>
          rcases hO b with z | ⟨ob, xs, z⟩
          · rw [q] at z; cases z
          · have z2 := un.frzs b ob _ z
            obtain ⟨e1, _⟩ := hok b _ z
            obtain ⟨e2, _⟩ := hok' b _ z2
            rw [e] at e1; cases e1
            exact e2
  cases hk : K.lookup a with
  | some o =>
    -- the script is one of the module's own objects
    have e := KX a o hk
    rw [ha] at e
    cases e
    refine core (fun _ => none) (fun _ => .inl rfl) (.inr ⟨_, vs.toArray, _, hk, rfl, rfl, rfl, by rw [List.size_toArray, lenV]; exact hl, by simpa using rv⟩) (fun b u z => by have z' : (none : Option HO) = some u := z; cases z') (fun b z => absurd rfl z) fun z => absurd rfl z
  | none =>
    refine core (fun b => if b = a then some (.frz { cls := .type "list", data := .seq vs.toArray } (.lst (ns.map V.int))) else none) (fun b => ?_) (.inl (.inr ⟨{ cls := .type "list", data := .seq vs.toArray }, if_pos rfl⟩)) (fun b u z => ?_) (fun b z => ?_) fun _ => hk
    · by_cases hb : b = a
      · exact .inr ⟨_, _, if_pos hb⟩
      · exact .inl (if_neg hb)
    · by_cases hb : b = a
      · have z' := (if_pos hb).symm.trans z
        cases z'
        subst hb
        exact ⟨ha, by rw [List.length_map]; exact hl, vs, _, rv, ha⟩
      · have z' := (if_neg hb).symm.trans z
        cases z'
    · by_cases hb : b = a
      · exact hb
      · exact absurd (if_neg hb) z
end L2

namespace L2
open PySem PySem.Spec PyProof.Rows

abbrev KOf {K : PySem.W.Frag} {h : Heap} (_ : K.In h) : PySem.W.Frag := K

/-- the goal that k_head leaves (case hc), from the law's promise. F gives the function object fd (K's own) once, then the promise over every base -/
theorem walk_of {l : PySem.W.OpenLaw} {n k : Nat} {q : Program} {loose : List Str} {XP : (Str → Option Value) → Heap → Prop} {YP : World → Heap → Prop} {d : DefRec} {K : Params → PySem.W.Frag} {CX : World → CXT} {sp : World → Sp} {x : Str}
    (hn : l.most = some n) (hn2 : n ≤ sizeLine) (hdf : d.params.defaults = []) (hr : Room k callerA)
    (hY : ∀ (w : World) (h : Heap), YP w h → (K w.params).In h)
    (F : ∀ (w : World) (mg : Str → Option Value) (fa : Addr) (h : Heap), (K w.params).In h → h.Ns mainGlobals mg → mg d.name = some (.ref fa) →
      ∃ fd : FuncData, (∀ (s : Shared) (u : Value), BindsTo s fd ⟨[u], []⟩ [(x, u)]) ∧
        ∀ base : Heap, (K w.params).In base → base.Ns mainGlobals mg → FnOk l.prog w (K w.params) mg base (CX w) k fa fd [x] (sp w))
    (hsp : ∀ (w : World) (H : Hp) (a : Addr) (ns : List Int), ns.length ≤ n → Only H → SqL (K w.params) H a (ns.map V.int) → sp w [.ref a] H (fun v _ => v = .bl true) fun _ _ _ => False)
    (hCX : ∀ (w : World) (H : Hp) (s : Shared) (e : Value) (s' : Shared), CX w [] H s (fun _ _ _ => False) e s' → False) :
    PySem.W.WalkO q loose XP YP l.row.toRowW d [] (fun f vs => PySem.call f vs) := by
  refine Att.attach_call hn hdf fun w s₀ s₁ mg mb fa o pm cd doc a vs ns G Y ho hd hcd hmg hobj hints hlen hg => ?_
  have KX := hY w _ Y
  obtain ⟨fd, hb, hF⟩ := F w mg fa _ KX G.T.g hmg
  exact law_call KX G.T.g G.T.b G.T.builtins G.T.nolimit hg hobj hints (Nat.le_trans hlen hn2) hr hF hb (fun H hO hS => hsp w H a ns hlen hO hS) fun H e s' => hCX w H s₁ e s'
/-- the same where the promise hangs on the written part alone: (sp := My.sp_law), no hole under a binder -/
theorem walk_ofK {l : PySem.W.OpenLaw} {n k : Nat} {q : Program} {loose : List Str} {XP : (Str → Option Value) → Heap → Prop} {YP : World → Heap → Prop} {d : DefRec} {K : Params → PySem.W.Frag} {CX : CXT} {sp : PySem.W.Frag → Sp} {x : Str}
    (hn : l.most = some n) (hn2 : n ≤ sizeLine) (hdf : d.params.defaults = []) (hr : Room k callerA)
    (hY : ∀ (w : World) (h : Heap), YP w h → (K w.params).In h)
    (F : ∀ (w : World) (mg : Str → Option Value) (fa : Addr) (h : Heap), (K w.params).In h → h.Ns mainGlobals mg → mg d.name = some (.ref fa) →
      ∃ fd : FuncData, (∀ (s : Shared) (u : Value), BindsTo s fd ⟨[u], []⟩ [(x, u)]) ∧
        ∀ base : Heap, (K w.params).In base → base.Ns mainGlobals mg → FnOk l.prog w (K w.params) mg base CX k fa fd [x] (sp (K w.params)))
    (hsp : ∀ (K : PySem.W.Frag) (H : Hp) (a : Addr) (ns : List Int), ns.length ≤ n → Only H → SqL K H a (ns.map V.int) → sp K [.ref a] H (fun v _ => v = .bl true) fun _ _ _ => False)
    (hCX : ∀ (H : Hp) (s : Shared) (e : Value) (s' : Shared), CX [] H s (fun _ _ _ => False) e s' → False) :
    PySem.W.WalkO q loose XP YP l.row.toRowW d [] (fun f vs => PySem.call f vs) :=
  walk_of (K := K) (CX := fun _ => CX) (sp := fun w => sp (K w.params)) hn hn2 hdf hr hY F (fun w H a ns h1 h2 h3 => hsp (K w.params) H a ns h1 h2 h3) fun _ H s e s' => hCX H s e s'
end L2

/- THE LAST THEOREM (shape; LID, My.* are yours):
   My.Adr: a structure of the addresses that your layer names (classes, functions); My.Txt K t: a structure (Prop) of the equations over K;
   My.txt_mk : {K} {implicit addresses ..} (e1 : nsIn K mainGlobals "law" = some (some (.ref f))) (e2 : K.lookup f = some ⟨oc, od, .func (fnOf "law" "law" params body scope dV kV doc pm an cdv ct), sl⟩) (e3 : codeIn K cdv "law" = true) .. : ∃ t, My.Txt K t

set_option maxRecDepth 100000 in
set_option maxHeartbeats 0 in
theorem PySem.Challenge.cw_LID_holds : PySem.Challenge.rw_LID.Holds := by
  w_on; o_law; k_head; (case hw => w_witness2)
  k_fill
  refine L2.walk_of (l := PySem.Challenge.rw_LID) (n := 63) (k := 40) (x := "script") (CX := fun w => ..) (sp := fun _ => My.sp_law) rfl (by decide) rfl ⟨rfl, by decide, by decide⟩ (fun w h Y => PySem.W.kIn_of Y) ?F ?S ?C
  case F =>
    intro w mg fa h KX G hmg
    have T : ∃ t, My.Txt (L2.KOf KX) t := by
      dsimp only [L2.KOf]                          -- K must stand as «<heap const> w.params» for k_is
      refine' My.txt_mk ?e1 ?e2 ?e3 ..
      (case e1 => PySem.W.k_is)                    -- in the order: a name -> its address -> its object -> its parts
      (case e2 => PySem.W.k_is)
      ..
    obtain ⟨t, T⟩ := T
    have e0 := hmg.symm.trans (PySem.W.mg_of KX G T.law)
    cases e0                                       -- fa is the law's own address
    exact ⟨_, fun s u => .of_eq rfl, fun base kb nb => My.law_fn T kb nb⟩     -- if «.of_eq rfl» comes too early: refine' ⟨_, ?b, fun base kb nb => My.law_fn T kb nb⟩; exact fun s u => .of_eq rfl
  case S => exact fun w H a ns hl hO hS => ..
  case C => exact ..
(the tactic k_is has no namespace: write k_is) -/

/-! SHORT WORDS over the layer: a def of the text, its body, what a loop and a test want. -/
namespace L2
open PySem PySem.Spec PyProof.Rows

/-! ### the text by places -/
/-- the j-th statement of a class's body -/
def inClass (s : Stmt) (j : Nat) : Stmt := match s with
  | .ClassDef _ _ _ body _ _ _ _ _ _ _ => body.getD j (.Pass ⟨0, 0, 0, 0⟩)
  | _ => .Pass ⟨0, 0, 0, 0⟩
def defArgs (s : Stmt) : Arguments := match s with
  | .FunctionDef _ a _ _ _ _ _ _ _ _ => a
  | _ => { posonlyargs := [], args := [], vararg := none, kwonlyargs := [], kw_defaults := [], kwarg := none, defaults := [] }
def defBody (s : Stmt) : List Stmt := match s with
  | .FunctionDef _ _ b _ _ _ _ _ _ _ => b
  | _ => []
def defScope (s : Stmt) : Scope := match s with
  | .FunctionDef _ _ _ _ _ _ sc _ _ _ => sc
  | _ => { kind := .function, names := [], isGenerator := false, isCoroutine := false }

/-! ### no exception leaves a def -/
abbrev CX0 : CXT := fun _ _ _ _ _ _ => False
abbrev E0 : XK := fun _ _ _ => False
theorem pass0 {X : Cx} : Passes CX0 X E0 := fun _ _ _ _ _ _ _ h => h.elim

/-! ### a def (or method) of the text as it stands behind the top -/
structure Fun (K : PySem.W.Frag) (x qual : Str) (st : Stmt) (f : Addr) (fd : FuncData) : Prop where
  ex : ∃ (oc : Value) (od : Option Addr) (kV doc pm : Value) (an : Option Addr) (cdv ct : Value) (osl : Array (Option Value)),
    fd = PySem.W.fnOf x qual (defArgs st) (defBody st) (defScope st) .none kV doc pm an cdv ct ∧ K.lookup f = some ⟨oc, od, .func fd, osl⟩ ∧ PySem.W.codeIn K cdv qual = true
  kp : PySem.W.keepIn K (.ref f) = true
section
variable {P : Program} {w : World} {K : PySem.W.Frag} {mg : Str → Option Value} {base : Heap}
/-- THE RULE for a def: its body as a term of rules, and the reading of that term -/
theorem Fun.ok {x qual : Str} {st : Stmt} {f : Addr} {fd : FuncData} {N ps : List Str} {k : Nat} {sp : Sp} (F : Fun K x qual st f fd) (S : FnScope N ps (defScope st)) (len : ∀ vs H Q E, sp vs H Q E → vs.length = ps.length)
    (hbody : ∀ (cdv : Value) (A : Around) (outer : List Env) (s : Shared) (H : Hp) (vs : List V) (Q : VK) (E : XK), Room k (A.deeper (envOfC qual (defScope st) s.heap.objs.size f cdv)) → sp vs H Q E →
      ∃ t, PSs (cxOf CX0 P w K mg base N qual (defScope st) f cdv A outer s H E).nox (defBody st) t ∧ t { nx := fun _ H' => Q .non H', rt := Q } (start N vs) H) : FnOk P w K mg base CX0 (k + 1) f fd ps sp := by
  obtain ⟨oc, od, kV, doc, pm, an, cdv, ct, osl, rfl, lk, hcd⟩ := F.ex
  refine fn_of lk hcd S len fun A outer s H vs Q E hr hsp => ?_
  obtain ⟨t, h, q⟩ := hbody cdv A outer s H vs Q E hr hsp
  exact ⟨t, h.nox, q⟩
/-- how its arguments bind (no defaults): h is «fun _ _ _ _ _ _ us hl => match us, hl with | [_, _], _ => rfl», one _ a parameter -/
theorem Fun.binds {x qual : Str} {st : Stmt} {f : Addr} {fd : FuncData} {ps : List Str} (F : Fun K x qual st f fd)
    (h : ∀ (kV doc pm : Value) (an : Option Addr) (cdv ct : Value) (us : List Value), us.length = ps.length → bindArgs (PySem.W.fnOf x qual (defArgs st) (defBody st) (defScope st) .none kV doc pm an cdv ct) ⟨us, []⟩ = pure (ps.zip us)) : Binds K fd ps [] := by
  obtain ⟨oc, od, kV, doc, pm, an, cdv, ct, osl, rfl, lk, hcd⟩ := F.ex
  exact .all (h kV doc pm an cdv ct)
theorem fun_mk {x qual : Str} {st : Stmt} {f : Addr} {oc : Value} {od an : Option Addr} {osl : Array (Option Value)} {kV doc pm cdv ct : Value} (l : K.lookup f = some ⟨oc, od, .func (PySem.W.fnOf x qual (defArgs st) (defBody st) (defScope st) .none kV doc pm an cdv ct), osl⟩)
    (c : PySem.W.codeIn K cdv qual = true) (k : PySem.W.keepIn K (.ref f) = true) : Fun K x qual st f (PySem.W.fnOf x qual (defArgs st) (defBody st) (defScope st) .none kV doc pm an cdv ct) := ⟨⟨oc, od, kV, doc, pm, an, cdv, ct, osl, rfl, l, c⟩, k⟩
end
theorem hu_of {A : Around} {k : Nat} (hr : Room k A) : A.units + 1 < cLine := Nat.lt_of_le_of_lt (Nat.add_le_add_left (by decide : 1 ≤ 64) _) hr.units
theorem small1000 {n : Nat} (h : n ≤ 1000) : n < sizeLine := Nat.lt_of_le_of_lt h (by decide)

/-! ### expressions in short: the name that stands in the i-th slot -/
section
variable {X : Cx}
theorem pv (i : Nat) {x : Str} {pos : Pos} (hN : X.N[i]? = some x := by rfl) (hv : Vis X.env.scope x := by first | exact Or.inl rfl | exact Or.inr (Or.inl rfl) | exact Or.inr (Or.inr rfl)) (hd : (x == ("__debug__" : Str)) = false := by decide)
    (hcd : (x == ("__classdict__" : Str)) = false := by decide) : PE X (.Name x pos) (tVar i) := pe_var hN hv hd hcd
end

/-! ### tests -/
theorem iteF {A B : Prop} (h : B) : if false = true then A else B := by
  rw [if_neg Bool.false_ne_true]
  exact h
theorem iteT {A B : Prop} (h : A) : if true = true then A else B := by
  rw [if_pos rfl]
  exact h
theorem ite2 {c A B : Prop} [Decidable c] (h1 : c → A) (h2 : ¬ c → B) : if c then A else B := by
  by_cases h : c
  · rw [if_pos h]
    exact h1 h
  · rw [if_neg h]
    exact h2 h
theorem iteNS {c A B : Prop} [Decidable c] (hc : c) (h : B) : if (!decide c) = true then A else B := by
  rw [decide_eq_true hc]
  exact iteF h

/-! ### heaps -/
/-- all that was tracked is as it was -/
def Same (H H' : Hp) : Prop := ∀ b o, H b = some o → H' b = some o
theorem Same.refl (H : Hp) : Same H H := fun _ _ h => h
theorem Same.trans {H H1 H2 : Hp} (a : Same H H1) (b : Same H1 H2) : Same H H2 := fun c o h => b c o (a c o h)
theorem Same.free {H H' : Hp} (e : Same H H') {l : Addr} (h : H' l = Option.none) : H l = Option.none := by
  cases q : H l with
  | none => rfl
  | some o =>
    rw [e l o q] at h
    cases h
theorem Same.seq {K : PySem.W.Frag} {H H' : Hp} {a : Addr} {xs : List V} (e : Same H H') (h : SqL K H a xs) : SqL K H' a xs := by
  rcases h with (h | ⟨o, h⟩) | h
  · exact .inl (.inl (e _ _ h))
  · exact .inl (.inr ⟨o, e _ _ h⟩)
  · exact .inr h

end L2

namespace L2
open PySem PySem.Spec PyProof.Rows

/-! ### lists of pairs as tables -/
section
variable {κ : Type} [DecidableEq κ]
def valV (kvs : List (κ × V)) (k : κ) : Option V := (kvs.find? fun kv => decide (kv.1 = k)).map (·.2)
/-- in its place, or at the end -/
def putK (kvs : List (κ × V)) (k : κ) (v : V) : List (κ × V) :=
  if (kvs.any fun kv => decide (kv.1 = k)) = true then kvs.map (fun kv => if kv.1 = k then (kv.1, v) else kv) else kvs ++ [(k, v)]
def dropK (kvs : List (κ × V)) (k : κ) : List (κ × V) := kvs.filter fun kv => decide (kv.1 ≠ k)

theorem valV_nil {k : κ} : valV ([] : List (κ × V)) k = none := rfl
theorem valV_pos {p : κ × V} {r : List (κ × V)} {k : κ} (e : p.1 = k) : valV (p :: r) k = some p.2 := by simp [valV, List.find?_cons, e]
theorem valV_neg {p : κ × V} {r : List (κ × V)} {k : κ} (e : ¬ p.1 = k) : valV (p :: r) k = valV r k := by simp [valV, List.find?_cons, e]
theorem valV_any (k : κ) : ∀ kvs : List (κ × V), (kvs.any fun kv => decide (kv.1 = k)) = (valV kvs k).isSome
  | [] => rfl
  | p :: r => by
    rw [List.any_cons]
    by_cases e : p.1 = k
    · simp only [valV_pos e, decide_eq_true e, Bool.true_or, Option.isSome_some]
    · rw [valV_neg e, decide_eq_false e, Bool.false_or]; exact valV_any k r
theorem valV_map (k j : κ) (y : V) : ∀ kvs : List (κ × V), valV (kvs.map fun kv => if kv.1 = k then (kv.1, y) else kv) j = (valV kvs j).map fun x => if j = k then y else x
  | [] => rfl
  | p :: r => by
    have ih := valV_map k j y r
    rw [List.map_cons]
    by_cases h : p.1 = k
    · rw [if_pos h]
      by_cases e : p.1 = j
      · rw [valV_pos (p := (p.1, y)) e, valV_pos e, Option.map_some, if_pos (e.symm.trans h)]
      · rw [valV_neg (p := (p.1, y)) e, valV_neg e, ih]
    · rw [if_neg h]
      by_cases e : p.1 = j
      · rw [valV_pos (p := p) e, valV_pos e, Option.map_some, if_neg (fun z => h (e.trans z))]
      · rw [valV_neg (p := p) e, valV_neg e, ih]
theorem valV_snoc (k j : κ) (y : V) : ∀ kvs : List (κ × V), valV kvs k = none → valV (kvs ++ [(k, y)]) j = if j = k then some y else valV kvs j
  | [], _ => by
    by_cases e : k = j
    · rw [if_pos e.symm]; exact valV_pos (p := (k, y)) e
    · rw [if_neg (fun z => e z.symm)]; exact valV_neg (p := (k, y)) e
  | p :: r, hn => by
    rw [List.cons_append]
    have hk : ¬ p.1 = k := fun z => by rw [valV_pos z] at hn; cases hn
    rw [valV_neg hk] at hn
    have ih := valV_snoc k j y r hn
    by_cases e : p.1 = j
    · rw [valV_pos e, valV_pos e, if_neg (fun z => hk (e.trans z))]
    · rw [valV_neg e, valV_neg e, ih]
theorem valV_put (kvs : List (κ × V)) (k j : κ) (y : V) : valV (putK kvs k y) j = if j = k then some y else valV kvs j := by
  unfold putK
  by_cases a : (kvs.any fun kv => decide (kv.1 = k)) = true
  · rw [if_pos a, valV_map]
    rw [valV_any] at a
    by_cases e : j = k
    · obtain ⟨x, hx⟩ := Option.isSome_iff_exists.mp a
      rw [if_pos e, e, hx, Option.map_some, if_pos rfl]
    · rw [if_neg e]
      cases valV kvs j with
      | none => rfl
      | some x => rw [Option.map_some, if_neg e]
  · rw [if_neg a]
    refine valV_snoc k j y kvs ?_
    rw [valV_any] at a
    cases q : valV kvs k with
    | none => rfl
    | some x => rw [q] at a; exact (a rfl).elim
theorem length_putK (kvs : List (κ × V)) (k : κ) (v : V) : (putK kvs k v).length ≤ kvs.length + 1 := by
  unfold putK
  split
  · rw [List.length_map]; omega
  · rw [List.length_append, List.length_cons, List.length_nil]; omega
theorem putK_new {kvs : List (κ × V)} {k : κ} (v : V) (h : valV kvs k = none) : putK kvs k v = kvs ++ [(k, v)] := by
  unfold putK
  rw [valV_any, h]
  exact if_neg (by decide)

theorem RelO.isSome_eq {o : Option V} {u : Option Value} (r : RelO o u) : o.isSome = u.isSome := by
  cases o with
  | none => cases u with
    | none => rfl
    | some _ => exact (show False from r).elim
  | some _ => cases u with
    | none => exact (show False from r).elim
    | some _ => rfl
theorem RelO.getD {o : Option V} {u : Option Value} {d : V} {d' : Value} (r : RelO o u) (rd : RelV d d') : RelV (o.getD d) (u.getD d') := by
  cases o with
  | none => cases u with
    | none => exact rd
    | some _ => exact (show False from r).elim
  | some _ => cases u with
    | none => exact (show False from r).elim
    | some _ => exact r

/-- raw tables of the same keys -/
theorem KV.val {kvs : List (κ × V)} {vs : List (κ × Value)} (r : KV kvs vs) (k : κ) : RelO (valV kvs k) (valueAt vs k) := by
  unfold KV at r
  induction r with
  | nil => exact True.intro
  | @cons p q ps qs h t ih =>
    obtain ⟨h1, h2⟩ := h
    by_cases e : p.1 = k
    · have e' : q.1 = k := h1.symm.trans e
      have b : valueAt (q :: qs) k = some q.2 := by simp [valueAt, List.find?_cons, e']
      rw [valV_pos e, b]; exact h2
    · have e' : ¬ q.1 = k := fun z => e (h1.trans z)
      have b : valueAt (q :: qs) k = valueAt qs k := by simp [valueAt, List.find?_cons, e']
      rw [valV_neg e, b]; exact ih
theorem KV.any {kvs : List (κ × V)} {vs : List (κ × Value)} (r : KV kvs vs) (k : κ) : (kvs.any fun kv => decide (kv.1 = k)) = vs.any fun kv => decide (kv.1 = k) := by
  unfold KV at r
  induction r with
  | nil => rfl
  | cons h t ih => rw [List.any_cons, List.any_cons, ih, h.1]
theorem KV.repl {kvs : List (κ × V)} {vs : List (κ × Value)} (r : KV kvs vs) (k : κ) {y : V} {u : Value} (ry : RelV y u) :
    KV (kvs.map fun kv => if kv.1 = k then (kv.1, y) else kv) (vs.map fun kv => if kv.1 = k then (kv.1, u) else kv) := by
  unfold KV at r ⊢
  induction r with
  | nil => exact .nil
  | @cons p q ps qs h t ih =>
    rw [List.map_cons, List.map_cons]
    refine .cons ?_ ih
    obtain ⟨h1, h2⟩ := h
    by_cases e : p.1 = k
    · rw [if_pos e, if_pos (h1.symm.trans e)]; exact ⟨h1, ry⟩
    · rw [if_neg e, if_neg (fun z => e (h1.trans z))]; exact ⟨h1, h2⟩
theorem KV.put {kvs : List (κ × V)} {vs : List (κ × Value)} (r : KV kvs vs) (k : κ) {y : V} {u : Value} (ry : RelV y u) : KV (putK kvs k y) (stored vs k u) := by
  unfold putK stored
  rw [r.any k]
  by_cases e : (vs.any fun kv => decide (kv.1 = k)) = true
  · rw [if_pos e, if_pos e]; exact r.repl k ry
  · rw [if_neg e, if_neg e]; exact Paired.snoc r ⟨rfl, ry⟩
theorem KV.drop {kvs : List (κ × V)} {vs : List (κ × Value)} (r : KV kvs vs) (k : κ) : KV (dropK kvs k) (without vs k) := by
  unfold KV at r ⊢
  unfold dropK without
  induction r with
  | nil => exact .nil
  | @cons p q ps qs h t ih =>
    obtain ⟨h1, h2⟩ := h
    rw [List.filter_cons, List.filter_cons]
    by_cases e : p.1 = k
    · have a : ¬ decide (p.1 ≠ k) = true := by simp [e]
      have b : ¬ decide (q.1 ≠ k) = true := by simp [h1.symm.trans e]
      rw [if_neg a, if_neg b]; exact ih
    · have e' : ¬ q.1 = k := fun z => e (h1.trans z)
      have a : decide (p.1 ≠ k) = true := by simp [e]
      have b : decide (q.1 ≠ k) = true := by simp [e']
      rw [if_pos a, if_pos b]; exact .cons ⟨h1, h2⟩ ih
theorem KV.keys {kvs : List (κ × V)} {vs : List (κ × Value)} (r : KV kvs vs) : kvs.map (·.1) = vs.map (·.1) := by
  unfold KV at r
  induction r with
  | nil => rfl
  | cons h t ih => rw [List.map_cons, List.map_cons, ih, h.1]
theorem KV.length {kvs : List (κ × V)} {vs : List (κ × Value)} (r : KV kvs vs) : kvs.length = vs.length := Paired.length r
theorem dropK_le (kvs : List (κ × V)) (k : κ) : (dropK kvs k).length ≤ kvs.length := List.length_filter_le _ _
end


/-! ### a tracked dict, its keys ints and texts or tuples of these -/
theorem kV_is {P : Program} {w : World} {k : Key} {u : Value} (r : RelV (kV k) u) : (mixKind P w).is k u = true := by
  cases k with
  | inl i => obtain ⟨t, e⟩ := (show ∃ t, u = Value.int i t from r); subst e; exact mixKind_int P w i t
  | inr x => obtain ⟨t, e⟩ := (show ∃ t, u = Value.str x t from r); subst e; exact mixKind_str P w x t
theorem kV_inj {a b : Key} (e : kV a = kV b) : a = b := by
  cases a with
  | inl i => cases b with
    | inl j => have e' : V.int i = V.int j := e; injection e' with e'; rw [e']
    | inr y => exact nomatch (show V.int i = V.str y from e)
  | inr x => cases b with
    | inl j => exact nomatch (show V.str x = V.int j from e)
    | inr y => have e' : V.str x = V.str y := e; injection e' with e'; rw [e']
theorem kVs_inj : ∀ {a b : List Key}, a.map kV = b.map kV → a = b
  | [], [], _ => rfl
  | [], _ :: _, e => by simp at e
  | _ :: _, [], e => by simp at e
  | x :: xs, y :: ys, e => by
    rw [List.map_cons, List.map_cons] at e
    injection e with e1 e2
    rw [kV_inj e1, kVs_inj e2]
theorem items_are {P : Program} {w : World} : ∀ {ks : List Key} {us : List Value}, Vals (ks.map kV) us → ItemsAre (mixKind P w) ks us
  | [], _, r => by rw [List.map_nil] at r; cases r; exact .nil
  | k :: ks, _, r => by
    rw [List.map_cons] at r
    cases r with
    | cons h t => exact .cons (kV_is h) (items_are t)

/-- raw entries of a dict with tuple keys -/
abbrev KT (H : Hp) : List (List Key × V) → List (List Key × Addr × Value) → Prop := Paired fun p q => p.1 = q.1 ∧ H q.2.1 = some (.tup (p.1.map kV)) ∧ RelV p.2 q.2.2
theorem KT.val {H : Hp} {kvs : List (List Key × V)} {xs : List (List Key × Addr × Value)} (r : KT H kvs xs) (k : List Key) : RelO (valV kvs k) ((atKey xs k).map (·.2)) := by
  induction r with
  | nil => exact True.intro
  | @cons p q ps qs h t ih =>
    obtain ⟨h1, _, h2⟩ := h
    by_cases e : p.1 = k
    · have e' : q.1 = k := h1.symm.trans e
      have b : atKey (q :: qs) k = some q.2 := by simp [atKey, List.find?_cons, e']
      rw [valV_pos e, b]; exact h2
    · have e' : ¬ q.1 = k := fun z => e (h1.trans z)
      have b : atKey (q :: qs) k = atKey qs k := by simp [atKey, List.find?_cons, e']
      rw [valV_neg e, b]; exact ih
theorem KT.repl {H : Hp} {kvs : List (List Key × V)} {xs : List (List Key × Addr × Value)} (r : KT H kvs xs) (k : List Key) {y : V} {u : Value} (ry : RelV y u) :
    KT H (kvs.map fun kv => if kv.1 = k then (kv.1, y) else kv) (xs.map (putAt k u)) := by
  induction r with
  | nil => exact .nil
  | @cons p q ps qs h t ih =>
    rw [List.map_cons, List.map_cons]
    refine .cons ?_ ih
    obtain ⟨h1, h2, h3⟩ := h
    unfold putAt
    by_cases e : p.1 = k
    · rw [if_pos e, if_pos (h1.symm.trans e)]; exact ⟨h1, h2, ry⟩
    · rw [if_neg e, if_neg (fun z => e (h1.trans z))]; exact ⟨h1, h2, h3⟩
theorem KT.put {H : Hp} {kvs : List (List Key × V)} {xs : List (List Key × Addr × Value)} (r : KT H kvs xs) (k : List Key) {b : Addr} {y : V} {u : Value} (hb : H b = some (.tup (k.map kV))) (ry : RelV y u) :
    KT H (putK kvs k y) (storedH xs k b u) := by
  have e : (kvs.any fun kv => decide (kv.1 = k)) = (atKey xs k).isSome := by
    rw [valV_any, (r.val k).isSome_eq, Option.isSome_map]
  unfold putK storedH
  rw [e]
  by_cases q : (atKey xs k).isSome = true
  · rw [if_pos q, if_pos q]; exact r.repl k ry
  · rw [if_neg q, if_neg q]; exact Paired.snoc r ⟨rfl, hb, ry⟩
theorem KT.keeps {H H' : Hp} {kvs : List (List Key × V)} {xs : List (List Key × Addr × Value)} (r : KT H kvs xs) (ht : ∀ b ys, H b = some (.tup ys) → H' b = some (.tup ys)) : KT H' kvs xs :=
  Paired.mapP r fun _ _ z => ⟨z.1, ht _ _ z.2.1, z.2.2⟩

section
variable {P : Program} {w : World} {H : Hp} {h : Heap} {a : Addr}
theorem rd_of {u : HO} (ok : HOk P w H h) (e : Rd H a u) : ObjOk P w H h a u := e.ok ok
theorem dk_rd {kvs : List (Key × V)} (ok : HOk P w H h) (e : Rd H a (.dK kvs)) : kvs.length ≤ sizeLine ∧ (a == sysModules) = false ∧ ∃ vs, KV kvs vs ∧ h.DictOf (mixKind P w) a vs :=
  show ObjOk P w H h a (.dK kvs) from rd_of ok e
theorem dk_of {kvs : List (Key × V)} (ok : HOk P w H h) (e : H a = some (.dK kvs)) : kvs.length ≤ sizeLine ∧ (a == sysModules) = false ∧ ∃ vs, KV kvs vs ∧ h.DictOf (mixKind P w) a vs := dk_rd ok (.inl e)
/-- a tracked tuple of ints and texts is a key -/
theorem key_of {ks : List Key} (ok : HOk P w H h) (e : H a = some (.tup (ks.map kV))) : (tupleKind (mixKind P w)).is h ks a := by
  obtain ⟨_, its, r, o, h1, h2, n, h3⟩ := (show ObjOk P w H h a (.tup (ks.map kV)) from ok a _ e)
  exact ⟨o, its.toArray, n, h1, h2, h3, by simpa using items_are r⟩
theorem dt_rd {kvs : List (List Key × V)} (ok : HOk P w H h) (e : Rd H a (.dT kvs)) : kvs.length ≤ sizeLine ∧ (a == sysModules) = false ∧
    ∃ xs, KT H kvs xs ∧ h.DictOfH (tupleKind (mixKind P w)) a xs := by
  obtain ⟨z, y, xs, r, o, es, ep, h1, h2, h3, h4, h5⟩ := (show ObjOk P w H h a (.dT kvs) from rd_of ok e)
  refine ⟨z, y, xs, r, o, es, ep, h1, h2, h3, h4, fun x hx => ?_, h5⟩
  have all : ∀ {l : List (List Key × V)} {m : List (List Key × Addr × Value)}, KT H l m → ∀ x ∈ m, (tupleKind (mixKind P w)).is h x.1 x.2.1 := by
    intro l m q
    induction q with
    | nil => intro x hx; exact nomatch hx
    | @cons p q ps qs hq t ih =>
      intro x hx
      rcases List.mem_cons.mp hx with e | hx
      · subst e
        exact key_of ok (by rw [← hq.1]; exact hq.2.1)
      · exact ih x hx
  exact all r x hx
theorem dt_of {kvs : List (List Key × V)} (ok : HOk P w H h) (e : H a = some (.dT kvs)) : kvs.length ≤ sizeLine ∧ (a == sysModules) = false ∧
    ∃ xs, KT H kvs xs ∧ h.DictOfH (tupleKind (mixKind P w)) a xs := dt_rd ok (.inl e)
end

/-- what the dict at a holds at the key y -/
def DGet (H : Hp) (a : Addr) (y : V) (r : Option V) : Prop :=
  (∃ kvs k, Rd H a (.dK kvs) ∧ y = kV k ∧ r = valV kvs k) ∨ ∃ kvs k b, Rd H a (.dT kvs) ∧ y = .ref b ∧ H b = some (.tup (k.map kV)) ∧ r = valV kvs k
/-- the heap behind a[y] = v -/
def DPut (H : Hp) (a : Addr) (y v : V) (H' : Hp) : Prop :=
  (∃ kvs k, H a = some (.dK kvs) ∧ y = kV k ∧ kvs.length < sizeLine ∧ H' = upd H a (.dK (putK kvs k v))) ∨
  ∃ kvs k b, H a = some (.dT kvs) ∧ y = .ref b ∧ H b = some (.tup (k.map kV)) ∧ kvs.length < sizeLine ∧ H' = upd H a (.dT (putK kvs k v))
theorem DGet.k {H : Hp} {a : Addr} {kvs : List (Key × V)} {k : Key} (e : H a = some (.dK kvs)) : DGet H a (kV k) (valV kvs k) := .inl ⟨kvs, k, .inl e, rfl, rfl⟩
theorem DGet.t {H : Hp} {a b : Addr} {kvs : List (List Key × V)} {k : List Key} (e : H a = some (.dT kvs)) (eb : H b = some (.tup (k.map kV))) : DGet H a (.ref b) (valV kvs k) := .inr ⟨kvs, k, b, .inl e, rfl, eb, rfl⟩
theorem DPut.k {H : Hp} {a : Addr} {kvs : List (Key × V)} {k : Key} {v : V} (e : H a = some (.dK kvs)) (hl : kvs.length < sizeLine) : DPut H a (kV k) v (upd H a (.dK (putK kvs k v))) := .inl ⟨kvs, k, e, rfl, hl, rfl⟩
theorem DPut.t {H : Hp} {a b : Addr} {kvs : List (List Key × V)} {k : List Key} {v : V} (e : H a = some (.dT kvs)) (eb : H b = some (.tup (k.map kV))) (hl : kvs.length < sizeLine) :
    DPut H a (.ref b) v (upd H a (.dT (putK kvs k v))) := .inr ⟨kvs, k, b, e, rfl, eb, hl, rfl⟩


section
variable {X : Cx} {pins : List (Addr × Obj)} {σ : St} {H : Hp} {s : Shared} {a : Addr} {y v : V} {u r : Value} {o : Option V} {A : Around} {E : Value → Shared → Prop}

theorem Inv.big (I : Inv X pins σ H s) : sysModules < s.heap.objs.size := by
  have h : mainGlobals < s.heap.objs.size := (I.mod.glob.keeps I.bk).lt
  exact Nat.lt_trans (by decide) h

/-- d[y], there -/
theorem d_getItem {Q : Value → Shared → Prop} (hu : A.units + 1 < cLine) (I : Inv X pins σ H s) (g : DGet H a y (some v)) (ry : RelV y u) (h : ∀ w' s', Inv X pins σ H s' → RelV v w' → Q w' s') :
    wpAny (model X.prog X.w) A (getItem (.ref a) u) Q E s := by
  rcases g with ⟨kvs, k, e, ey, l⟩ | ⟨kvs, k, b, e, ey, eb, l⟩
  · subst ey
    obtain ⟨z, hd, vs, rel, dd⟩ := dk_rd I.hok e
    obtain ⟨w', hw, rw'⟩ := RelO.some_of (v := v) (o := valueAt vs k) (by rw [l]; exact rel.val k)
    exact wpAny_getItem_of (kV_is ry) dd.mapOf hw (h w' _ (I.tok _) rw')
  · subst ey
    cases (show u = Value.ref b from ry)
    obtain ⟨z, hd, xs, rel, dd⟩ := dt_rd I.hok e
    obtain ⟨w', hw, rw'⟩ := RelO.some_of (v := v) (o := (atKey xs k).map (·.2)) (by rw [l]; exact rel.val k)
    obtain ⟨p, hp, hp2⟩ := Option.map_eq_some_iff.mp hw
    refine wpAny_getItem_heap (tupleKind_room_in1 hu) (key_of I.hok eb) dd hp ?_
    rw [hp2]
    exact h w' _ (I.tok _) rw'
/-- y in d -/
theorem d_in {Q : Value → Shared → Prop} (hu : A.units + 1 < cLine) (I : Inv X pins σ H s) (g : DGet H a y o) (ry : RelV y u) (h : ∀ s', Inv X pins σ H s' → Q (.bool o.isSome) s') :
    wpAny (model X.prog X.w) A (compareOp .In u (.ref a)) Q E s := by
  rcases g with ⟨kvs, k, e, ey, l⟩ | ⟨kvs, k, b, e, ey, eb, l⟩
  · subst ey
    obtain ⟨z, hd, vs, rel, dd⟩ := dk_rd I.hok e
    refine wpAny_in_of (kV_is ry) hd dd.mapOf ?_
    rw [← (rel.val k).isSome_eq, ← l]
    exact h _ (I.tok _)
  · subst ey
    cases (show u = Value.ref b from ry)
    obtain ⟨z, hd, xs, rel, dd⟩ := dt_rd I.hok e
    refine wpAny_in_heap (tupleKind_room_in1 hu) (key_of I.hok eb) hd dd ?_
    have q := (rel.val k).isSome_eq
    rw [Option.isSome_map] at q
    rw [← q, ← l]
    exact h _ (I.tok _)
theorem d_notIn {Q : Value → Shared → Prop} (hu : A.units + 1 < cLine) (I : Inv X pins σ H s) (g : DGet H a y o) (ry : RelV y u) (h : ∀ s', Inv X pins σ H s' → Q (.bool (!o.isSome)) s') :
    wpAny (model X.prog X.w) A (compareOp .NotIn u (.ref a)) Q E s := by
  rcases g with ⟨kvs, k, e, ey, l⟩ | ⟨kvs, k, b, e, ey, eb, l⟩
  · subst ey
    obtain ⟨z, hd, vs, rel, dd⟩ := dk_rd I.hok e
    refine wpAny_notIn_of (kV_is ry) hd dd.mapOf ?_
    rw [← (rel.val k).isSome_eq, ← l]
    exact h _ (I.tok _)
  · subst ey
    cases (show u = Value.ref b from ry)
    obtain ⟨z, hd, xs, rel, dd⟩ := dt_rd I.hok e
    refine wpAny_notIn_heap (tupleKind_room_in1 hu) (key_of I.hok eb) hd dd ?_
    have q := (rel.val k).isSome_eq
    rw [Option.isSome_map] at q
    rw [← q, ← l]
    exact h _ (I.tok _)
/-- a dict's object is replaced -/
theorem d_write {h' : Heap} {t' : Nat} {ob : HO} (I : Inv X pins σ H s) (mu : Mut (H a)) (hs : Heap.SameBut a s.heap h') (he : ∃ q, h'.get? a = some q) (new : ObjOk X.prog X.w (upd H a ob) h' a ob) :
    Inv X pins σ (upd H a ob) { s with heap := h', toks := t' } :=
  I.write (x := a) (e := a) mu (.inl rfl) (fun b q hb z => (hs.2 b hb).trans z) he new
theorem dk_new {P : Program} {w : World} {H' : Hp} {h' : Heap} {kvs : List (Key × V)} {vs : List (Key × Value)} (z : kvs.length ≤ sizeLine) (hd : (a == sysModules) = false) (rel : KV kvs vs) (dd : h'.DictOf (mixKind P w) a vs) :
    ObjOk P w H' h' a (.dK kvs) := ⟨z, hd, vs, rel, dd⟩
/-- d[y] = v -/
theorem d_setItem {H' : Hp} {Q : Unit → Shared → Prop} (hu : A.units + 1 < cLine) (I : Inv X pins σ H s) (g : DPut H a y v H') (ry : RelV y u) (rv : RelV v r) (h : ∀ s', Inv X pins σ H' s' → Q () s') :
    wpAny (model X.prog X.w) A (setItem (.ref a) u r) Q E s := by
  rcases g with ⟨kvs, k, e, ey, l, eH⟩ | ⟨kvs, k, b, e, ey, eb, l, eH⟩
  · subst ey eH
    obtain ⟨z, hd, vs, rel, dd⟩ := dk_of I.hok e
    have hz : vs.length ≤ sizeLine := by rw [← rel.length]; exact z
    have hl : (putK kvs k v).length ≤ sizeLine := by have := length_putK kvs k v; omega
    refine wpAny_setItem_pairs (hsz := hz) (kV_is ry) dd fun h' dd' hs => h _ ?_
    have he : ∃ q, h'.get? a = some q := let ⟨q, _, _, hq, _⟩ := dd'; ⟨q, hq⟩
    exact d_write I (by rw [e]; exact True.intro) hs he (dk_new hl hd (rel.put k rv) dd')
  · subst ey eH
    cases (show u = Value.ref b from ry)
    obtain ⟨z, hd, xs, rel, dd⟩ := dt_of I.hok e
    have hz : xs.length ≤ sizeLine := by rw [← Paired.length rel]; exact z
    have hl : (putK kvs k v).length ≤ sizeLine := by have := length_putK kvs k v; omega
    refine wpAny_setItem_heap (hsz := hz) (tupleKind_room_in1 hu) (key_of I.hok eb) dd fun h' dd' hs => h _ ?_
    obtain ⟨q, es, ep, hq, h2, h3, h4, _, h5⟩ := dd'
    refine d_write I (by rw [e]; exact True.intro) hs ⟨q, hq⟩ ⟨hl, hd, _, (rel.put k eb rv).keeps fun c ys ec => ?_, q, es, ep, hq, h2, h3, h4, h5⟩
    rw [upd_ne (ne_of ec e (fun z => nomatch z))]
    exact ec
end

section
variable {X : Cx} {pins : List (Addr × Obj)} {σ : St} {H : Hp} {s : Shared} {a : Addr} {kvs : List (Key × V)} {k : Key} {u : Value} {A : Around} {E : Value → Shared → Prop}
/-- del d[k] -/
theorem d_delItem {Q : Unit → Shared → Prop} (I : Inv X pins σ H s) (e : H a = some (.dK kvs)) (ry : RelV (kV k) u) (l : (valV kvs k).isSome = true) (h : ∀ s', Inv X pins σ (upd H a (.dK (dropK kvs k))) s' → Q () s') :
    wpAny (model X.prog X.w) A (delItem (.ref a) u) Q E s := by
  obtain ⟨z, hd, vs, rel, dd⟩ := dk_of I.hok e
  refine wpAny_delItem_slot dd.typeIs (by decide) PySem.F.slot_dict_delitem
    (call_meetsIn PySem.F.slot_dict_delitem dd.typeIs PySem.F.entry_dict_delitem (PySem.F.args_dict_delitem_2 _ _) (meets_dict_delitem_pairs (mixKind X.prog X.w) a (kV_is ry)) ⟨vs, dd, by rw [← rel.length]; exact z, by rw [← (rel.val k).isSome_eq]; exact l, fun h' dd' hs => h _ ?_⟩)
  have he : ∃ q, h'.get? a = some q := let ⟨q, _, _, hq, _⟩ := dd'; ⟨q, hq⟩
  exact d_write I (by rw [e]; exact True.intro) hs he (dk_new (Nat.le_trans (dropK_le kvs k) z) hd (rel.drop k) dd')
/-- d.pop(k[, x]), there -/
theorem d_pop {v : V} {more : List Value} {Q : Value → Shared → Prop} (I : Inv X pins σ H s) (e : H a = some (.dK kvs)) (ry : RelV (kV k) u) (l : valV kvs k = some v) (hm : more = [] ∨ ∃ x, more = [x])
    (h : ∀ w' s', Inv X pins σ (upd H a (.dK (dropK kvs k))) s' → RelV v w' → Q w' s') : wpAny (model X.prog X.w) A (call (.builtin "dict.pop") (.ref a :: u :: more)) Q E s := by
  obtain ⟨z, hd, vs, rel, dd⟩ := dk_of I.hok e
  obtain ⟨w', hw, rw'⟩ := RelO.some_of (v := v) (o := valueAt vs k) (by rw [← l]; exact rel.val k)
  have hp : (keyPart u).isSome = true := by
    cases k with
    | inl i => obtain ⟨t, q⟩ := (show ∃ t, u = Value.int i t from ry); subst q; rfl
    | inr x => obtain ⟨t, q⟩ := (show ∃ t, u = Value.str x t from ry); subst q; rfl
  have ha : argsOk "dict.pop" ⟨.ref a :: u :: more, []⟩ := by
    rcases hm with q | ⟨x, q⟩
    · subst q; exact PySem.F.args_dict_pop_2 _ _
    · subst q; exact PySem.F.args_dict_pop_3 _ _ _
  refine call_meetsIn PySem.F.slot_dict_pop dd.typeIs PySem.F.entry_dict_pop ha (meets_dict_pop_there (mixKind X.prog X.w) a (kV_is ry) more hm hp)
    ⟨vs, w', dd, by rw [← rel.length]; exact z, hw, fun h' dd' hs => h w' _ ?_ rw'⟩
  have he : ∃ q, h'.get? a = some q := let ⟨q, _, _, hq, _⟩ := dd'; ⟨q, hq⟩
  exact d_write I (by rw [e]; exact True.intro) hs he (dk_new (Nat.le_trans (dropK_le kvs k) z) hd (rel.drop k) dd')
/-- d.pop(k, x), not there -/
theorem d_popD {r : Value} {Q : Value → Shared → Prop} (I : Inv X pins σ H s) (e : H a = some (.dK kvs)) (ry : RelV (kV k) u) (l : valV kvs k = none) (h : ∀ s', Inv X pins σ H s' → Q r s') :
    wpAny (model X.prog X.w) A (call (.builtin "dict.pop") [.ref a, u, r]) Q E s := by
  obtain ⟨z, hd, vs, rel, dd⟩ := dk_of I.hok e
  have hn : valueAt vs k = none := RelO.none_of (by rw [← l]; exact rel.val k)
  have hp : (keyPart u).isSome = true := by
    cases k with
    | inl i => obtain ⟨t, q⟩ := (show ∃ t, u = Value.int i t from ry); subst q; rfl
    | inr x => obtain ⟨t, q⟩ := (show ∃ t, u = Value.str x t from ry); subst q; rfl
  exact call_meetsIn PySem.F.slot_dict_pop dd.typeIs PySem.F.entry_dict_pop (PySem.F.args_dict_pop_3 _ _ _) (meets_dict_pop_default (mixKind X.prog X.w) a (kV_is ry) hd hp r) ⟨vs, dd, hn, h _ (I.tok _)⟩
/-- d.clear() -/
theorem d_clear {Q : Value → Shared → Prop} (I : Inv X pins σ H s) (e : H a = some (.dK kvs)) (h : ∀ s', Inv X pins σ (upd H a (.dK [])) s' → Q .none s') : wpAny (model X.prog X.w) A (call (.builtin "dict.clear") [.ref a]) Q E s := by
  obtain ⟨z, hd, vs, rel, dd⟩ := dk_of I.hok e
  refine call_meetsIn PySem.F.slot_dict_clear dd.typeIs PySem.F.entry_dict_clear (PySem.F.args_dict_clear_1 _) (meets_dict_clear (mixKind X.prog X.w) a) ⟨vs, dd, by rw [← rel.length]; exact z, fun h' dd' hs => h _ ?_⟩
  have he : ∃ q, h'.get? a = some q := let ⟨q, _, _, hq, _⟩ := dd'; ⟨q, hq⟩
  exact d_write (t' := s.toks) I (by rw [e]; exact True.intro) hs he (dk_new (Nat.zero_le _) hd .nil dd')
/-- len(d) -/
theorem d_len {Q : Value → Shared → Prop} (I : Inv X pins σ H s) (e : Rd H a (.dK kvs)) (h : ∀ t s', Inv X pins σ H s' → Q (.int kvs.length t) s') : wpAny (model X.prog X.w) A (call (.builtin "len") [.ref a]) Q E s := by
  obtain ⟨z, hd, vs, rel, dd⟩ := dk_rd I.hok e
  refine call_len_dict hd dd (by rw [← rel.length]; rw [sizeLine_eq] at z; omega) ?_
  rw [← rel.length]
  exact h _ _ (I.tok _)
/-- if d -/
theorem d_truth {Q : Bool → Shared → Prop} (I : Inv X pins σ H s) (e : Rd H a (.dK kvs)) (h : ∀ s', Inv X pins σ H s' → Q (!kvs.isEmpty) s') : wpAny (model X.prog X.w) A (truthy (.ref a)) Q E s := by
  obtain ⟨z, hd, vs, rel, dd⟩ := dk_rd I.hok e
  refine wpAny_truthy_dict hd dd (by rw [← rel.length]; rw [sizeLine_eq] at z; omega) ?_
  have q : kvs.isEmpty = vs.isEmpty := by cases rel <;> rfl
  rw [← q]
  exact h _ (I.tok _)
end


/-! ### readings and rules -/
/-- the element of a subscription, not a slice -/
def NoSl (i : Expr) : Prop := ∀ ov iv, subscripted i false ov iv = operate [ov, iv] (getItem ov iv)
theorem subD_of {prog : Program} {w : World} {A : Around} {E : Value → Shared → Prop} {s : Shared} {env : Env} {value slice : Expr} {pos : Pos} {T id : String} {Q : Value → Shared → Prop}
    (hl : typeLookup (.type T) "__getitem__" = pure (some (.builtin id))) (hs : NoSl slice)
    (h : wpAny (model prog w) A (eval value env) (fun o s₁ => wpAny (model prog w) A (eval slice env) (fun i s₂ => s₂.TypeIs o T ∧ wpAny (model prog w) A (getItem o i) Q E s₂) E s₁) E s) :
    wpAny (model prog w) A (eval (.Subscript value slice pos) env) Q E s := by
  refine Subscript_ (wpAny_mono h (fun o s₁ h₁ => wpAny_mono h₁ (fun i s₂ h₂ => ?_) fun _ _ x => x) fun _ _ x => x)
  obtain ⟨hT, h₂⟩ := h₂
  unfold subscriptTail
  refine wpAny_bind ?_
  rw [getitemInPython_of_ne hT.not_modules]
  refine wpAny_bind (wpAny_specialOf hT hl ?_)
  have fin : wpAny (model prog w) A (subscripted slice false o i) (fun r s₃ => wpAny (model prog w) A (letTemporaryGo value o r >>= fun _ => pure r) Q E s₃) E s₂ := by
    rw [hs o i]
    exact wpAny_operating (wpAny_mono h₂ (fun r s₃ h₃ => wpAny_bind (wpAny_letTemporaryGo (wpAny_pure h₃))) fun _ _ x => x)
  first
    | exact wpAny_pure (wpAny_bind fin)
    | exact wpAny_bind (wpAny_pure (wpAny_bind fin))
    | exact wpAny_bind fin

theorem dict_typeIs {X : Cx} {pins : List (Addr × Obj)} {σ : St} {H : Hp} {s : Shared} {a : Addr} {y : V} {o : Option V} (I : Inv X pins σ H s) (g : DGet H a y o) : s.TypeIs (.ref a) "dict" := by
  rcases g with ⟨kvs, k, e, _, _⟩ | ⟨kvs, k, b, e, _, _, _⟩
  · obtain ⟨_, _, vs, _, dd⟩ := dk_rd I.hok e
    exact dd.typeIs
  · obtain ⟨_, _, xs, _, dd⟩ := dt_rd I.hok e
    exact dd.typeIs
theorem dict_noDict {X : Cx} {pins : List (Addr × Obj)} {σ : St} {H : Hp} {s : Shared} {a : Addr} {y : V} {o : Option V} (I : Inv X pins σ H s) (g : DGet H a y o) :
    ∀ b, Value.ref a = .ref b → ∃ ob, s.heap.get? b = some ob ∧ ob.dict = none := fun b q => by
  cases q
  rcases g with ⟨kvs, k, e, _, _⟩ | ⟨kvs, k, b, e, _, _, _⟩
  · obtain ⟨_, _, vs, _, ob, _, _, h1, h2, _⟩ := dk_rd I.hok e
    exact ⟨ob, h1, h2.2.1⟩
  · obtain ⟨_, _, xs, _, ob, _, _, h1, h2, _⟩ := dt_rd I.hok e
    exact ⟨ob, h1, h2.2.1⟩

/-- d[y] -/
def tDGet (td ty : TE) : TE := fun σ H Q => td σ H fun x H1 => ty σ H1 fun y H2 => ∃ a v, x = .ref a ∧ DGet H2 a y (some v) ∧ Q v H2
/-- y in d, y not in d -/
def tDIn (ty td : TE) : TE := fun σ H Q => ty σ H fun y H1 => td σ H1 fun x H2 => ∃ a o, x = .ref a ∧ DGet H2 a y o ∧ Q (.bl o.isSome) H2
def tDNotIn (ty td : TE) : TE := fun σ H Q => ty σ H fun y H1 => td σ H1 fun x H2 => ∃ a o, x = .ref a ∧ DGet H2 a y o ∧ Q (.bl (!o.isSome)) H2
/-- d[y] = v -/
def sDPut (td ty tv : TE) : TS := fun D σ H => tv σ H fun v H1 => td σ H1 fun x H2 => ty σ H2 fun y H3 => ∃ a H4, x = .ref a ∧ DPut H3 a y v H4 ∧ D.nx σ H4
/-- d[y] op= v -/
def sDAug (td ty tv : TE) (rd : V → V → Hp → VK → Prop) : TS := fun D σ H => td σ H fun x H1 => ty σ H1 fun y H2 => ∃ a v, x = .ref a ∧ DGet H2 a y (some v) ∧
  tv σ H2 fun y2 H3 => rd v y2 H3 fun z H4 => ∃ H5, DPut H4 a y z H5 ∧ D.nx σ H5
/-- del d[y] -/
def sDDel (td ty : TE) : TS := fun D σ H => td σ H fun x H1 => ty σ H1 fun y H2 => ∃ a kvs k, x = .ref a ∧ H2 a = some (.dK kvs) ∧ y = kV k ∧ (valV kvs k).isSome = true ∧ D.nx σ (upd H2 a (.dK (dropK kvs k)))

section
variable {X : Cx} {o i e value : Expr} {pos pos' tpos : Pos} {td ty tv : TE}
theorem pe_dget (hu : X.A.units + 1 < cLine) (ho : PE X o td) (hi : PE X i ty) (hs : NoSl i) : PE X (.Subscript o i pos) (tDGet td ty) := by
  intro pins s σ H Q I h
  refine subD_of PySem.F.slot_dict_getitem.lookup hs (thn (ho pins s σ H _ I h) fun u s1 ⟨x, H1, I1, rx, q1⟩ => thn (hi pins s1 σ H1 _ I1 q1) fun iv s2 ⟨y, H2, I2, ry, a, v, ex, g, q2⟩ => ?_)
  subst ex
  obtain rfl : u = Value.ref a := rx
  exact ⟨dict_typeIs I2 g, d_getItem hu I2 g ry fun w' s3 I3 rw' => ⟨v, H2, I3, rw', q2⟩⟩
theorem pc_din (hu : X.A.units + 1 < cLine) (hi : PE X i ty) (ho : PE X o td) : PC X .In i o (tDIn ty td) := by
  intro pins s σ H Q I h
  refine thn (hi pins s σ H _ I h) fun iv s1 ⟨y, H1, I1, ry, q1⟩ => thn (ho pins s1 σ H1 _ I1 q1) fun u s2 ⟨x, H2, I2, rx, a, ov, ex, g, q2⟩ => ?_
  subst ex
  obtain rfl : u = Value.ref a := rx
  exact d_in hu I2 g ry fun s3 I3 => ⟨.bl ov.isSome, H2, I3, rfl, q2⟩
theorem pc_dnotin (hu : X.A.units + 1 < cLine) (hi : PE X i ty) (ho : PE X o td) : PC X .NotIn i o (tDNotIn ty td) := by
  intro pins s σ H Q I h
  refine thn (hi pins s σ H _ I h) fun iv s1 ⟨y, H1, I1, ry, q1⟩ => thn (ho pins s1 σ H1 _ I1 q1) fun u s2 ⟨x, H2, I2, rx, a, ov, ex, g, q2⟩ => ?_
  subst ex
  obtain rfl : u = Value.ref a := rx
  exact d_notIn hu I2 g ry fun s3 I3 => ⟨.bl (!ov.isSome), H2, I3, rfl, q2⟩
theorem ps_dput (hu : X.A.units + 1 < cLine) (ho : PE X o td) (hi : PE X i ty) (hv : PE X value tv) (hs : swapsWith value (some (.Subscript o i pos')) pos.line X.env = pure false) :
    PS X (.Assign [.Subscript o i pos'] value pos) (sDPut td ty tv) := by
  intro pins s σ H D I h
  refine wpAny_Assign_Subscript (thn (hv pins s σ H _ I h) fun r s1 ⟨v, H1, I1, rv, q1⟩ => thn (ho pins s1 σ H1 _ I1 q1) fun u s2 ⟨x, H2, I2, rx, q2⟩ => thn (hi pins s2 σ H2 _ I2 q2) fun iv s3 ⟨y, H3, I3, ry, a, H4, ex, g, q3⟩ => ?_) hs
  subst ex
  obtain rfl : u = Value.ref a := rx
  exact d_setItem hu I3 g ry rv fun s4 I4 => ⟨σ, H4, I4, q3⟩
theorem ps_daug {op : Operator} {rd : V → V → Hp → VK → Prop} (hu : X.A.units + 1 < cLine) (ho : PE X o td) (hi : PE X i ty) (hv : PE X value tv) (hop : InOp X op rd)
    (ha : ∀ ov iv new, augStore i ov iv new = (do holding [new, ov, iv] (setItem ov iv new); release [new, ov, iv] []; pure .next)) : PS X (.AugAssign (.Subscript o i tpos) op value pos) (sDAug td ty tv rd) := by
  intro pins s σ H D I h
  refine wpAny_AugAssign_SubscriptAny (thn (ho pins s σ H _ I h) fun u s1 ⟨x, H1, I1, rx, q1⟩ => thn (hi pins s1 σ H1 _ I1 q1) fun iv s2 ⟨y, H2, I2, ry, a, v, ex, g, q2⟩ => ?_) ha
  subst ex
  obtain rfl : u = Value.ref a := rx
  refine d_getItem hu I2 g ry fun w' s3 I3 rw' => thn (hv pins s3 σ H2 _ I3 q2) fun w2 s4 ⟨y2, H3, I4, ry2, q3⟩ => thn (hop pins s4 σ H3 v y2 w' w2 _ I4 rw' ry2 q3) fun w3 s5 ⟨z, H4, I5, rz, H5, g5, q4⟩ => ?_
  exact d_setItem hu I5 g5 ry rz fun s6 I6 => ⟨σ, H5, I6, q4⟩
theorem ps_ddel (ho : PE X o td) (hi : PE X i ty) : PS X (.Delete [.Subscript o i tpos] pos) (sDDel td ty) := by
  intro pins s σ H D I h
  refine wpAny_Delete (wpAny_deleteEach_cons (wpAny_delete_Subscript (thn (ho pins s σ H _ I h) fun u s1 ⟨x, H1, I1, rx, q1⟩ => thn (hi pins s1 σ H1 _ I1 q1) fun iv s2 ⟨y, H2, I2, ry, a, kvs, k, ex, e, ey, l, q2⟩ => ?_)))
  subst ex ey
  obtain rfl : u = Value.ref a := rx
  exact d_delItem I2 e ry l fun s3 I3 => wpAny_deleteEach_nil ⟨σ, _, I3, q2⟩
end


/-! ### displays -/
theorem dk_empty {P : Program} {w : World} {H : Hp} (h : Heap) (hb : sysModules < h.objs.size) : ObjOk P w H (h.push { cls := .type "dict", data := .dict #[] }) h.objs.size (.dK []) :=
  ⟨Nat.zero_le _, beq_eq_false_iff_ne.mpr (Ne.symm (Nat.ne_of_lt hb)), [], .nil, Heap.DictOf.new h⟩
theorem dt_empty {P : Program} {w : World} {H : Hp} (h : Heap) (hb : sysModules < h.objs.size) : ObjOk P w H (h.push { cls := .type "dict", data := .dict #[] }) h.objs.size (.dT []) :=
  ⟨Nat.zero_le _, beq_eq_false_iff_ne.mpr (Ne.symm (Nat.ne_of_lt hb)), [], .nil, _, #[], 0, Heap.get?_push_size _ rfl, ⟨rfl, rfl, rfl⟩, rfl, rfl, List.nodup_nil⟩
/-- {}, to be a dict of the kind that is wanted -/
def tDNewK : TE := fun _ H Q => ∀ p, H p = none → Q (.ref p) (upd H p (.dK []))
def tDNewT : TE := fun _ H Q => ∀ p, H p = none → Q (.ref p) (upd H p (.dT []))
section
variable {X : Cx} {pos : Pos}
theorem pe_dnewK : PE X (.Dict [] [] pos) tDNewK := fun pins s σ H Q I h =>
  wpAny_Dict_empty ⟨.ref s.heap.objs.size, _, I.laid (a := s.heap.objs.size) (o := .dK []) (t' := s.toks) (fun _ _ q => Heap.get?_push_of_some _ q) (Nat.le_refl _) (dk_empty s.heap I.big), rfl, h _ (I.hok.fresh (Nat.le_refl _))⟩
theorem pe_dnewT : PE X (.Dict [] [] pos) tDNewT := fun pins s σ H Q I h =>
  wpAny_Dict_empty ⟨.ref s.heap.objs.size, _, I.laid (a := s.heap.objs.size) (o := .dT []) (t' := s.toks) (fun _ _ q => Heap.get?_push_of_some _ q) (Nat.le_refl _) (dt_empty s.heap I.big), rfl, h _ (I.hok.fresh (Nat.le_refl _))⟩
end

/-- the pairs of a display, from the left -/
def tPairs : List (TE × TE) → St → Hp → (List (V × V) → Hp → Prop) → Prop
  | [], _, H, Q => Q [] H
  | (tk, tv) :: r, σ, H, Q => tk σ H fun x H1 => tv σ H1 fun y H2 => tPairs r σ H2 fun ps H3 => Q ((x, y) :: ps) H3
abbrev VV : List (V × V) → List (Value × Value) → Prop := Paired fun p q => RelV p.1 q.1 ∧ RelV p.2 q.2
def PPs (X : Cx) (pos : Pos) (keys : List (Option Expr)) (values : List Expr) (trs : List (TE × TE)) : Prop :=
  ∀ (pins : List (Addr × Obj)) (s : Shared) (σ : St) (H : Hp) (Q : List (V × V) → Hp → Prop), Inv X pins σ H s → tPairs trs σ H Q →
    wpAny (model X.prog X.w) X.A (evalPairs (pairTrees keys values X.env pos)) (fun vs s' => ∃ ps H', Inv X pins σ H' s' ∧ VV ps vs ∧ Q ps H') X.xe s
theorem pps_nil {X : Cx} {pos : Pos} : PPs X pos [] [] [] := fun pins s σ H Q I h => pairTrees_nil_walk ⟨[], H, I, .nil, h⟩
theorem pps_cons {X : Cx} {pos : Pos} {k v : Expr} {ks : List (Option Expr)} {vs : List Expr} {tk tv : TE} {trs : List (TE × TE)} (hk : PE X k tk) (hv : PE X v tv) (hr : PPs X pos ks vs trs) :
    PPs X pos (some k :: ks) (v :: vs) ((tk, tv) :: trs) := fun pins s σ H Q I h =>
  pairTrees_cons_walk (thn (hk pins s σ H _ I h) fun u s1 ⟨x, H1, I1, rx, q1⟩ => thn (hv pins s1 σ H1 _ I1 q1) fun w2 s2 ⟨y, H2, I2, ry, q2⟩ =>
    thn (hr pins s2 σ H2 _ I2 q2) fun ws s3 ⟨ps, H3, I3, rel, q3⟩ => ⟨(x, y) :: ps, H3, I3, .cons ⟨rx, ry⟩ rel, q3⟩)

def mergeK (kvs more : List (Key × V)) : List (Key × V) := more.foldl (fun acc kv => putK acc kv.1 kv.2) kvs
theorem KV.merge : ∀ {more : List (Key × V)} {rs : List (Key × Value)} {kvs : List (Key × V)} {vs : List (Key × Value)}, KV more rs → KV kvs vs → KV (mergeK kvs more) (merged vs rs) := by
  intro more rs kvs vs r
  unfold KV at r
  induction r generalizing kvs vs with
  | nil => intro q; exact q
  | @cons p q ps qs h t ih =>
    intro r0
    have e : KV (putK kvs p.1 p.2) (stored vs q.1 q.2) := by
      have := r0.put p.1 h.2
      rw [← h.1]; exact this
    exact ih e
theorem length_mergeK : ∀ (more kvs : List (Key × V)), (mergeK kvs more).length ≤ kvs.length + more.length
  | [], kvs => by show kvs.length ≤ kvs.length + 0; omega
  | p :: r, kvs => by
    have h1 := length_mergeK r (putK kvs p.1 p.2)
    have h2 := length_putK kvs p.1 p.2
    show (mergeK (putK kvs p.1 p.2) r).length ≤ _
    rw [List.length_cons]; omega
theorem carries_of {P : Program} {w : World} : ∀ {kvs : List (Key × V)} {ws : List (Value × Value)}, VV (kvs.map fun kv => (kV kv.1, kv.2)) ws → ∃ rs, Carries (mixKind P w) ws rs ∧ KV kvs rs
  | [], _, r => by rw [List.map_nil] at r; cases r; exact ⟨[], True.intro, .nil⟩
  | p :: kvs, _, r => by
    rw [List.map_cons] at r
    cases r with
    | @cons a b as bs h t =>
      obtain ⟨rs, c, q⟩ := carries_of (P := P) (w := w) t
      obtain ⟨b1, b2⟩ := b
      exact ⟨(p.1, b2) :: rs, ⟨kV_is h.1, rfl, c⟩, .cons ⟨rfl, h.2⟩ q⟩
/-- {k: v, ..} with keys ints and texts; the new dict stands empty while the pairs are made -/
def tDisp (trs : List (TE × TE)) : TE := fun σ H Q => ∀ p, H p = none → tPairs trs σ (upd H p (.dK [])) fun ps H2 => H2 p = some (.dK []) ∧ ∃ kvs : List (Key × V), ps = kvs.map (fun kv => (kV kv.1, kv.2)) ∧ kvs.length ≤ 15 ∧ Q (.ref p) (upd H2 p (.dK (mergeK [] kvs)))
theorem pe_disp {X : Cx} {pos : Pos} {keys : List (Option Expr)} {values : List Expr} {trs : List (TE × TE)} (h : PPs X pos keys values trs) (hall : keys.all (·.isSome) = true) (hl : keys.length = values.length) (h0 : keys ≠ [])
    (h15 : keys.length ≤ 15) : PE X (.Dict keys values pos) (tDisp trs) := by
  intro pins s σ H Q I q
  have hn := I.hok.fresh (Nat.le_refl s.heap.objs.size)
  have I1 := I.laid (a := s.heap.objs.size) (o := .dK []) (h' := s.heap.push { cls := .type "dict", data := .dict #[] }) (t' := s.toks) (fun _ _ q => Heap.get?_push_of_some _ q) (Nat.le_refl _) (dk_empty s.heap I.big)
  refine wpAny_Dict_walk (knd := mixKind X.prog X.w) hall hl h0 h15 (thn (h pins _ σ _ _ I1 (q _ hn)) fun ws s2 ⟨ps, H2, I2, rel, e, kvs, ep, lk, q2⟩ => ?_)
  subst ep
  obtain ⟨rs, c, rk⟩ := carries_of (P := X.prog) (w := X.w) rel
  obtain ⟨z, hd, vs0, r0, dd⟩ := dk_of I2.hok e
  cases r0
  refine ⟨rs, c, dd, fun h' dd' hs => ⟨.ref s.heap.objs.size, _, ?_, rfl, q2⟩⟩
  have hz : (mergeK [] kvs).length ≤ sizeLine := by
    have h1 := length_mergeK kvs []
    rw [List.length_nil] at h1
    rw [sizeLine_eq]; omega
  have he : ∃ q, h'.get? s.heap.objs.size = some q := let ⟨q, _, _, hq, _⟩ := dd'; ⟨q, hq⟩
  exact d_write I2 (by rw [e]; exact True.intro) hs he (dk_new hz hd (rk.merge .nil) dd')


/-! ### methods -/
/-- a method call o.m(e) of a built-in, with one argument: what must be seen of the text -/
structure M1 (X : Cx) (o : Expr) (m : Str) (apos : Pos) (e : Expr) (cpos : Pos) : Prop where
  base : attributeBase o m X.env (eval o X.env) = eval o X.env
  few : ((backTo cpos (starEach [e] X.env)).all (fun x => !x.1) && (backToKw cpos (keywordEach [] X.env)).all (fun x => x.1.isSome)
    && decide (([e] : List Expr).length + ([] : List Keyword).length + (if ([] : List Keyword).isEmpty then 0 else 1) < 30)) = true
  line : (apos.endLine == cpos.line) = true
  trees : backTo cpos (starEach [e] X.env) = [(false, eval e X.env)]
structure M2 (X : Cx) (o : Expr) (m : Str) (apos : Pos) (e f : Expr) (cpos : Pos) : Prop where
  base : attributeBase o m X.env (eval o X.env) = eval o X.env
  few : ((backTo cpos (starEach [e, f] X.env)).all (fun x => !x.1) && (backToKw cpos (keywordEach [] X.env)).all (fun x => x.1.isSome)
    && decide (([e, f] : List Expr).length + ([] : List Keyword).length + (if ([] : List Keyword).isEmpty then 0 else 1) < 30)) = true
  line : (apos.endLine == cpos.line) = true
  trees : backTo cpos (starEach [e, f] X.env) = [(false, eval e X.env), (false, eval f X.env)]

/-- a is a dict, whatever its keys -/
def IsD (H : Hp) (a : Addr) : Prop := (∃ kvs, Rd H a (.dK kvs)) ∨ ∃ kvs, Rd H a (.dT kvs)
theorem isD_at {X : Cx} {pins : List (Addr × Obj)} {σ : St} {H : Hp} {s : Shared} {a : Addr} (I : Inv X pins σ H s) (d : IsD H a) :
    s.TypeIs (.ref a) "dict" ∧ (∀ b, Value.ref a = .ref b → ∃ ob, s.heap.get? b = some ob ∧ ob.dict = none) ∧ (a == sysModules) = false := by
  rcases d with ⟨kvs, e⟩ | ⟨kvs, e⟩
  · obtain ⟨_, hd, vs, _, dd⟩ := dk_rd I.hok e
    refine ⟨dd.typeIs, fun b q => ?_, hd⟩
    cases q
    obtain ⟨ob, _, _, h1, h2, _⟩ := dd
    exact ⟨ob, h1, h2.2.1⟩
  · obtain ⟨_, hd, xs, _, dd⟩ := dt_rd I.hok e
    refine ⟨dd.typeIs, fun b q => ?_, hd⟩
    cases q
    obtain ⟨ob, _, _, h1, h2, _⟩ := dd
    exact ⟨ob, h1, h2.2.1⟩

section
variable {X : Cx} {pins : List (Addr × Obj)} {σ : St} {H : Hp} {s : Shared} {a : Addr} {y d : V} {u r : Value} {o : Option V} {A : Around} {E : Value → Shared → Prop}
/-- d.get(y) -/
theorem d_get1 {Q : Value → Shared → Prop} (hu : A.units + 1 < cLine) (I : Inv X pins σ H s) (g : DGet H a y o) (ry : RelV y u) (h : ∀ w' s', Inv X pins σ H s' → RelV (o.getD .non) w' → Q w' s') :
    wpAny (model X.prog X.w) A (call (.builtin "dict.get") [.ref a, u]) Q E s := by
  rcases g with ⟨kvs, k, e, ey, l⟩ | ⟨kvs, k, b, e, ey, eb, l⟩
  · subst ey
    obtain ⟨z, hd, vs, rel, dd⟩ := dk_rd I.hok e
    refine call_meetsIn PySem.F.slot_dict_get dd.typeIs PySem.F.entry_dict_get (PySem.F.args_dict_get_2 _ _) (meets_dict_get (mixKind X.prog X.w) a (kV_is ry) hd) ⟨_, dd.mapOf, h _ _ (I.tok _) ?_⟩
    rw [l]
    exact (rel.val k).getD rfl
  · subst ey
    cases (show u = Value.ref b from ry)
    obtain ⟨z, hd, xs, rel, dd⟩ := dt_rd I.hok e
    refine call_meetsIn PySem.F.slot_dict_get dd.typeIs PySem.F.entry_dict_get (PySem.F.args_dict_get_2 _ _) (meetsH_dict_get (tupleKind (mixKind X.prog X.w)) a b hd) ⟨tupleKind_room_in1 hu, k, xs, key_of I.hok eb, dd, h _ _ (I.tok _) ?_⟩
    rw [l]
    exact (rel.val k).getD rfl
/-- d.get(y, x) -/
theorem d_get2 {Q : Value → Shared → Prop} (hu : A.units + 1 < cLine) (I : Inv X pins σ H s) (g : DGet H a y o) (ry : RelV y u) (rd : RelV d r) (h : ∀ w' s', Inv X pins σ H s' → RelV (o.getD d) w' → Q w' s') :
    wpAny (model X.prog X.w) A (call (.builtin "dict.get") [.ref a, u, r]) Q E s := by
  rcases g with ⟨kvs, k, e, ey, l⟩ | ⟨kvs, k, b, e, ey, eb, l⟩
  · subst ey
    obtain ⟨z, hd, vs, rel, dd⟩ := dk_rd I.hok e
    refine call_meetsIn PySem.F.slot_dict_get dd.typeIs PySem.F.entry_dict_get (PySem.F.args_dict_get_3 _ _ _) (meets_dict_get_default (mixKind X.prog X.w) a (kV_is ry) hd r) ⟨_, dd.mapOf, h _ _ (I.tok _) ?_⟩
    rw [l]
    exact (rel.val k).getD rd
  · subst ey
    cases (show u = Value.ref b from ry)
    obtain ⟨z, hd, xs, rel, dd⟩ := dt_rd I.hok e
    refine call_meetsIn PySem.F.slot_dict_get dd.typeIs PySem.F.entry_dict_get (PySem.F.args_dict_get_3 _ _ _) (meetsH_dict_get_default (tupleKind (mixKind X.prog X.w)) a b hd r) ⟨tupleKind_room_in1 hu, k, xs, key_of I.hok eb, dd, h _ _ (I.tok _) ?_⟩
    rw [l]
    exact (rel.val k).getD rd
end

def tDGet1 (td ty : TE) : TE := fun σ H Q => td σ H fun x H1 => ∃ a, x = .ref a ∧ IsD H1 a ∧ ty σ H1 fun y H2 => ∃ o, DGet H2 a y o ∧ Q (o.getD .non) H2
def tDGet2 (td ty tx : TE) : TE := fun σ H Q => td σ H fun x H1 => ∃ a, x = .ref a ∧ IsD H1 a ∧ ty σ H1 fun y H2 => tx σ H2 fun z H3 => ∃ o, DGet H3 a y o ∧ Q (o.getD z) H3
/-- d.pop(k): there; d.pop(k, x): there or not -/
def tDPop1 (td ty : TE) : TE := fun σ H Q => td σ H fun x H1 => ∃ a, x = .ref a ∧ IsD H1 a ∧ ty σ H1 fun y H2 => ∃ kvs k v, H2 a = some (.dK kvs) ∧ y = kV k ∧ valV kvs k = some v ∧ Q v (upd H2 a (.dK (dropK kvs k)))
def tDPop2 (td ty tx : TE) : TE := fun σ H Q => td σ H fun x H1 => ∃ a, x = .ref a ∧ IsD H1 a ∧ ty σ H1 fun y H2 => tx σ H2 fun z H3 => ∃ kvs k, H3 a = some (.dK kvs) ∧ y = kV k ∧
  (∀ v, valV kvs k = some v → Q v (upd H3 a (.dK (dropK kvs k)))) ∧ (valV kvs k = none → Q z H3)
section
variable {X : Cx} {o e f : Expr} {apos cpos : Pos} {td ty tx : TE}
theorem pe_dget1 (hu : X.A.units + 1 < cLine) (ho : PE X o td) (he : PE X e ty) (m : M1 X o "get" apos e cpos) : PE X (.Call (.Attribute o "get" apos) [e] [] cpos) (tDGet1 td ty) := by
  intro pins s σ H Q I h
  refine wpAny_Call_method m.base m.few m.line PySem.F.plainAttrs_dict PySem.F.slot_dict_get PySem.F.type_dict_get (thn (ho pins s σ H _ I h) fun u s1 ⟨x, H1, I1, rx, a, ex, d, q1⟩ => ?_)
  subst ex
  obtain rfl : u = Value.ref a := rx
  obtain ⟨t1, t2, _⟩ := isD_at I1 d
  refine ⟨t1, t2, ?_⟩
  rw [m.trees]
  refine Calls.callWith_builtin rfl (Calls.evalArgs_plain (Calls.spliced_cons (thn (he pins s1 σ H1 _ I1 q1) fun iv s2 ⟨y, H2, I2, ry, ov, g, q2⟩ => Calls.spliced_nil ?_)))
  exact d_get1 hu I2 g ry fun w' s3 I3 rw' => ⟨_, H2, I3, rw', q2⟩
theorem pe_dget2 (hu : X.A.units + 1 < cLine) (ho : PE X o td) (he : PE X e ty) (hf : PE X f tx) (m : M2 X o "get" apos e f cpos) : PE X (.Call (.Attribute o "get" apos) [e, f] [] cpos) (tDGet2 td ty tx) := by
  intro pins s σ H Q I h
  refine wpAny_Call_method m.base m.few m.line PySem.F.plainAttrs_dict PySem.F.slot_dict_get PySem.F.type_dict_get (thn (ho pins s σ H _ I h) fun u s1 ⟨x, H1, I1, rx, a, ex, d, q1⟩ => ?_)
  subst ex
  obtain rfl : u = Value.ref a := rx
  obtain ⟨t1, t2, _⟩ := isD_at I1 d
  refine ⟨t1, t2, ?_⟩
  rw [m.trees]
  refine Calls.callWith_builtin rfl (Calls.evalArgs_plain (Calls.spliced_cons (thn (he pins s1 σ H1 _ I1 q1) fun iv s2 ⟨y, H2, I2, ry, q2⟩ =>
    Calls.spliced_cons (thn (hf pins s2 σ H2 _ I2 q2) fun fv s3 ⟨z, H3, I3, rz, ov, g, q3⟩ => Calls.spliced_nil ?_))))
  exact d_get2 hu I3 g ry rz fun w' s4 I4 rw' => ⟨_, H3, I4, rw', q3⟩
theorem pe_dpop1 (ho : PE X o td) (he : PE X e ty) (m : M1 X o "pop" apos e cpos) : PE X (.Call (.Attribute o "pop" apos) [e] [] cpos) (tDPop1 td ty) := by
  intro pins s σ H Q I h
  refine wpAny_Call_method m.base m.few m.line PySem.F.plainAttrs_dict PySem.F.slot_dict_pop PySem.F.type_dict_pop (thn (ho pins s σ H _ I h) fun u s1 ⟨x, H1, I1, rx, a, ex, d, q1⟩ => ?_)
  subst ex
  obtain rfl : u = Value.ref a := rx
  obtain ⟨t1, t2, _⟩ := isD_at I1 d
  refine ⟨t1, t2, ?_⟩
  rw [m.trees]
  refine Calls.callWith_builtin rfl (Calls.evalArgs_plain (Calls.spliced_cons (thn (he pins s1 σ H1 _ I1 q1) fun iv s2 ⟨y, H2, I2, ry, kvs, k, v, ea, ey, l, q2⟩ => Calls.spliced_nil ?_)))
  subst ey
  exact d_pop I2 ea ry l (.inl rfl) fun w' s3 I3 rw' => ⟨v, _, I3, rw', q2⟩
theorem pe_dpop2 (ho : PE X o td) (he : PE X e ty) (hf : PE X f tx) (m : M2 X o "pop" apos e f cpos) : PE X (.Call (.Attribute o "pop" apos) [e, f] [] cpos) (tDPop2 td ty tx) := by
  intro pins s σ H Q I h
  refine wpAny_Call_method m.base m.few m.line PySem.F.plainAttrs_dict PySem.F.slot_dict_pop PySem.F.type_dict_pop (thn (ho pins s σ H _ I h) fun u s1 ⟨x, H1, I1, rx, a, ex, d, q1⟩ => ?_)
  subst ex
  obtain rfl : u = Value.ref a := rx
  obtain ⟨t1, t2, _⟩ := isD_at I1 d
  refine ⟨t1, t2, ?_⟩
  rw [m.trees]
  refine Calls.callWith_builtin rfl (Calls.evalArgs_plain (Calls.spliced_cons (thn (he pins s1 σ H1 _ I1 q1) fun iv s2 ⟨y, H2, I2, ry, q2⟩ =>
    Calls.spliced_cons (thn (hf pins s2 σ H2 _ I2 q2) fun fv s3 ⟨z, H3, I3, rz, kvs, k, ea, ey, q3, q4⟩ => Calls.spliced_nil ?_))))
  subst ey
  cases l : valV kvs k with
  | some v => exact d_pop I3 ea ry l (.inr ⟨fv, rfl⟩) fun w' s4 I4 rw' => ⟨v, _, I4, rw', q3 v l⟩
  | none => exact d_popD I3 ea ry l fun s4 I4 => ⟨z, H3, I4, rz, q4 l⟩
end

/-! ### dict(d): a copy -/
section
variable {X : Cx} {pins : List (Addr × Obj)} {σ : St} {H : Hp} {s : Shared} {a : Addr} {kvs : List (Key × V)} {A : Around} {E : Value → Shared → Prop}
theorem d_copyOf {Q : Value → Shared → Prop} (I : Inv X pins σ H s) (e : Rd H a (.dK kvs)) (h : ∀ p s', H p = none → Inv X pins σ (upd H p (.dK kvs)) s' → Q (.ref p) s') : wpAny (model X.prog X.w) A (call (.type "dict") [.ref a]) Q E s := by
  obtain ⟨z, hd, vs, rel, dd⟩ := dk_rd I.hok e
  refine kt_call_dict hd dd (by rw [← rel.length]; exact z) fun h' dd' hs => ?_
  refine h _ _ (I.hok.fresh (Nat.le_refl _)) (I.laid (a := s.heap.objs.size) (o := .dK kvs) (t' := s.toks) (fun b q hq => ?_) (Nat.le_refl _) (dk_new z (beq_eq_false_iff_ne.mpr (Ne.symm (Nat.ne_of_lt I.big))) rel dd'))
  exact (hs.2 b (Nat.ne_of_lt (Heap.lt_size hq))).trans (Heap.get?_push_of_some _ hq)
end


section
variable {X : Cx} {pins : List (Addr × Obj)} {σ : St} {H : Hp} {s : Shared} {a : Addr} {y : V} {u : Value} {A : Around} {E : Value → Shared → Prop}
/-- d[y], not there: a KeyError -/
theorem d_missing {Q : Value → Shared → Prop} (hu : A.units + 1 < cLine) (hh : A.handled = none) (I : Inv X pins σ H s) (g : DGet H a y none) (ry : RelV y u)
    (h : ∀ h' e t', Heap.NewExc s.heap h' e "KeyError" → E (.ref e) { s with heap := h', toks := t' }) : wpAny (model X.prog X.w) A (getItem (.ref a) u) Q E s := by
  rcases g with ⟨kvs, k, e, ey, l⟩ | ⟨kvs, k, b, e, ey, eb, l⟩
  · subst ey
    obtain ⟨z, hd, vs, rel, dd⟩ := dk_rd I.hok e
    have hn : valueAt vs k = none := RelO.none_of (by rw [l]; exact rel.val k)
    exact wpAny_getItem_missing_of (kV_is ry) hd hh dd.mapOf hn fun h' ex ne => h h' ex _ ne
  · subst ey
    cases (show u = Value.ref b from ry)
    obtain ⟨z, hd, xs, rel, dd⟩ := dt_rd I.hok e
    have hn : (atKey xs k).map (·.2) = none := RelO.none_of (by rw [l]; exact rel.val k)
    exact wpAny_getItem_missing_heap (tupleKind_room_in1 hu) (key_of I.hok eb) hd hh dd (Option.map_eq_none_iff.mp hn) fun h' ex ne => h h' ex _ ne
end
end L2
namespace L2
open PySem PySem.Spec PyProof.Rows
/-! ### a dict's pairs: keys that differ -/
section
variable {κ : Type} [DecidableEq κ]
theorem valV_not {kvs : List (κ × V)} {k : κ} (h : valV kvs k = none) : ¬ k ∈ kvs.map (·.1) := by
  intro m
  obtain ⟨p, hp, e⟩ := List.mem_map.mp m
  have q : (kvs.any fun kv => decide (kv.1 = k)) = true := List.any_eq_true.mpr ⟨p, hp, decide_eq_true e⟩
  rw [valV_any, h] at q
  exact absurd q (by simp)
theorem valV_in {kvs : List (κ × V)} {k : κ} {v : V} (h : valV kvs k = some v) : k ∈ kvs.map (·.1) := by
  have q : (kvs.any fun kv => decide (kv.1 = k)) = true := by
    rw [valV_any, h]
    all_goals rfl
  obtain ⟨p, hp, e⟩ := List.any_eq_true.mp q
  exact List.mem_map.mpr ⟨p, hp, of_decide_eq_true e⟩
theorem nd_snoc : ∀ {l : List κ} {k : κ}, l.Nodup → ¬ k ∈ l → (l ++ [k]).Nodup
  | [], k, _, _ => by simp
  | a :: r, k, h, hk => by
    obtain ⟨h1, h2⟩ := List.nodup_cons.mp h
    show (a :: (r ++ [k])).Nodup
    refine List.nodup_cons.mpr ⟨fun m => ?_, nd_snoc h2 fun m => hk (List.mem_cons.mpr (Or.inr m))⟩
    rcases List.mem_append.mp m with q | q
    · exact h1 q
    · exact hk (List.mem_cons.mpr (Or.inl (List.mem_singleton.mp q).symm))
theorem nd_putK {kvs : List (κ × V)} {k : κ} (v : V) (hn : (kvs.map (·.1)).Nodup) (h : valV kvs k = none) : ((putK kvs k v).map (·.1)).Nodup := by
  rw [putK_new v h, List.map_append]
  exact nd_snoc hn (valV_not h)
theorem dropK_pos {p : κ × V} {r : List (κ × V)} {k : κ} (e : p.1 = k) : dropK (p :: r) k = dropK r k := by
  unfold dropK
  rw [List.filter_cons, if_neg (by simp [e])]
theorem dropK_neg {p : κ × V} {r : List (κ × V)} {k : κ} (e : ¬ p.1 = k) : dropK (p :: r) k = p :: dropK r k := by
  unfold dropK
  rw [List.filter_cons, if_pos (by simp [e])]
theorem dropK_no : ∀ {kvs : List (κ × V)} {k : κ}, ¬ k ∈ kvs.map (·.1) → dropK kvs k = kvs
  | [], _, _ => rfl
  | p :: r, k, h => by
    have h' : ¬ k ∈ r.map (·.1) := fun m => by
      obtain ⟨q, hq, e⟩ := List.mem_map.mp m
      exact h (List.mem_map.mpr ⟨q, List.mem_cons.mpr (Or.inr hq), e⟩)
    rw [dropK_neg fun e => h (List.mem_map.mpr ⟨p, List.mem_cons.mpr (Or.inl rfl), e⟩), dropK_no h']
theorem dropK_mem {kvs : List (κ × V)} {k : κ} {p : κ × V} (h : p ∈ dropK kvs k) : p ∈ kvs := (List.mem_filter.mp h).1
theorem nd_dropK : ∀ {kvs : List (κ × V)} {k : κ}, (kvs.map (·.1)).Nodup → ((dropK kvs k).map (·.1)).Nodup
  | [], _, _ => List.nodup_nil
  | p :: r, k, h => by
    have h : (p.1 :: r.map (·.1)).Nodup := h
    obtain ⟨h1, h2⟩ := List.nodup_cons.mp h
    by_cases e : p.1 = k
    · rw [dropK_pos e]
      exact nd_dropK h2
    · rw [dropK_neg e]
      show (p.1 :: (dropK r k).map (·.1)).Nodup
      refine List.nodup_cons.mpr ⟨fun m => h1 ?_, nd_dropK h2⟩
      obtain ⟨q, hq, eq⟩ := List.mem_map.mp m
      exact List.mem_map.mpr ⟨q, dropK_mem hq, eq⟩
theorem dropK_len : ∀ {kvs : List (κ × V)} {k : κ}, (kvs.map (·.1)).Nodup → k ∈ kvs.map (·.1) → (dropK kvs k).length + 1 = kvs.length
  | [], _, _, m => by simp at m
  | p :: r, k, h, m => by
    have h : (p.1 :: r.map (·.1)).Nodup := h
    have m : k = p.1 ∨ k ∈ r.map (·.1) := List.mem_cons.mp m
    obtain ⟨h1, h2⟩ := List.nodup_cons.mp h
    by_cases e : p.1 = k
    · subst e
      rw [dropK_pos rfl, dropK_no h1]
      all_goals rfl
    · have m' : k ∈ r.map (·.1) := m.resolve_left fun z => e z.symm
      have q := dropK_len h2 m'
      rw [dropK_neg e, List.length_cons, List.length_cons]
      omega
end
end L2


/-! part L3a -/
set_option Elab.async false
set_option linter.all false
set_option maxRecDepth 100000
set_option maxHeartbeats 4000000
namespace L2
open PySem PySem.Spec PyProof.Rows

/-! ### what stays: lists at S may be written, all else that was there stays, tuples always -/
structure Kp (S : List Addr) (H H' : Hp) : Prop where
  old : ∀ a o, H a = some o → a ∉ S → H' a = some o
  tup : ∀ a xs, H a = some (.tup xs) → H' a = some (.tup xs)
  dom : ∀ a o, H a = some o → ∃ o', H' a = some o'
theorem Kp.refl (S : List Addr) (H : Hp) : Kp S H H := ⟨fun _ _ e _ => e, fun _ _ e => e, fun _ o e => ⟨o, e⟩⟩
theorem Kp.trans {S : List Addr} {H H1 H2 : Hp} (a : Kp S H H1) (b : Kp S H1 H2) : Kp S H H2 :=
  ⟨fun c o e n => b.old c o (a.old c o e n) n, fun c xs e => b.tup c xs (a.tup c xs e), fun c o e => let ⟨o', e'⟩ := a.dom c o e; b.dom c o' e'⟩
theorem Kp.mono {S S' : List Addr} {H H1 : Hp} (a : Kp S H H1) (h : ∀ x ∈ S, x ∈ S') : Kp S' H H1 := ⟨fun c o e n => a.old c o e fun z => n (h c z), a.tup, a.dom⟩
theorem Kp.free {S : List Addr} {H H1 : Hp} (k : Kp S H H1) {p : Addr} (h : H1 p = none) : H p = none := by
  cases e : H p with
  | none => rfl
  | some o => obtain ⟨o', e'⟩ := k.dom p o e; rw [h] at e'; cases e'
/-- the second step may write what is new since the first -/
theorem Kp.trans' {S S' : List Addr} {H H1 H2 : Hp} (a : Kp S H H1) (b : Kp S' H1 H2) (h : ∀ x ∈ S', x ∈ S ∨ H x = none) : Kp S H H2 :=
  ⟨fun c o e n => b.old c o (a.old c o e n) fun z => by
    rcases h c z with q | q
    · exact n q
    · (rw [q] at e; exact nomatch e), fun c xs e => b.tup c xs (a.tup c xs e), fun c o e => let ⟨o', e'⟩ := a.dom c o e; b.dom c o' e'⟩
theorem Kp.new {S : List Addr} {H H1 : Hp} (k : Kp S H H1) {p : Addr} {o : HO} (h : H1 p = none) : Kp S H (upd H1 p o) :=
  ⟨fun c u e n => by rw [upd_ne (ne_of_none (k.old c u e n) h)]; exact k.old c u e n, fun c xs e => by rw [upd_ne (ne_of_none (k.tup c xs e) h)]; exact k.tup c xs e,
    fun c u e => by
      obtain ⟨o', e'⟩ := k.dom c u e
      exact ⟨o', by rw [upd_ne (ne_of_none e' h)]; exact e'⟩⟩
theorem Kp.set {S : List Addr} {H H1 : Hp} (k : Kp S H H1) {b : Addr} {xs : List V} {o : HO} (hb : H1 b = some (.lst xs)) (h : b ∈ S ∨ H b = none) : Kp S H (upd H1 b o) :=
  ⟨fun c u e n => by
    have : c ≠ b := by
      rintro rfl
      rcases h with h | h
      · exact n h
      · rw [h] at e; cases e
    rw [upd_ne this]; exact k.old c u e n,
   fun c ys e => by
    have e1 := k.tup c ys e
    rw [upd_ne (ne_of e1 hb (by intro z; cases z))]; exact e1,
   fun c u e => by
    obtain ⟨o', e'⟩ := k.dom c u e
    by_cases q : c = b
    · subst q; exact ⟨o, upd_same⟩
    · exact ⟨o', by rw [upd_ne q]; exact e'⟩⟩

/-! ### union rules -/
def lstOf : Option HO → Option (List V)
  | some (.lst xs) => some xs
  | _ => none
def tupOf : Option HO → Option (List V)
  | some (.tup xs) => some xs
  | _ => none
def seqOf : Option HO → Option (List V)
  | some (.lst xs) => some xs
  | some (.tup xs) => some xs
  | _ => none
theorem lstOf_lst (xs : List V) : lstOf (some (.lst xs)) = some xs := rfl
theorem tupOf_tup (xs : List V) : tupOf (some (.tup xs)) = some xs := rfl
theorem seqOf_lst (xs : List V) : seqOf (some (.lst xs)) = some xs := rfl
theorem seqOf_tup (xs : List V) : seqOf (some (.tup xs)) = some xs := rfl
theorem of_lstOf {o : Option HO} {xs : List V} (h : lstOf o = some xs) : o = some (.lst xs) := by
  unfold lstOf at h
  split at h
  · cases h; rfl
  · cases h
theorem of_tupOf {o : Option HO} {xs : List V} (h : tupOf o = some xs) : o = some (.tup xs) := by
  unfold tupOf at h
  split at h
  · cases h; rfl
  · cases h
theorem of_seqOf {o : Option HO} {xs : List V} (h : seqOf o = some xs) : o = some (.lst xs) ∨ o = some (.tup xs) := by
  unfold seqOf at h
  split at h
  · cases h; exact .inl rfl
  · cases h; exact .inr rfl
  · cases h
section
variable {X : Cx}
def rAddU : R2 := fun x y H Q => match x, y with
  | .int i, .int j => Q (.int (i + j)) H
  | .str i, .str j => i.length + j.length ≤ sizeLine ∧ Q (.str (i ++ j)) H
  | .ref l, .ref b => ∃ xs, lstOf (H l) = some xs ∧ ∃ zs, lstOf (H b) = some zs ∧ xs.length + zs.length ≤ sizeLine ∧ ∀ p, H p = none → Q (.ref p) (upd H p (.lst (xs ++ zs)))
  | _, _ => False
theorem op_addU : OpR X (binaryOp .Add) rAddU := by
  intro pins s σ H x y v u Q I rx ry h
  cases x with
  | int i => cases y with
    | int j => exact op_add pins s σ H _ _ v u Q I rx ry ⟨i, j, rfl, rfl, h⟩
    | _ => exact False.elim h
  | str i => cases y with
    | str j => exact op_add_str pins s σ H _ _ v u Q I rx ry ⟨i, j, rfl, rfl, h⟩
    | _ => exact False.elim h
  | ref l => cases y with
    | ref b =>
      obtain ⟨xs, e1, zs, e2, h⟩ := h
      exact op_cat pins s σ H _ _ v u Q I rx ry ⟨l, b, xs, zs, rfl, rfl, of_lstOf e1, of_lstOf e2, h⟩
    | _ => exact False.elim h
  | _ => exact False.elim h
def rMulU : R2 := fun x y H Q => match x, y with
  | .int i, .int j => CMul i j ∧ Q (.int (i * j)) H
  | _, _ => False
theorem op_mulU : OpR X (binaryOp .Mult) rMulU := by
  intro pins s σ H x y v u Q I rx ry h
  cases x with
  | int i => cases y with
    | int j => exact op_mul pins s σ H _ _ v u Q I rx ry ⟨i, j, rfl, rfl, h⟩
    | _ => exact False.elim h
  | _ => exact False.elim h
def rLtU : R2 := fun x y H Q => match x, y with
  | .int i, .int j => Q (.bl (decide (i < j))) H
  | .str i, .str j => Q (.bl (decide (i.cps.toList < j.cps.toList))) H
  | _, _ => False
theorem op_ltU : OpR X (compareOp .Lt) rLtU := by
  intro pins s σ H x y v u Q I rx ry h
  cases x with
  | int i => cases y with
    | int j => exact op_lt pins s σ H _ _ v u Q I rx ry ⟨i, j, rfl, rfl, h⟩
    | _ => exact False.elim h
  | str i => cases y with
    | str j => exact op_lt_str pins s σ H _ _ v u Q I rx ry ⟨i, j, rfl, rfl, h⟩
    | _ => exact False.elim h
  | _ => exact False.elim h
def rLeU : R2 := fun x y H Q => match x, y with
  | .int i, .int j => Q (.bl (decide (i ≤ j))) H
  | .str i, .str j => Q (.bl (!decide (j.cps.toList < i.cps.toList))) H
  | _, _ => False
theorem op_leU : OpR X (compareOp .LtE) rLeU := by
  intro pins s σ H x y v u Q I rx ry h
  cases x with
  | int i => cases y with
    | int j => exact op_le pins s σ H _ _ v u Q I rx ry ⟨i, j, rfl, rfl, h⟩
    | _ => exact False.elim h
  | str i => cases y with
    | str j =>
      obtain ⟨t, rfl⟩ := rx
      obtain ⟨t', rfl⟩ := ry
      exact PySem.P.le_str (fin_bl I h (by rfl))
    | _ => exact False.elim h
  | _ => exact False.elim h
/-- subscripts -/
def rIxU : R2 := fun x y H Q => match x, y with
  | .str z, .int i => z.length ≤ sizeLine ∧ ∃ c, atI z.cps.toList i = some c ∧ Q (.str ⟨#[c]⟩) H
  | .ref p, .int i => ∃ xs, seqOf (H p) = some xs ∧ ∃ v, atI xs i = some v ∧ Q v H
  | _, _ => False
theorem ix_U : IxR X rIxU := by
  intro value slice pins s σ H x y v u Q I rx ry h hs
  cases x with
  | str z => cases y with
    | int i => obtain ⟨h1, c, h2, h3⟩ := h; exact ix_str value slice pins s σ H _ _ v u Q I rx ry ⟨z, i, c, rfl, rfl, h1, h2, h3⟩ hs
    | _ => exact False.elim h
  | ref p => cases y with
    | int i =>
      obtain ⟨xs, e, w, h2, h3⟩ := h
      rcases of_seqOf e with e | e
      · exact ix_list value slice pins s σ H _ _ v u Q I rx ry ⟨p, xs, i, w, rfl, rfl, SqL.of e, h2, h3⟩ hs
      · exact ix_tup value slice pins s σ H _ _ v u Q I rx ry ⟨p, xs, i, w, rfl, rfl, SqT.of e, h2, h3⟩ hs
    | _ => exact False.elim h
  | _ => exact False.elim h
theorem atI_0 {α : Type} (x : α) (r : List α) : atI (x :: r) 0 = some x := atI_nat (j := 0) rfl
theorem atI_1 {α : Type} (x y : α) (r : List α) : atI (x :: y :: r) 1 = some y := atI_nat (j := 1) rfl
theorem atI_2 {α : Type} (x y z : α) (r : List α) : atI (x :: y :: z :: r) 2 = some z := atI_nat (j := 2) rfl
theorem atI_of {α : Type} {xs : List α} {i : Int} {v : α} (h0 : 0 ≤ i) (h : xs[i.toNat]? = some v) : atI xs i = some v := by
  have := atI_nat (xs := xs) (j := i.toNat) h
  rwa [Int.toNat_of_nonneg h0] at this
/-- xs[i] = v -/
def rSetU : V → V → V → Hp → (Hp → Prop) → Prop := fun o i v H Q => match o, i with
  | .ref p, .int k => ∃ xs, lstOf (H p) = some xs ∧ ∃ j, ixN xs.length k = some j ∧ Q (upd H p (.lst (xs.set j v)))
  | _, _ => False
theorem set_U : PSet X rSetU := by
  intro pins s σ H o i v ov iv u Q I ro ri rv h
  cases o with
  | ref p => cases i with
    | int k =>
      obtain ⟨xs, e, j, h1, h2⟩ := h
      exact set_list pins s σ H _ _ v ov iv u Q I ro ri rv ⟨p, xs, k, j, rfl, rfl, of_lstOf e, h1, h2⟩
    | _ => exact False.elim h
  | _ => exact False.elim h
/-- calls -/
def rLenU : List V → Hp → VK → Prop := fun xs H Q => match xs with
  | [.str z] => z.length ≤ sizeLine ∧ Q (.int z.length) H
  | [.ref p] => ∃ ys, seqOf (H p) = some ys ∧ Q (.int ys.length) H
  | _ => False
theorem call_lenU : CallR X (.builtin "len") rLenU := by
  intro pins s σ H xs us Q I r h
  unfold rLenU at h
  split at h
  · rename_i z; exact call_len_str pins s σ H _ us Q I r ⟨z, rfl, h⟩
  · rename_i p
    obtain ⟨ys, e, h⟩ := h
    rcases of_seqOf e with e | e
    · exact call_len_seq pins s σ H _ us Q I r ⟨p, ys, rfl, .inl (SqL.of e), h⟩
    · exact call_len_seq pins s σ H _ us Q I r ⟨p, ys, rfl, .inr (SqT.of e), h⟩
  · exact h.elim
def rMinU : List V → Hp → VK → Prop := fun xs H Q => match xs with
  | [.int i, .int j] => Q (.int (if j < i then j else i)) H
  | _ => False
theorem call_minU (hc : X.calm = true) : CallR X (.builtin "min") rMinU := by
  intro pins s σ H xs us Q I r h
  unfold rMinU at h
  split at h
  · rename_i i j; exact call_min2 hc pins s σ H _ us Q I r ⟨i, j, rfl, h⟩
  · exact h.elim
def rMaxU : List V → Hp → VK → Prop := fun xs H Q => match xs with
  | [.int i, .int j] => Q (.int (if j > i then j else i)) H
  | _ => False
theorem call_maxU (hc : X.calm = true) : CallR X (.builtin "max") rMaxU := by
  intro pins s σ H xs us Q I r h
  unfold rMaxU at h
  split at h
  · rename_i i j; exact call_max2 hc pins s σ H _ us Q I r ⟨i, j, rfl, h⟩
  · exact h.elim
def rIntU : List V → Hp → VK → Prop := fun xs H Q => match xs with
  | [.int i] => Q (.int i) H
  | [.bl k] => Q (.int (if k then 1 else 0)) H
  | _ => False
theorem call_intU : CallR X (.type "int") rIntU := by
  intro pins s σ H xs us Q I r h
  unfold rIntU at h
  split at h
  · rename_i i; exact call_int1 pins s σ H _ us Q I r (.inl ⟨i, rfl, h⟩)
  · rename_i k; exact call_int1 pins s σ H _ us Q I r (.inr ⟨k, rfl, h⟩)
  · exact h.elim
/-- the signs of a text, as texts -/
def sgn (z : Str) : List V := z.cps.toList.map fun c => V.str ⟨#[c]⟩
theorem sgn_len (z : Str) : (sgn z).length = z.length := by simp [sgn, Str.length]
theorem vals_sgn {z : Str} {acc : Array Value} (h : ItemsOf (SignAt z) acc z.cps.size) : Vals (sgn z) acc.toList := by
  obtain ⟨h1, h2⟩ := h
  have hl : (sgn z).length = acc.toList.length := by simp [sgn, h1]
  have gen : ∀ (xs : List V) (us : List Value), xs.length = us.length → (∀ (i : Nat) (x : V) (u : Value), xs[i]? = some x → us[i]? = some u → RelV x u) → Vals xs us := by
    intro xs
    induction xs with
    | nil => intro us hl _; cases us with
      | nil => exact .nil
      | cons _ _ => simp at hl
    | cons x xs ih => intro us hl h; cases us with
      | nil => simp at hl
      | cons u us => exact .cons (h 0 x u rfl rfl) (ih us (by simpa using hl) fun i a b e1 e2 => h (i + 1) a b (by simpa using e1) (by simpa using e2))
  refine gen _ _ hl fun i x u e1 e2 => ?_
  obtain ⟨c, t, hc, hu⟩ := h2 i u (by simpa using e2)
  subst hu
  simp only [sgn, List.getElem?_map] at e1
  have : z.cps.toList[i]? = some c := by simpa using hc
  rw [this] at e1
  have e1' : V.str ⟨#[c]⟩ = x := Option.some.inj e1
  subst e1'
  exact ⟨t, rfl⟩
def rListU : List V → Hp → VK → Prop := fun xs H Q => match xs with
  | [.str z] => z.length ≤ sizeLine ∧ ∀ l, H l = none → Q (.ref l) (upd H l (.lst (sgn z)))
  | [.ref p] => ∃ ys, seqOf (H p) = some ys ∧ ∀ l, H l = none → Q (.ref l) (upd H l (.lst ys))
  | _ => False
theorem call_listU (hc : X.calm = true) : CallR X (.type "list") rListU := by
  intro pins s σ H xs us Q I r h
  unfold rListU at h
  split at h
  · rename_i z
    obtain ⟨u, rfl, t, rfl⟩ := vals1 r
    obtain ⟨hz, q⟩ := h
    refine call_list_str (I.ok.hd hc) z t (fun h' tk acc c hk hn hi => ?_) hz
    have hf := I.hok.fresh (Nat.le_refl s.heap.objs.size)
    refine ⟨.ref s.heap.objs.size, upd H s.heap.objs.size (.lst (sgn z)), I.laid hk (Nat.le_refl _) ⟨by rw [sgn_len]; exact hz, acc.toList, c, vals_sgn hi, by simpa using hn⟩, rfl, q _ hf⟩
  · rename_i p
    obtain ⟨ys, e, h⟩ := h
    rcases of_seqOf e with e | e
    · exact call_list_of pins s σ H _ us Q I r ⟨p, ys, rfl, .inl (SqL.of e), h⟩
    · exact call_list_of pins s σ H _ us Q I r ⟨p, ys, rfl, .inr (SqT.of e), h⟩
  · exact h.elim
/-- xs.pop(i), 0 ≤ i < len -/
def rPopU : V → List V → Hp → VK → Prop := fun x vs H Q => match x, vs with
  | .ref l, [.int i] => ∃ xs, lstOf (H l) = some xs ∧ 0 ≤ i ∧ ∃ y, xs[i.toNat]? = some y ∧ Q y (upd H l (.lst (xs.eraseIdx i.toNat)))
  | _, _ => False
theorem mt_popU : MtM X "list.pop" rPopU := by
  intro pins s σ H x vs v us Q I rx rv h
  unfold rPopU at h
  split at h
  · rename_i l i
    obtain ⟨xs, e, h0, y, hy, q⟩ := h
    have e := of_lstOf e
    have hz := (I.lstM e).1
    have hlt : i.toNat < xs.length := (List.getElem?_eq_some_iff.mp hy).1
    have hs : sizeLine = 16777216 := sizeLine_eq
    refine mt_popAt pins s σ H _ _ v us Q I rx rv ⟨l, xs, i, i.toNat, y, rfl, rfl, e, by omega, by omega, ?_, hy, q⟩
    exact seqIndex_of h0 (by omega)
  · exact h.elim
/-- isinstance(x, a built-in type) -/
def rIsU (K : PySem.W.Frag) : List V → Hp → VK → Prop := fun xs H Q => match xs with
  | [x, .ty c] => ∃ t b, TyOf K H x t ∧ PySem.W.kitOne K t (.type c) = some b ∧ Q (.bl b) H
  | _ => False
theorem call_isinstanceU : CallR X (.builtin "isinstance") (rIsU X.K) := by
  intro pins s σ H xs us Q I r h
  unfold rIsU at h
  split at h
  · rename_i x c
    obtain ⟨t, b, ty, e, q⟩ := h
    obtain ⟨u, w', rfl, rx, rc⟩ := vals2 r
    cases rc
    exact isinst_ok I rx ty e fun tk => ⟨.bl b, H, I.tok tk, rfl, q⟩
  · exact h.elim
/-! ### walks over a text, a list, a tuple -/
def ItS (z : Str) : It := ⟨fun i _ => i < z.length, fun i H x H' => H' = H ∧ ∃ c, z.cps.toList[i]? = some c ∧ x = .str ⟨#[c]⟩, fun i _ => z.length ≤ i⟩
theorem turn_strA {P : Program} {w : World} {K : PySem.W.Frag} {tg : Expr} (z : Str) (t : Tok) (it : Addr) : Turn P w K tg (ItS z) [it] it (fun i h => h.IsStrIter it "str_ascii_iterator" z t i) where
  mem := by simp
  obj := fun i h st b hb => by
    have e : b = it := by simpa using hb
    subst e
    obtain ⟨o, e, c, d⟩ := st
    exact ⟨o, e, fun v z => by rw [d] at z; cases z⟩
  keep := fun i h h' st k => let ⟨o, ho, r⟩ := st; ⟨o, k it (by simp) o ho, r⟩
  item := by
    intro X hP hw hK hc i pins s σ H E I hf st hg
    subst hP hw hK
    obtain ⟨f0, f1, f2, f3, f4, f5⟩ := hf it (by simp)
    have hi : i < z.cps.size := hg
    refine wpAny_pyNext_ascii_item st (c := z.cps[i]) (by simp [hi]) fun h' st' sb => ?_
    have I1 : Inv X pins σ H { s with heap := h', toks := s.toks + 1 } := I.turned (t' := s.toks + 1) (fun b o hb e => (sb.2 b hb).trans e) f0 f1 f3 f4 f5
    obtain ⟨o, e, c, d⟩ := id st'
    exact ⟨_, rfl, go_of (s := { s with heap := h', toks := s.toks + 1 }) e c d (by decide) ⟨.str ⟨#[z.cps[i]]⟩, H, I1, ⟨_, rfl⟩, ⟨rfl, _, by simp [hi], rfl⟩, st', fun b hb => (hf b hb).1⟩⟩
  done := by
    intro X hP hw hK hc i pins s σ H E I hf st hg
    subst hP hw hK
    obtain ⟨f0, f1, f2, f3, f4, f5⟩ := hf it (by simp)
    have hi : z.cps.size ≤ i := hg
    exact wpAny_pyNext_ascii_end (I.ok.hd hc) st (by simp [hi]) fun h' eb => ⟨rfl, I.turned (t' := s.toks) (fun b o hb e => eb b o hb e) f0 f1 f3 f4 f5⟩
  self := fun _ _ _ _ _ st h => wpAny_pyIter_striter_ascii st h
theorem turn_strW {P : Program} {w : World} {K : PySem.W.Frag} {tg : Expr} (z : Str) (t : Tok) (it : Addr) : Turn P w K tg (ItS z) [it] it (fun i h => h.IsStrIter it "str_iterator" z t i) where
  mem := by simp
  obj := fun i h st b hb => by
    have e : b = it := by simpa using hb
    subst e
    obtain ⟨o, e, c, d⟩ := st
    exact ⟨o, e, fun v z => by rw [d] at z; cases z⟩
  keep := fun i h h' st k => let ⟨o, ho, r⟩ := st; ⟨o, k it (by simp) o ho, r⟩
  item := by
    intro X hP hw hK hc i pins s σ H E I hf st hg
    subst hP hw hK
    obtain ⟨f0, f1, f2, f3, f4, f5⟩ := hf it (by simp)
    have hi : i < z.cps.size := hg
    refine wpAny_pyNext_wide_item st (c := z.cps[i]) (by simp [hi]) fun h' st' sb => ?_
    have I1 : Inv X pins σ H { s with heap := h', toks := s.toks + 1 } := I.turned (t' := s.toks + 1) (fun b o hb e => (sb.2 b hb).trans e) f0 f1 f3 f4 f5
    obtain ⟨o, e, c, d⟩ := id st'
    exact ⟨_, rfl, go_of (s := { s with heap := h', toks := s.toks + 1 }) e c d (by decide) ⟨.str ⟨#[z.cps[i]]⟩, H, I1, ⟨_, rfl⟩, ⟨rfl, _, by simp [hi], rfl⟩, st', fun b hb => (hf b hb).1⟩⟩
  done := by
    intro X hP hw hK hc i pins s σ H E I hf st hg
    subst hP hw hK
    obtain ⟨f0, f1, f2, f3, f4, f5⟩ := hf it (by simp)
    have hi : z.cps.size ≤ i := hg
    exact wpAny_pyNext_wide_end (I.ok.hd hc) st (by simp [hi]) fun h' eb => ⟨rfl, I.turned (t' := s.toks) (fun b o hb e => eb b o hb e) f0 f1 f3 f4 f5⟩
  self := fun _ _ _ _ _ st h => wpAny_pyIter_striter_wide st h
def iAny (K : PySem.W.Frag) (t : TE) : TI := fun σ H R => t σ H fun x H1 => match x with
  | .str z => R (ItS z) H1
  | .ref a => match H1 a with
    | some (.lst _) => R (Itl K a) H1
    | some (.tup _) => R (Itt K a) H1
    | _ => False
  | _ => False
theorem pi_any {tg l : Expr} {tl : TE} (hl : PE X l tl) : PI X tg l (iAny X.K tl) := by
  intro pins s σ H R I h
  refine thn (hl pins s σ H _ I h) fun v s1 ⟨x, H1, I1, r1, q1⟩ => ?_
  cases x with
  | str z =>
    obtain ⟨t, rfl⟩ := r1
    have fr : ∀ b ∈ [s1.heap.objs.size], FpOk X pins H1 b := fun b hb => by
      have e : b = s1.heap.objs.size := by simpa using hb
      subst e
      exact I1.fpOk (Nat.le_refl _) (I1.hok.fresh (Nat.le_refl _))
    cases ha : z.cps.all (· < 128)
    · exact wpAny_pyIter_wide ha ⟨s1.heap.objs.size, [s1.heap.objs.size], _, _, H1, rfl, I1.kept (t' := s1.toks) fun b o e => Heap.get?_push_of_some _ e, turn_strW z t _, ⟨_, Heap.get?_push_size _ rfl, rfl, rfl⟩, fr, q1⟩
    · exact wpAny_pyIter_ascii ha ⟨s1.heap.objs.size, [s1.heap.objs.size], _, _, H1, rfl, I1.kept (t' := s1.toks) fun b o e => Heap.get?_push_of_some _ e, turn_strA z t _, ⟨_, Heap.get?_push_size _ rfl, rfl, rfl⟩, fr, q1⟩
  | ref a =>
    cases r1
    have fr : ∀ b ∈ [s1.heap.objs.size], FpOk X pins H1 b := fun b hb => by
      have e : b = s1.heap.objs.size := by simpa using hb
      subst e
      exact I1.fpOk (Nat.le_refl _) (I1.hok.fresh (Nat.le_refl _))
    simp only at q1
    split at q1
    · rename_i xs e
      obtain ⟨its, rv, p, hz⟩ := I1.list (SqL.of e)
      exact wpAny_pyIter_list p.isList ⟨s1.heap.objs.size, [s1.heap.objs.size], _, _, H1, rfl, I1.kept (t' := s1.toks) fun b o e => Heap.get?_push_of_some _ e, turn_list a _, ⟨_, Heap.get?_push_size _ rfl, rfl, rfl⟩, fr, q1⟩
    · rename_i xs e
      obtain ⟨its, rv, p, hz⟩ := I1.tuple (SqT.of e)
      exact wpAny_pyIter_tuple (show s1.heap.IsTuple a its.toArray from p) ⟨s1.heap.objs.size, [s1.heap.objs.size], _, _, H1, rfl, I1.kept (t' := s1.toks) fun b o e => Heap.get?_push_of_some _ e, turn_tuple a _, ⟨_, Heap.get?_push_size _ rfl, rfl, rfl⟩, fr, q1⟩
    · exact q1.elim
  | _ => exact False.elim q1
theorem for_str {z : Str} {g : TG} {tb : TS} {D : Ends} {σ : St} {H : Hp} (Pv : Nat → St → Hp → Prop) (h0 : Pv 0 σ H)
    (hs : ∀ i c σ H, z.cps.toList[i]? = some c → Pv i σ H → g (.str ⟨#[c]⟩) σ H fun σ2 H2 => tb { D with nx := Pv (i + 1), ct := Pv (i + 1), bk := D.nx } σ2 H2) (hd : ∀ σ H, Pv z.length σ H → D.nx σ H) :
    ∃ W : Nat → Nat → St → Hp → Prop, (∃ m, W 0 m σ H) ∧ ∀ i m σ H, W i m σ H →
      ((ItS z).stop i H ∧ D.nx σ H) ∨ ((ItS z).go i H ∧ ∃ N : St → Hp → Prop, (∀ σ' H', N σ' H' → ∃ m', m' < m ∧ W (i + 1) m' σ' H') ∧ ∀ x H', (ItS z).yld i H x H' → g x σ H' fun σ2 H2 => tb { D with nx := N, ct := N, bk := D.nx } σ2 H2) := by
  refine ⟨fun i m σ H => m = z.length - i ∧ i ≤ z.length ∧ Pv i σ H, ⟨z.length, by simp, Nat.zero_le _, h0⟩, ?_⟩
  rintro i m σ H ⟨rfl, hi, p⟩
  by_cases hlt : i < z.length
  · refine .inr ⟨hlt, Pv (i + 1), fun σ' H' p' => ⟨z.length - (i + 1), by omega, rfl, hlt, p'⟩, fun x H' y => ?_⟩
    obtain ⟨e, c, e1, e2⟩ := y
    subst e e2
    exact hs i c σ _ e1 p
  · have e : i = z.length := by omega
    subst e
    exact .inl ⟨Nat.le_refl _, hd σ H p⟩
/-! ### data in the abstract heap -/
mutual
def Rep (H : Hp) : V → PyData → Prop
  | v, .none => v = .non
  | v, .bool b => v = .bl b
  | v, .int i => v = .int i
  | v, .str x => v = .str x
  | v, .list ds => ∃ a vs, v = .ref a ∧ H a = some (.lst vs) ∧ Reps H vs ds
  | v, .tuple ds => ∃ a vs, v = .ref a ∧ H a = some (.tup vs) ∧ Reps H vs ds
  | _, .dict _ => False
def Reps (H : Hp) : List V → List PyData → Prop
  | [], [] => True
  | v :: vs, d :: ds => Rep H v d ∧ Reps H vs ds
  | _, _ => False
end
theorem Reps.strs (H : Hp) : ∀ l : List Str, Reps H (l.map V.str) (l.map PyData.str)
  | [] => by simp [Reps]
  | x :: r => by simp [Reps, Rep, Reps.strs H r]
section
variable {pins : List (Addr × Obj)} {σ : L2.St} {H : Hp} {s : Shared}
mutual
theorem Rep.reads (I : Inv X pins σ H s) : ∀ {d : PyData} {v : V} {u : Value}, Rep H v d → RelV v u → ∃ as, Reads s.heap u d as
  | .none, v, u, h, r => by simp only [Rep] at h; subst h; cases r; exact ⟨_, .none⟩
  | .bool b, v, u, h, r => by simp only [Rep] at h; subst h; cases r; exact ⟨_, .bool b⟩
  | .int i, v, u, h, r => by simp only [Rep] at h; subst h; obtain ⟨t, rfl⟩ := r; exact ⟨_, .int i t⟩
  | .str x, v, u, h, r => by simp only [Rep] at h; subst h; obtain ⟨t, rfl⟩ := r; exact ⟨_, .str x t⟩
  | .list ds, v, u, h, r => by
    simp only [Rep] at h
    obtain ⟨a, vs, rfl, e, h⟩ := h
    cases r
    obtain ⟨its, rv, ⟨o, n, e1, e2, e3, e4⟩, hz⟩ := I.list (SqL.of e)
    obtain ⟨as, q⟩ := Reps.reads I h rv
    exact ⟨_, reads_list_at e1 e2 e4 (by simpa using q)⟩
  | .tuple ds, v, u, h, r => by
    simp only [Rep] at h
    obtain ⟨a, vs, rfl, e, h⟩ := h
    cases r
    obtain ⟨its, rv, ⟨o, e1, e2, n, e4⟩, hz⟩ := I.tuple (SqT.of e)
    obtain ⟨as, q⟩ := Reps.reads I h rv
    exact ⟨_, reads_tuple_at e1 e2 e4 (by simpa using q)⟩
  | .dict _, v, u, h, r => by simp only [Rep] at h
theorem Reps.reads (I : Inv X pins σ H s) : ∀ {ds : List PyData} {vs : List V} {us : List Value}, Reps H vs ds → Vals vs us → ∃ as, ReadsAll s.heap us ds as
  | [], [], us, h, r => by cases r; exact ⟨_, .nil⟩
  | [], v :: vs, us, h, r => by simp only [Reps] at h
  | d :: ds, [], us, h, r => by simp only [Reps] at h
  | d :: ds, v :: vs, us, h, r => by
    simp only [Reps] at h
    cases r with
    | cons r1 r2 =>
      obtain ⟨as, q⟩ := Rep.reads I h.1 r1
      obtain ⟨bs, q2⟩ := Reps.reads I h.2 r2
      exact ⟨_, .cons q q2⟩
end
end
/-! ### == and != of data -/
def rEqD : R2 := fun x y H Q => ∃ d e, Rep H x d ∧ Rep H y e ∧ SeqAt.shaped d = true ∧ SeqAt.shaped e = true ∧ Q (.bl (PyData.eqv d e)) H
theorem op_eqD (hu : X.A.units + 64 < cLine) : OpR X (compareOp .Eq) rEqD := by
  intro pins s σ H x y v u Q I rx ry h
  obtain ⟨d, e, hd, he, sd, se, q⟩ := h
  obtain ⟨as, r1⟩ := hd.reads I rx
  obtain ⟨bs, r2⟩ := he.reads I ry
  exact eq_dataH r1 r2 sd se hu ⟨.bl _, H, I, rfl, q⟩
def rNeD : R2 := fun x y H Q => ∃ d e, Rep H x d ∧ Rep H y e ∧ SeqAt.shaped d = true ∧ SeqAt.shaped e = true ∧ Q (.bl (!PyData.eqv d e)) H
theorem op_neD (hu : X.A.units + 64 < cLine) : OpR X (compareOp .NotEq) rNeD := by
  intro pins s σ H x y v u Q I rx ry h
  obtain ⟨d, e, hd, he, sd, se, q⟩ := h
  obtain ⟨as, r1⟩ := hd.reads I rx
  obtain ⟨bs, r2⟩ := he.reads I ry
  exact ne_dataH r1 r2 sd se hu ⟨.bl _, H, I, rfl, q⟩
theorem shaped_strs {l : List Str} (h : ∀ x ∈ l, PyData.strOk x = true) : SeqAt.shaped (.list (l.map PyData.str)) = true := by
  have h1 : ∀ l : List Str, (∀ x ∈ l, PyData.strOk x = true) → PyData.canLayAll0 (l.map PyData.str) = true := by
    intro l
    induction l with
    | nil => intro _; rfl
    | cons x r ih => intro h; simp [PyData.canLayAll0, PyData.canLay0, h x (.head _), ih fun y hy => h y (.tail _ hy)]
  have h2 : ∀ l : List Str, PyData.depthAll (l.map PyData.str) = 0 := by
    intro l
    induction l with
    | nil => rfl
    | cons x r ih => simp [PyData.depthAll, PyData.depth, ih]
  simp [SeqAt.shaped, PyData.canLay0, PyData.depth, h1 l h, h2 l]
theorem eqv_strs_self (l : List Str) : PyData.eqv (.list (l.map PyData.str)) (.list (l.map PyData.str)) = true := by
  have : ∀ l : List Str, PyData.eqvAll (l.map PyData.str) (l.map PyData.str) = true := by
    intro l
    induction l with
    | nil => rfl
    | cons x r ih => simp [PyData.eqvAll, PyData.eqv, ih]
  simp [PyData.eqv, this]
/-! ### x[::-1] of a text -/
def revS (z : Str) : Str := ⟨z.cps.reverse⟩
theorem rev_slice (z : Str) (u : Tok) : Txt.sliceBy z none none (-1, u) = revS z := by
  have h := step_rev_list z u
  have e : (List.range z.length).map (fun k => z.cps.getD (z.length - 1 - k) 0) = z.cps.toList.reverse := by
    apply List.ext_getElem?
    intro i
    by_cases hi : i < z.length
    · have hz : z.length = z.cps.size := rfl
      have hi' : z.cps.size - 1 - i < z.cps.size := by omega
      simp [hz, hi', Array.getD, hz ▸ hi]
    · have hz : z.length = z.cps.size := rfl
      have h1 : ((List.range z.length).map (fun k => z.cps.getD (z.length - 1 - k) 0))[i]? = none := List.getElem?_eq_none_iff.mpr (by simp; omega)
      have h2 : z.cps.toList.reverse[i]? = none := List.getElem?_eq_none_iff.mpr (by simp; omega)
      rw [h1, h2]
  rw [e] at h
  have h2 : (Txt.sliceBy z none none (-1, u)).cps = z.cps.reverse := by
    apply Array.ext'
    simpa using h
  show (⟨(Txt.sliceBy z none none (-1, u)).cps⟩ : Str) = ⟨z.cps.reverse⟩
  rw [h2]
def tRevS (te : TE) : TE := fun σ H Q => te σ H fun x H1 => ∃ z, x = .str z ∧ z.length ≤ sizeLine ∧ Q (.str (revS z)) H1
theorem pe_rev {e : Expr} {te : TE} {p1 p2 p3 p4 : Pos} {k : Nat} (he : PE X e te) (ht : ∀ o r, letTemporaryGo e o r = pure () := by intro _ _; with_unfolding_all rfl) :
    PE X (.Subscript e (.Slice none none (some (.UnaryOp .USub (.Constant (.int 1) k p1) p2)) p3) p4) (tRevS te) := by
  intro pins s σ H Q I h
  refine Subscript_ (thn (he pins s σ H _ I h) fun v s1 ⟨x, H1, I1, r1, q1⟩ => ?_)
  obtain ⟨z, rfl, hz, q⟩ := q1
  obtain ⟨t, rfl⟩ := r1
  refine wpAny_Slice ?_
  rw [evalPart_none, evalPart_some]
  refine wpAny_pure (wpAny_pure (UnaryOp_ (wpAny_Constant_int (neg_int ?_))))
  refine tail_of_ItemOn ⟨"str", _, F.slot_str_getitem.lookup, typeIs_str _ _ _, wpAny_getItem_str_slice (l := none) (u := none) (st := some (-1, _)) ⟨_, Heap.get?_push_size _ rfl, rfl, rfl⟩ (by rfl)
    (post_val_or_str ⟨Nat.le_trans (Txt.sliceBy_le z _ _ (-1, _) (by simp)) hz, fun t' c => ?_⟩)⟩ (by with_unfolding_all rfl) (ht _)
  refine ⟨.str (revS z), H1, ?_, ⟨t', congrArg (Value.str · t') (rev_slice z _)⟩, q⟩
  exact I1.kept (fun b o e => Heap.get?_push_of_some _ e)
end
end L2


/-! part L3b -/
set_option Elab.async false
set_option linter.all false
set_option maxRecDepth 100000
set_option maxHeartbeats 4000000
namespace L2
open PySem PySem.Spec PyProof.Rows
theorem bt_len : bootBuiltins "len" = some (.builtin "len") := by decide +kernel
theorem bt_min : bootBuiltins "min" = some (.builtin "min") := by decide +kernel
theorem bt_max : bootBuiltins "max" = some (.builtin "max") := by decide +kernel
theorem bt_isinstance : bootBuiltins "isinstance" = some (.builtin "isinstance") := by decide +kernel
theorem bt_repr : bootBuiltins "repr" = some (.builtin "repr") := by decide +kernel
theorem bt_all : bootBuiltins "all" = some (.builtin "all") := by decide +kernel
theorem bt_any : bootBuiltins "any" = some (.builtin "any") := by decide +kernel
theorem bt_sum : bootBuiltins "sum" = some (.builtin "sum") := by decide +kernel
theorem bt_sorted : bootBuiltins "sorted" = some (.builtin "sorted") := by decide +kernel
theorem bt_abs : bootBuiltins "abs" = some (.builtin "abs") := by decide +kernel
theorem bt_ord : bootBuiltins "ord" = some (.builtin "ord") := by decide +kernel
theorem bt_chr : bootBuiltins "chr" = some (.builtin "chr") := by decide +kernel
theorem bt_int : bootBuiltins "int" = some (.type "int") := by decide +kernel
theorem bt_list : bootBuiltins "list" = some (.type "list") := by decide +kernel
theorem bt_tuple : bootBuiltins "tuple" = some (.type "tuple") := by decide +kernel
theorem bt_str : bootBuiltins "str" = some (.type "str") := by decide +kernel
theorem bt_dict : bootBuiltins "dict" = some (.type "dict") := by decide +kernel
theorem bt_set : bootBuiltins "set" = some (.type "set") := by decide +kernel
theorem bt_bool : bootBuiltins "bool" = some (.type "bool") := by decide +kernel
theorem bt_range : bootBuiltins "range" = some (.type "range") := by decide +kernel
theorem bt_enumerate : bootBuiltins "enumerate" = some (.type "enumerate") := by decide +kernel
theorem bt_zip : bootBuiltins "zip" = some (.type "zip") := by decide +kernel
section
variable {X : Cx}
/-! ### methods of a list that stands in the abstract heap -/
def isL (x : V) (H : Hp) : Prop := match x with
  | .ref p => (lstOf (H p)).isSome = true
  | _ => False
def tBML (r : V → List V → Hp → VK → Prop) (to : TE) (t : TA) : TE := fun σ H Q => to σ H fun x H1 => isL x H1 ∧ t σ H1 fun xs H2 => r x xs H2 Q
theorem isL.ty {K : PySem.W.Frag} {x : V} {H : Hp} (h : isL x H) : tyV K "list" x H := by
  unfold isL at h
  split at h
  · rename_i p
    cases e : lstOf (H p) with
    | none => rw [e] at h; cases h
    | some ys => exact .inl ⟨rfl, ys, SqL.of (of_lstOf e)⟩
  · exact h.elim
variable {o e : Expr} {es : List Expr} {to : TE} {t : TA} {name : Str} {apos cpos : Pos} {id : String} {r : V → List V → Hp → VK → Prop}
theorem PE.imp {e : Expr} {t t' : TE} (h : PE X e t) (hi : ∀ σ H Q, t' σ H Q → t σ H Q) : PE X e t' := fun pins s σ H Q I hw => h pins s σ H Q I (hi σ H Q hw)
theorem pe_bmL (slot : Slot "list" name id) (hty : typeOf (.builtin id) = pure (.type "method_descriptor")) (hm : MtM X id r) (ho : PE X o to) (ha : PA X (e :: es) t) (mono : ∀ σ H Q Q', (∀ v H', Q v H' → Q' v H') → to σ H Q → to σ H Q')
    (hbase : attributeBase o name X.env (eval o X.env) = eval o X.env := by rfl)
    (hfew : ((backTo cpos (starEach (e :: es) X.env)).all (fun x => !x.1) && (backToKw cpos (keywordEach [] X.env)).all (fun x => x.1.isSome)
      && decide ((e :: es).length + ([] : List Keyword).length + (if ([] : List Keyword).isEmpty then 0 else 1) < 30)) = true := by rfl)
    (hline : (apos.endLine == cpos.line) = true := by rfl) (hs : starEach (e :: es) X.env = (false, eval e X.env) :: starEach es X.env := by rfl) (hplain : (backTo cpos (starEach es X.env)).any (·.1) = false := by rfl) :
    PE X (.Call (.Attribute o name apos) (e :: es) [] cpos) (tBML r to t) :=
  (pe_bm PySem.F.plainAttrs_list slot hty hm ho ha hbase hfew hline hs hplain).imp fun σ H Q h => mono σ H _ _ (fun v H' q => ⟨q.1.ty, q.2⟩) h
def tBML0 (r : V → List V → Hp → VK → Prop) (to : TE) : TE := fun σ H Q => to σ H fun x H1 => isL x H1 ∧ r x [] H1 Q
theorem pe_bmL0 (slot : Slot "list" name id) (hty : typeOf (.builtin id) = pure (.type "method_descriptor")) (hm : MtM X id r) (ho : PE X o to) (mono : ∀ σ H Q Q', (∀ v H', Q v H' → Q' v H') → to σ H Q → to σ H Q')
    (hbase : attributeBase o name X.env (eval o X.env) = eval o X.env := by rfl) (hline : (apos.endLine == cpos.line) = true := by rfl) : PE X (.Call (.Attribute o name apos) [] [] cpos) (tBML0 r to) :=
  (pe_bm0 PySem.F.plainAttrs_list slot hty hm ho hbase hline).imp fun σ H Q h => mono σ H _ _ (fun v H' q => ⟨q.1.ty, q.2⟩) h
theorem mono_var {i : Nat} : ∀ σ H Q Q', (∀ v H', Q v H' → Q' v H') → tVar i σ H Q → tVar i σ H Q' := fun _ _ _ _ h ⟨v, e, q⟩ => ⟨v, e, h v _ q⟩
def rAppendU : V → List V → Hp → VK → Prop := fun x vs H Q => match x, vs with
  | .ref l, [y] => ∃ xs, lstOf (H l) = some xs ∧ xs.length < sizeLine ∧ Q .non (upd H l (.lst (xs ++ [y])))
  | _, _ => False
theorem mt_appendU : MtM X "list.append" rAppendU := by
  intro pins s σ H x vs v us Q I rx rv h
  unfold rAppendU at h
  split at h
  · rename_i l y
    obtain ⟨xs, e, h⟩ := h
    exact mt_append pins s σ H _ _ v us Q I rx rv ⟨l, xs, y, rfl, rfl, of_lstOf e, h⟩
  · exact h.elim
def rExtendU : V → List V → Hp → VK → Prop := fun x vs H Q => match x, vs with
  | .ref l, [.ref b] => ∃ xs, lstOf (H l) = some xs ∧ ∃ zs, lstOf (H b) = some zs ∧ xs.length + zs.length ≤ sizeLine ∧ Q .non (upd H l (.lst (xs ++ zs)))
  | _, _ => False
theorem mt_extendU : MtM X "list.extend" rExtendU := by
  intro pins s σ H x vs v us Q I rx rv h
  unfold rExtendU at h
  split at h
  · rename_i l b
    obtain ⟨xs, e1, zs, e2, h⟩ := h
    exact mt_extend pins s σ H _ _ v us Q I rx rv ⟨l, b, xs, zs, rfl, rfl, of_lstOf e1, of_lstOf e2, h⟩
  · exact h.elim
def rClearU : V → List V → Hp → VK → Prop := fun x vs H Q => match x, vs with
  | .ref l, [] => (lstOf (H l)).isSome = true ∧ Q .non (upd H l (.lst []))
  | _, _ => False
theorem mt_clearU : MtM X "list.clear" rClearU := by
  intro pins s σ H x vs v us Q I rx rv h
  unfold rClearU at h
  split at h
  · rename_i l
    obtain ⟨h1, h⟩ := h
    cases e : lstOf (H l) with
    | none => rw [e] at h1; cases h1
    | some xs => exact mt_clear pins s σ H _ _ v us Q I rx rv ⟨l, xs, rfl, rfl, of_lstOf e, h⟩
  · exact h.elim
/-! ### ==, != -/
def rEqU : R2 := fun x y H Q => match x, y with
  | .int i, .int j => Q (.bl (decide (i = j))) H
  | .bl i, .bl j => Q (.bl (decide (i = j))) H
  | .str i, .str j => Q (.bl (decide (i = j))) H
  | .ref a, .ref b => rEqD (.ref a) (.ref b) H Q
  | x, y => scal x y = true ∧ Q (.bl (decide (x = y))) H
def rNeU : R2 := fun x y H Q => match x, y with
  | .int i, .int j => Q (.bl (!decide (i = j))) H
  | .bl i, .bl j => Q (.bl (!decide (i = j))) H
  | .str i, .str j => Q (.bl (!decide (i = j))) H
  | .ref a, .ref b => rNeD (.ref a) (.ref b) H Q
  | x, y => scal x y = true ∧ Q (.bl (!decide (x = y))) H
theorem op_eqU (hu : X.A.units + 64 < cLine) : OpR X (compareOp .Eq) rEqU := by
  intro pins s σ H x y v u Q I rx ry h
  unfold rEqU at h
  split at h
  · exact op_eq pins s σ H _ _ v u Q I rx ry ⟨rfl, by simpa using h⟩
  · exact op_eq pins s σ H _ _ v u Q I rx ry ⟨rfl, by simpa using h⟩
  · exact op_eq pins s σ H _ _ v u Q I rx ry ⟨rfl, by simpa using h⟩
  · exact op_eqD hu pins s σ H _ _ v u Q I rx ry h
  · exact op_eq pins s σ H _ _ v u Q I rx ry h
theorem op_neU (hu : X.A.units + 64 < cLine) : OpR X (compareOp .NotEq) rNeU := by
  intro pins s σ H x y v u Q I rx ry h
  unfold rNeU at h
  split at h
  · exact op_ne pins s σ H _ _ v u Q I rx ry ⟨rfl, by simpa using h⟩
  · exact op_ne pins s σ H _ _ v u Q I rx ry ⟨rfl, by simpa using h⟩
  · exact op_ne pins s σ H _ _ v u Q I rx ry ⟨rfl, by simpa using h⟩
  · exact op_neD hu pins s σ H _ _ v u Q I rx ry h
  · exact op_ne pins s σ H _ _ v u Q I rx ry h
/-! ### a cut in a def's own block -/
def tCut (D0 : Ends) (M : L2.St → Hp → Prop) : TS := fun D σ H => D = D0 ∧ M σ H
theorem pss_cut {rest : List Stmt} {u : TS} {D0 : Ends} {M : L2.St → Hp → Prop} (h : PSs X rest u) (hM : ∀ σ H, M σ H → u D0 σ H) : PSs X rest (tCut D0 M) := fun pins s σ H D I hw => by
  obtain ⟨rfl, m⟩ := hw
  exact h pins s σ H _ I (hM σ H m)
/-! ### the readings at values -/
theorem rAddU_int (H : Hp) (Q : VK) (i j : Int) : rAddU (.int i) (.int j) H Q = (Q (.int (i + j)) H) := rfl
theorem rAddU_str (H : Hp) (Q : VK) (i j : Str) : rAddU (.str i) (.str j) H Q = (i.length + j.length ≤ sizeLine ∧ Q (.str (i ++ j)) H) := rfl
theorem rAddU_ref (H : Hp) (Q : VK) (l b : Addr) : rAddU (.ref l) (.ref b) H Q = (∃ xs, lstOf (H l) = some xs ∧ ∃ zs, lstOf (H b) = some zs ∧ xs.length + zs.length ≤ sizeLine ∧ ∀ p, H p = none → Q (.ref p) (upd H p (.lst (xs ++ zs)))) := rfl
theorem rMulU_int (H : Hp) (Q : VK) (i j : Int) : rMulU (.int i) (.int j) H Q = (CMul i j ∧ Q (.int (i * j)) H) := rfl
theorem rLtU_int (H : Hp) (Q : VK) (i j : Int) : rLtU (.int i) (.int j) H Q = (Q (.bl (decide (i < j))) H) := rfl
theorem rLtU_str (H : Hp) (Q : VK) (i j : Str) : rLtU (.str i) (.str j) H Q = (Q (.bl (decide (i.cps.toList < j.cps.toList))) H) := rfl
theorem rLeU_int (H : Hp) (Q : VK) (i j : Int) : rLeU (.int i) (.int j) H Q = (Q (.bl (decide (i ≤ j))) H) := rfl
theorem rLeU_str (H : Hp) (Q : VK) (i j : Str) : rLeU (.str i) (.str j) H Q = (Q (.bl (!decide (j.cps.toList < i.cps.toList))) H) := rfl
theorem rIxU_str (H : Hp) (Q : VK) (z : Str) (i : Int) : rIxU (.str z) (.int i) H Q = (z.length ≤ sizeLine ∧ ∃ c, atI z.cps.toList i = some c ∧ Q (.str ⟨#[c]⟩) H) := rfl
theorem rIxU_ref (H : Hp) (Q : VK) (p : Addr) (i : Int) : rIxU (.ref p) (.int i) H Q = (∃ xs, seqOf (H p) = some xs ∧ ∃ v, atI xs i = some v ∧ Q v H) := rfl
theorem rLenU_str (H : Hp) (Q : VK) (z : Str) : rLenU [.str z] H Q = (z.length ≤ sizeLine ∧ Q (.int z.length) H) := rfl
theorem rLenU_ref (H : Hp) (Q : VK) (p : Addr) : rLenU [.ref p] H Q = (∃ ys, seqOf (H p) = some ys ∧ Q (.int ys.length) H) := rfl
theorem rMinU_int (H : Hp) (Q : VK) (i j : Int) : rMinU [.int i, .int j] H Q = (Q (.int (if j < i then j else i)) H) := rfl
theorem rMaxU_int (H : Hp) (Q : VK) (i j : Int) : rMaxU [.int i, .int j] H Q = (Q (.int (if j > i then j else i)) H) := rfl
theorem rIntU_int (H : Hp) (Q : VK) (i : Int) : rIntU [.int i] H Q = (Q (.int i) H) := rfl
theorem rIntU_bl (H : Hp) (Q : VK) (k : Bool) : rIntU [.bl k] H Q = (Q (.int (if k then 1 else 0)) H) := rfl
theorem rListU_str (H : Hp) (Q : VK) (z : Str) : rListU [.str z] H Q = (z.length ≤ sizeLine ∧ ∀ l, H l = none → Q (.ref l) (upd H l (.lst (sgn z)))) := rfl
theorem rListU_ref (H : Hp) (Q : VK) (p : Addr) : rListU [.ref p] H Q = (∃ ys, seqOf (H p) = some ys ∧ ∀ l, H l = none → Q (.ref l) (upd H l (.lst ys))) := rfl
theorem rPopU_ref (H : Hp) (Q : VK) (l : Addr) (i : Int) : rPopU (.ref l) [.int i] H Q = (∃ xs, lstOf (H l) = some xs ∧ 0 ≤ i ∧ ∃ y, xs[i.toNat]? = some y ∧ Q y (upd H l (.lst (xs.eraseIdx i.toNat)))) := rfl
theorem rAppendU_ref (H : Hp) (Q : VK) (l : Addr) (y : V) : rAppendU (.ref l) [y] H Q = (∃ xs, lstOf (H l) = some xs ∧ xs.length < sizeLine ∧ Q .non (upd H l (.lst (xs ++ [y])))) := rfl
theorem rExtendU_ref (H : Hp) (Q : VK) (l b : Addr) : rExtendU (.ref l) [.ref b] H Q = (∃ xs, lstOf (H l) = some xs ∧ ∃ zs, lstOf (H b) = some zs ∧ xs.length + zs.length ≤ sizeLine ∧ Q .non (upd H l (.lst (xs ++ zs)))) := rfl
theorem rClearU_ref (H : Hp) (Q : VK) (l : Addr) : rClearU (.ref l) [] H Q = ((lstOf (H l)).isSome = true ∧ Q .non (upd H l (.lst []))) := rfl
theorem rEqU_int (H : Hp) (Q : VK) (i j : Int) : rEqU (.int i) (.int j) H Q = (Q (.bl (decide (i = j))) H) := rfl
theorem rEqU_bl (H : Hp) (Q : VK) (i j : Bool) : rEqU (.bl i) (.bl j) H Q = (Q (.bl (decide (i = j))) H) := rfl
theorem rEqU_str (H : Hp) (Q : VK) (i j : Str) : rEqU (.str i) (.str j) H Q = (Q (.bl (decide (i = j))) H) := rfl
theorem rEqU_ref (H : Hp) (Q : VK) (i j : Addr) : rEqU (.ref i) (.ref j) H Q = (rEqD (.ref i) (.ref j) H Q) := rfl
theorem rNeU_int (H : Hp) (Q : VK) (i j : Int) : rNeU (.int i) (.int j) H Q = (Q (.bl (!decide (i = j))) H) := rfl
theorem rNeU_bl (H : Hp) (Q : VK) (i j : Bool) : rNeU (.bl i) (.bl j) H Q = (Q (.bl (!decide (i = j))) H) := rfl
theorem rNeU_str (H : Hp) (Q : VK) (i j : Str) : rNeU (.str i) (.str j) H Q = (Q (.bl (!decide (i = j))) H) := rfl
theorem rNeU_ref (H : Hp) (Q : VK) (i j : Addr) : rNeU (.ref i) (.ref j) H Q = (rNeD (.ref i) (.ref j) H Q) := rfl
theorem rIsU_ty (K : PySem.W.Frag) (x : V) (c : String) (H : Hp) (Q : VK) : rIsU K [x, .ty c] H Q = (∃ t b, TyOf K H x t ∧ PySem.W.kitOne K t (.type c) = some b ∧ Q (.bl b) H) := rfl
theorem rSetU_ref (p : Addr) (k : Int) (v : V) (H : Hp) (Q : Hp → Prop) : rSetU (.ref p) (.int k) v H Q = (∃ xs, lstOf (H p) = some xs ∧ ∃ j, ixN xs.length k = some j ∧ Q (upd H p (.lst (xs.set j v)))) := rfl
theorem isL_ref (p : Addr) (H : Hp) : isL (.ref p) H = ((lstOf (H p)).isSome = true) := rfl
/-! ### loops in short -/
def LoopR (J : It) (g : TG) (tb : TS) (D : Ends) (σ : L2.St) (H1 : Hp) : Prop := ∃ W : Nat → Nat → L2.St → Hp → Prop, (∃ m, W 0 m σ H1) ∧ ∀ i m σ H, W i m σ H →
  (J.stop i H ∧ D.nx σ H) ∨ (J.go i H ∧ ∃ N : L2.St → Hp → Prop, (∀ σ' H', N σ' H' → ∃ m', m' < m ∧ W (i + 1) m' σ' H') ∧ ∀ x H', J.yld i H x H' → g x σ H' fun σ2 H2 => tb { D with nx := N, ct := N, bk := D.nx } σ2 H2)
theorem tFor_eq (wi : TI) (g : TG) (tb : TS) (D : Ends) (σ : L2.St) (H : Hp) : tFor wi g tb D σ H = wi σ H fun J H1 => LoopR J g tb D σ H1 := rfl
theorem loop_range {lo : Int} {n : Nat} {g : TG} {tb : TS} {D : Ends} {σ : L2.St} {H : Hp} (Pv : Nat → L2.St → Hp → Prop) (h0 : Pv 0 σ H)
    (hs : ∀ i σ H, i < n → Pv i σ H → g (.int (lo + i)) σ H fun σ2 H2 => tb { D with nx := Pv (i + 1), ct := Pv (i + 1), bk := D.nx } σ2 H2) (hd : ∀ σ H, Pv n σ H → D.nx σ H) : LoopR (Itr lo n) g tb D σ H := for_range Pv h0 hs hd
theorem loop_str {z : Str} {g : TG} {tb : TS} {D : Ends} {σ : L2.St} {H : Hp} (Pv : Nat → L2.St → Hp → Prop) (h0 : Pv 0 σ H)
    (hs : ∀ i c σ H, z.cps.toList[i]? = some c → Pv i σ H → g (.str ⟨#[c]⟩) σ H fun σ2 H2 => tb { D with nx := Pv (i + 1), ct := Pv (i + 1), bk := D.nx } σ2 H2) (hd : ∀ σ H, Pv z.length σ H → D.nx σ H) : LoopR (ItS z) g tb D σ H := for_str Pv h0 hs hd
theorem loop_list {K : PySem.W.Frag} {a : Addr} {xs : List V} {g : TG} {tb : TS} {D : Ends} {σ : L2.St} {H : Hp} (Pv : Nat → L2.St → Hp → Prop) (h0 : Pv 0 σ H) (hl : ∀ i σ H, i ≤ xs.length → Pv i σ H → H a = some (.lst xs))
    (hs : ∀ i x σ H, xs[i]? = some x → Pv i σ H → g x σ H fun σ2 H2 => tb { D with nx := Pv (i + 1), ct := Pv (i + 1), bk := D.nx } σ2 H2) (hd : ∀ σ H, Pv xs.length σ H → D.nx σ H) : LoopR (Itl K a) g tb D σ H :=
  for_list Pv h0 (fun i σ H h p => SqL.of (hl i σ H h p)) hs hd
theorem loop_tup {K : PySem.W.Frag} {a : Addr} {xs : List V} {g : TG} {tb : TS} {D : Ends} {σ : L2.St} {H : Hp} (Pv : Nat → L2.St → Hp → Prop) (h0 : Pv 0 σ H) (hl : ∀ i σ H, i ≤ xs.length → Pv i σ H → H a = some (.tup xs))
    (hs : ∀ i x σ H, xs[i]? = some x → Pv i σ H → g x σ H fun σ2 H2 => tb { D with nx := Pv (i + 1), ct := Pv (i + 1), bk := D.nx } σ2 H2) (hd : ∀ σ H, Pv xs.length σ H → D.nx σ H) : LoopR (Itt K a) g tb D σ H :=
  for_tup Pv h0 (fun i σ H h p => SqT.of (hl i σ H h p)) hs hd
end
end L2


/-! part L3c -/
set_option Elab.async false
set_option linter.all false
set_option maxRecDepth 100000
set_option maxHeartbeats 4000000
namespace L2
open PySem PySem.Spec PyProof.Rows
/-! ### [elt for target in iter] -/
def clOf (env : Env) : List (Str × NameKind) → List (Str × Addr) → List (Str × Addr)
  | [], cs => cs
  | (n, k) :: r, cs => clOf env r (if k == .free then (n, (env.cells.lookup n).getD 0) :: cs else cs)
theorem closure_of {env : Env} {scope : Scope} (h : ∀ y ∈ scope.names, y.2 = .free → ∃ c, env.cells.lookup y.1 = some c) : closureFor scope env = pure (clOf env scope.names []) := by
  have gen : ∀ (l : List (Str × NameKind)) (cs : List (Str × Addr)), (∀ y ∈ l, y.2 = .free → ∃ c, env.cells.lookup y.1 = some c) →
      (forIn l cs fun x r => (match x with | (name, kind) => if (kind == NameKind.free) = true then do let c ← cellOf env name; pure (ForInStep.yield ((name, c) :: r)) else pure (ForInStep.yield r)) : Sem (List (Str × Addr))) = pure (clOf env l cs) := by
    intro l
    induction l with
    | nil => intro cs _; rfl
    | cons y l ih =>
      intro cs hy
      obtain ⟨n, k⟩ := y
      rw [List.forIn_cons]
      have hr := fun z hz => hy z (List.mem_cons_of_mem _ hz)
      by_cases hk : k = .free
      · subst hk
        obtain ⟨c, hc⟩ := hy _ (List.mem_cons_self ..) rfl
        have hc' : env.cells.lookup n = some c := hc
        have e : cellOf env n = pure c := by unfold cellOf; rw [hc']
        simp only [beq_self_eq_true, if_true, e, pure_bind]
        rw [ih _ hr]
        simp [clOf, hc']
      · have hb : (k == NameKind.free) = false := by simpa using hk
        simp only [hb, Bool.false_eq_true, if_false, pure_bind]
        rw [ih _ hr]
        simp [clOf, hb]
  exact (congrArg (· >>= fun s => pure s) (gen scope.names [] h)).trans (by rfl)
theorem clOf_sub {env : Env} : ∀ (l : List (Str × NameKind)) (cs : List (Str × Addr)) (x : Str) (c : Addr), (∀ y ∈ l, y.2 = .free → ∃ c, env.cells.lookup y.1 = some c) → (∀ x c, cs.lookup x = some c → env.cells.lookup x = some c) →
    (clOf env l cs).lookup x = some c → env.cells.lookup x = some c
  | [], cs, x, c, _, hc, h => hc x c h
  | (n, k) :: r, cs, x, c, hl, hc, h => by
    unfold clOf at h
    refine clOf_sub r _ x c (fun y hy => hl y (List.mem_cons_of_mem _ hy)) (fun z d hz => ?_) h
    split at hz
    · rename_i hk
      rw [List.lookup_cons] at hz
      cases hzn : z == n with
      | true =>
        rw [hzn] at hz
        obtain ⟨c', hc'⟩ := hl _ (List.mem_cons_self ..) (by simpa using hk)
        have hc'' : env.cells.lookup n = some c' := hc'
        have ez : z = n := by simpa using hzn
        subst ez
        rw [hc''] at hz
        rw [hc'']
        exact hz
      | false => rw [hzn] at hz; exact hc z d hz
    · exact hc z d hz
theorem clOf_keep {env : Env} : ∀ (l : List (Str × NameKind)) (cs : List (Str × Addr)) (x : Str), (∃ c, cs.lookup x = some c) → ∃ c, (clOf env l cs).lookup x = some c
  | [], cs, x, h => h
  | (n, k) :: r, cs, x, h => by
    unfold clOf
    refine clOf_keep r _ x ?_
    split
    · rw [List.lookup_cons]
      cases x == n with
      | true => exact ⟨_, rfl⟩
      | false => exact h
    · exact h
theorem clOf_has {env : Env} : ∀ (l : List (Str × NameKind)) (cs : List (Str × Addr)) (x : Str), (x, NameKind.free) ∈ l → ∃ c, (clOf env l cs).lookup x = some c
  | (n, k) :: r, cs, x, h => by
    unfold clOf
    rcases List.mem_cons.mp h with h | h
    · cases h
      refine clOf_keep r _ _ ?_
      simp [List.lookup_cons]
    · exact clOf_has r _ x h

/-- the block's own context -/
abbrev Cx.comp (X : Cx) (scope : Scope) (C : Addr) (Nc : List Str) (s3 : Shared) (H3 : Hp) (fp : List Addr) : Cx :=
  { X with N := Nc, s₀ := s3, H₀ := H3, env := compEnvC scope (clOf X.env scope.names []) C X.env, outer := X.stack, stack := X.stack, ex := fp, fn := fun _ => false, pn := [], xe := fun _ _ => False }
/-- what the block knows of the names around it -/
def compSt (js : List (Option Nat)) (σ : L2.St) : L2.St := js.map fun o => o.bind fun j => (σ[j]?).getD none
def tEmit (D : Addr) (te : TE) : TS := fun E σ H => te σ H fun v H1 => ∃ ys, lstOf (H1 D) = some ys ∧ ys.length < sizeLine ∧ E.nx σ (upd H1 D (.lst (ys ++ [v])))
def tComp (wi : TI) (g : TG) (js : List (Option Nat)) (te : TE) : TE := fun σ H Q => wi σ H fun J H1 => ∀ D, H1 D = none →
  LoopR J g (tEmit D te) { nx := fun _ H' => Q (.ref D) H', rt := fun _ _ => False } (compSt js σ) (upd H1 D (.lst []))
structure CompOk (X : Cx) (scope : Scope) (Nc : List Str) (js : List (Option Nat)) : Prop where
  kind : scope.kind = .function
  nocell : ∀ y ∈ scope.names, y.2 ≠ .cell
  loc : ∀ y ∈ scope.names, y.2 = .local → scope.names.lookup y.1 = some .local
  free : ∀ y ∈ scope.names, y.2 = .free → X.env.kindOf y.1 = some .cell ∨ X.env.kindOf y.1 = some .free
  len : js.length = Nc.length
  nol : ∀ x, (x, NameKind.free) ∈ scope.names → scope.names.lookup x ≠ some .local
  see : ∀ (i j : Nat) (x : Str), js[i]? = some (some j) → Nc[i]? = some x → X.N[j]? = some x ∧ (x, NameKind.free) ∈ scope.names
section
variable {X : Cx} {pins : List (Addr × Obj)} {σ : L2.St} {H : Hp} {s : Shared} {scope : Scope} {Nc : List Str} {js : List (Option Nat)} {fp : List Addr}
theorem CompOk.has (c : CompOk X scope Nc js) (I : Inv X pins σ H s) : ∀ y ∈ scope.names, y.2 = .free → ∃ a, X.env.cells.lookup y.1 = some a := fun y hy hf => I.ok.has _ (c.free y hy hf)
theorem relabel_kind {env : Env} {x : Str} : ∀ {l : List (Str × NameKind)}, (∀ y ∈ l, y.2 ≠ .cell) →
    ((l.map fun (n, k) => if (k == NameKind.free && env.scope.kind == .function && env.kindOf n == some .cell) then (n, NameKind.cell) else (n, k)).lookup x = some .cell ∨
     (l.map fun (n, k) => if (k == NameKind.free && env.scope.kind == .function && env.kindOf n == some .cell) then (n, NameKind.cell) else (n, k)).lookup x = some .free) → (x, NameKind.free) ∈ l
  | [], _, h => by simp at h
  | (n, k) :: r, hc, h => by
    rw [List.map_cons] at h
    by_cases hx : x = n
    · subst hx
      have hk : k = .free := by
        have hk' : k ≠ .cell := hc _ (List.mem_cons_self ..)
        by_cases hcond : (k == NameKind.free && env.scope.kind == .function && env.kindOf x == some .cell) = true
        · rw [Bool.and_eq_true, Bool.and_eq_true] at hcond
          simpa using hcond.1.1
        · simp only [hcond, Bool.false_eq_true, if_false, List.lookup_cons, beq_self_eq_true] at h
          rcases h with h | h
          · exact absurd (Option.some.inj h) hk'
          · exact Option.some.inj h
      subst hk
      exact List.mem_cons_self ..
    · refine List.mem_cons_of_mem _ (relabel_kind (env := env) (fun y hy => hc y (List.mem_cons_of_mem _ hy)) ?_)
      have hxn : (x == n) = false := by simpa using hx
      by_cases hcond : (k == NameKind.free && env.scope.kind == .function && env.kindOf n == some .cell) = true
      · simpa only [hcond, if_true, List.lookup_cons, hxn] using h
      · simpa only [hcond, Bool.false_eq_true, if_false, List.lookup_cons, hxn] using h
theorem relabel_loc {env : Env} {x : Str} : ∀ {l : List (Str × NameKind)},
    (l.map fun (n, k) => if (k == NameKind.free && env.scope.kind == .function && env.kindOf n == some .cell) then (n, NameKind.cell) else (n, k)).lookup x = some .local → l.lookup x = some .local
  | [], h => by simp at h
  | (n, k) :: r, h => by
    rw [List.map_cons] at h
    by_cases hx : x = n
    · subst hx
      by_cases hcond : (k == NameKind.free && env.scope.kind == .function && env.kindOf x == some .cell) = true
      · simp only [hcond, if_true, List.lookup_cons, beq_self_eq_true] at h
        cases h
      · simp only [hcond, Bool.false_eq_true, if_false, List.lookup_cons, beq_self_eq_true] at h
        simp only [List.lookup_cons, beq_self_eq_true]
        exact h
    · have hxn : (x == n) = false := by simpa using hx
      rw [List.lookup_cons, hxn]
      refine relabel_loc (env := env) ?_
      by_cases hcond : (k == NameKind.free && env.scope.kind == .function && env.kindOf n == some .cell) = true
      · simpa only [hcond, if_true, List.lookup_cons, hxn] using h
      · simpa only [hcond, Bool.false_eq_true, if_false, List.lookup_cons, hxn] using h
theorem comp_ok (c : CompOk X scope Nc js) (I : Inv X pins σ H s) (hf : ∀ b ∈ fp, FpOk X pins H b) (ho : ∀ b ∈ fp, ∃ o, s.heap.get? b = some o) : (X.comp scope s.heap.objs.size Nc s H fp).Ok := by
  have hs := c.has I
  have sub : ∀ x a, (clOf X.env scope.names []).lookup x = some a → X.env.cells.lookup x = some a := fun x a => clOf_sub _ _ x a hs (fun _ _ z => nomatch z)
  refine ⟨I.ok.mod, c.kind, I.ok.glob, I.ok.blt, Nat.le_refl _, fun x y a e1 e2 => I.ok.inj x y a (sub x a e1) (sub y a e2), fun x h => clOf_has _ _ x (relabel_kind (env := X.env) c.nocell h), (fun x a h => nomatch h), I.ok.hd, I.ok.frames, .inl rfl, fun b hb => ⟨?_, fun x a e => ?_⟩, I.bs,
    Nat.le_trans I.ok.bsz I.sz, fun b o e hb => ?_, fun b hb hb' => ?_, I.stack, I.stkFree⟩
  · obtain ⟨o, e⟩ := ho b hb
    exact Nat.ne_of_lt (Heap.lt_size e)
  · exact (hf b hb).2.2.2.2.1 x a (sub x a e)
  · rcases (hf b hb).2.2.2.1 with z | z
    · exact I.ok.noex b o e z
    · exact absurd (Nat.lt_of_lt_of_le (Heap.lt_size (I.ok.bs b o e).1) z) (Nat.lt_irrefl _)
  · rcases List.mem_cons.mp (I.stkSub b hb') with z | z
    · exact (hf b hb).2.1 z
    · exact (hf b hb).2.2.1 z

theorem comp_inv (c : CompOk X scope Nc js) (I : Inv X pins σ H s) (hf : ∀ b ∈ fp, FpOk X pins H b) (ho : ∀ b ∈ fp, ∃ o, s.heap.get? b = some o) {h' : Heap} {m : Str → Option Value} {tk : Nat} (hn : h'.Ns s.heap.objs.size m)
    (hk : ∀ b o, s.heap.get? b = some o → h'.get? b = some o) : Inv (X.comp scope s.heap.objs.size Nc s H fp) [] (compSt js σ) H { s with heap := h', toks := tk } := by
  have hs := c.has I
  have sub : ∀ x a, (clOf X.env scope.names []).lookup x = some a → X.env.cells.lookup x = some a := fun x a => clOf_sub _ _ x a hs (fun _ _ z => nomatch z)
  refine ⟨comp_ok c I hf ho, rfl, I.bare, Un.kept hk, ⟨m, hn, fun i x v e1 e2 e3 => ?_⟩, fun x a e => ?_, I.hok.fresh (Nat.le_refl _), fun x a e => I.freeC x a (sub x a e), (fun p hp => nomatch hp), I.hok.kept hk, by simp only [compSt, List.length_map]; exact c.len⟩
  · have e2' : (compSt js σ)[i]? = some (some v) := e2
    unfold compSt at e2'
    rw [List.getElem?_map] at e2'
    cases ej : js[i]? with
    | none => rw [ej] at e2'; cases e2'
    | some o =>
      rw [ej] at e2'
      cases o with
      | none => cases e2'
      | some j =>
        have e4 : (σ[j]?).getD none = some v := Option.some.inj e2'
        have e5 : σ[j]? = some (some v) := by
          cases q : σ[j]? with
          | none => rw [q] at e4; cases e4
          | some w => rw [q] at e4; exact congrArg some e4
        obtain ⟨n1, n2⟩ := c.see i j x ej e1
        have hkd := c.free _ n2 rfl
        obtain ⟨a, ha⟩ := clOf_has (env := X.env) scope.names [] x n2
        obtain ⟨m0, _, hl⟩ := I.loc
        obtain ⟨u, r, l⟩ := hl j x v n1 e5 (by
          rcases hkd with z | z
          · exact .inr (.inl z)
          · exact .inr (.inr z))
        refine ⟨u, r, ?_⟩
        rcases l with ⟨k, _⟩ | ⟨_, a', ha', hcell⟩
        · rcases hkd with z | z
          · rw [z] at k; cases k
          · rw [z] at k; cases k
        · have : a' = a := Option.some.inj (ha'.symm.trans (sub x a ha))
          subst this
          refine .inr ⟨?_, a', ha, ?_⟩
          · rcases e3 with z | z | z
            · exfalso
              have q : (relabel scope X.env).names.lookup x = some .local := z
              exact c.nol x n2 (relabel_loc q)
            · exact .inl z
            · exact .inr z
          · obtain ⟨o, q, d⟩ := hcell
            exact ⟨o, hk _ o q, d⟩
  · obtain ⟨v, o, q, d⟩ := I.cell x a (sub x a e)
    exact ⟨v, o, hk _ o q, d⟩

/-- behind the block -/
theorem comp_after (I : Inv X pins σ H s) (hf : ∀ b ∈ fp, FpOk X pins H b) {σ' : L2.St} {H' : Hp} {s' : Shared} {h'' : Heap} (J : Inv (X.comp scope s.heap.objs.size Nc s H fp) [] σ' H' s') (hs : Heap.SameBut s.heap.objs.size s'.heap h'') :
    Inv X pins σ H' { s' with heap := h'' } := by
  have ne : ∀ b o, s.heap.get? b = some o → b ≠ s.heap.objs.size := fun b o e => Nat.ne_of_lt (Heap.lt_size e)
  have u : Un (frs X.stack) fp H H' s.heap s'.heap := J.base
  refine I.call' (s' := { s' with heap := h'' }) (ch := fp) J.os ⟨fun b o e n hb hx => ?_, fun b o e n hb hx => ?_, u.free, fun b o e hx => ?_, u.tups, u.frzs, u.tbls⟩ (fun b o e => ?_) J.bare fun b hb => ?_
  · exact (hs.2 b (ne b o e)).trans (u.keep b o e n hb hx)
  · obtain ⟨sl, q⟩ := u.slot b o e n hb hx
    exact ⟨sl, (hs.2 b (ne b o e)).trans q⟩
  · obtain ⟨o', q⟩ := u.there b o e hx
    exact ⟨o', (hs.2 b (ne b o e)).trans q⟩
  · have hC : H' s.heap.objs.size = none := J.free
    refine (J.hok b o e).stay (fun d v hd q => (hs.2 d ?_).trans q) (fun _ q => q) fun _ _ q => q
    rintro rfl
    rcases hd with z | z
    · rw [← z, hC] at e; cases e
    · rw [hC] at z; cases z
  · obtain ⟨_, f1, _, f3, f4, f5⟩ := hf b hb
    exact ⟨f3, f1, f4, f5⟩
end
section
variable {X : Cx} {scope : Scope} {Nc : List Str} {js : List (Option Nat)} {elt tg iter : Expr} {pos : Pos} {wi : TI} {g : TG} {te : TE}
theorem comp_core (hc : X.calm = true) (c : CompOk X scope Nc js) (hi : PI X tg iter wi) (hg : ∀ C s3 H3 fp, PG (X.comp scope C Nc s3 H3 fp) tg g) (he : ∀ C s3 H3 fp, PE (X.comp scope C Nc s3 H3 fp) elt te)
    {pins : List (Addr × Obj)} {s : Shared} {σ : L2.St} {H : Hp} (I : Inv X pins σ H s) {RR : Value → Addr → Result → Shared → Prop} {NX : Addr → Hp → Prop}
    (h : wi σ H fun J H1 => ∀ D, H1 D = none → LoopR J g (tEmit D te) { nx := fun _ H' => NX D H', rt := fun _ _ => False } (compSt js σ) (upd H1 D (.lst [])))
    (fin : ∀ D H3 s3 fp σ5 H5 s6, Inv X pins σ H3 s3 → (∀ b ∈ fp, FpOk X pins H3 b) → Inv (X.comp scope s3.heap.objs.size Nc s3 H3 fp) [] σ5 H5 s6 → NX D H5 → RR (.ref D) s3.heap.objs.size (.ok .next) s6) :
    wpAny (model X.prog X.w) X.A (eval iter X.env) (fun x s₁ => wpAny (model X.prog X.w) X.A (pyIter x) (fun it s₂ => wpAny (model X.prog X.w) X.A (newList []) (fun acc s₃ =>
      wpAny (model X.prog X.w) X.A (newFunctionEnv scope X.env.globals (clOf X.env scope.names []) [] X.env.qual none .none (some X.env)) (fun cenv s₄ =>
        codeAny (model X.prog X.w) X.A (.compStart (.ListComp elt [⟨tg, iter, [], 0⟩] scope pos) 0 it acc { cenv with scope := relabel scope X.env }) (RR acc cenv.locals) s₄) X.xe s₃) X.xe s₂) X.xe s₁) X.xe s := by
  refine thn (hi pins s σ H _ I h) fun v s1 h1 => thn h1 fun itv s2 h2 => ?_
  obtain ⟨it, fp, tn, J, H2, rfl, I2, T, st2, f2, h2⟩ := h2
  -- the list
  refine wpAny_newObj_type ?_ (by show 0 ≤ sizeLine; decide)
  have hD : H2 s2.heap.objs.size = none := I2.hok.fresh (Nat.le_refl _)
  have I3 : Inv X pins σ (upd H2 s2.heap.objs.size (.lst [])) { s2 with heap := s2.heap.push { cls := .type "list", data := .seq ([] : List Value).toArray } } :=
    I2.laid (t' := s2.toks) (fun b u e => Heap.get?_push_of_some _ e) (Nat.le_refl _) ⟨by show 0 ≤ sizeLine; decide, [], 0, .nil, Heap.get?_push_size _ rfl⟩
  have f3 : ∀ b ∈ fp, FpOk X pins (upd H2 s2.heap.objs.size (.lst [])) b := fun b hb => by
    obtain ⟨q0, q⟩ := f2 b hb
    obtain ⟨o, e, _⟩ := T.obj _ _ st2 b hb
    exact ⟨by rw [upd_ne (Nat.ne_of_lt (Heap.lt_size e))]; exact q0, q⟩
  have o3 : ∀ b ∈ fp, ∃ o, (s2.heap.push { cls := .type "list", data := .seq ([] : List Value).toArray }).get? b = some o := fun b hb => by
    obtain ⟨o, e, _⟩ := T.obj _ _ st2 b hb
    exact ⟨o, Heap.get?_push_of_some _ e⟩
  have st3 : tn 0 (s2.heap.push { cls := .type "list", data := .seq ([] : List Value).toArray }) := T.keep _ _ _ st2 fun b _ o e => Heap.get?_push_of_some _ e
  generalize hh3 : s2.heap.push { cls := .type "list", data := .seq ([] : List Value).toArray } = h3 at I3 o3 st3 ⊢
  refine wpAny_newFunctionEnv c.nocell (by intro y hy; simp at hy) (fun h4 hn4 hs4 => ?_) c.kind
  have k4 : ∀ b o, h3.get? b = some o → h4.get? b = some o := fun b o e => (hs4.2 b (Nat.ne_of_lt (Heap.lt_size e))).trans (Heap.get?_push_of_some _ e)
  have I4 := comp_inv (tk := s2.toks + ([] : List (Str × Value)).length) c I3 f3 o3 hn4 k4
  have st4 : tn 0 h4 := T.keep _ _ _ st3 fun b _ o e => k4 b o e
  obtain ⟨W, ⟨m0, w0⟩, turn⟩ := h2 _ hD
  let s3 : Shared := { s2 with heap := h3 }
  let Y : Cx := X.comp scope h3.objs.size Nc s3 (upd H2 s2.heap.objs.size (.lst [])) fp
  have stat : ∀ {H' : Hp}, (∀ b ∈ fp, H' b = none) → ∀ b ∈ fp, FpOk Y [] H' b := fun hn b hb => ⟨hn b hb, (I4.ok.exf b hb).1, I4.ok.exfs b hb, .inl hb, (I4.ok.exf b hb).2, (fun p hp => nomatch hp)⟩
  have loop : codeAny (model X.prog X.w) X.A (.compLoop (.ListComp elt [⟨tg, iter, [], 0⟩] scope pos) 0 (.ref it) (.ref s2.heap.objs.size) Y.env)
      (RR (.ref s2.heap.objs.size) h3.objs.size) { s2 with heap := h4, toks := s2.toks + ([] : List (Str × Value)).length } := by
    refine codeAny_loop rfl (fun n s' => ∃ i σ' H', Inv Y [] σ' H' s' ∧ tn i s'.heap ∧ (∀ b ∈ fp, H' b = none) ∧ W i n σ' H') (fun n s5 hI => ?_) m0 ⟨0, _, _, I4, st4, fun b hb => (f3 b hb).1, w0⟩
    obtain ⟨i, σ5, H5, I5, st5, fr5, w5⟩ := hI
    show wpAny _ X.A ((compTurn (.ListComp elt [⟨tg, iter, [], 0⟩] scope pos) 0 (.ref it) (.ref s2.heap.objs.size) Y.env).onRaise (fun x => do noteFrame x Y.env; theTreesLotGoes x)) _ _ s5
    refine wpAny_noted (wpAny_mono (E := fun _ _ => False) ?_ (fun _ _ q => q) fun _ _ z => z.elim)
    rw [compTurn_list1]
    refine wpAny_bind (wpAny_standAt (wpAny_bind ?_))
    rcases turn i n σ5 H5 w5 with ⟨stop, qn⟩ | ⟨go, N, hN, step⟩
    · refine thn (T.done Y rfl rfl rfl hc i [] s5 σ5 H5 _ I5 (stat fr5) st5 stop) fun r s6 ⟨hr, I6⟩ => ?_
      subst hr
      refine wpAny_pure ?_
      exact fin _ _ s3 fp σ5 H5 s6 I3 f3 I6 qn
    · refine thn (T.item Y rfl rfl rfl hc i [] s5 σ5 H5 _ I5 (stat fr5) st5 go) fun r s6 ⟨u, hr, h6⟩ => ?_
      subst hr
      refine wpAny_bind (thn h6 fun _ s7 ⟨x, H7, I7, r7, y7, st7, fr7⟩ => ?_)
      have I7' := I7.pinned (stat fr7) (T.obj _ _ st7)
      refine wpAny_bind (thn (hg _ _ _ _ _ s7 σ5 H7 x u _ I7' r7 (step x H7 y7)) fun _ s8 ⟨σ8, H8, I8, q8⟩ => ?_)
      refine wpAny_bind (wpAny_bind (thn (he _ _ _ _ _ s8 σ8 H8 _ I8 q8) fun v s9 ⟨y, H9, I9, r9, ys, e9, z9, n9⟩ => ?_))
      refine wpAny_bind (thn (mt_append (X := Y) _ s9 σ8 H9 (.ref s2.heap.objs.size) [y] (.ref s2.heap.objs.size) [v] (fun w H' => N σ8 H') I9 rfl (.cons r9 .nil) ⟨_, ys, y, rfl, rfl, of_lstOf e9, z9, n9⟩) fun w s10 ⟨_, H10, I10, _, n10⟩ => ?_)
      refine wpAny_pure (wpAny_pure ⟨rfl, ?_⟩)
      obtain ⟨m', hm, w10⟩ := hN σ8 H10 n10
      refine ⟨m', hm, i + 1, σ8, H10, I10.unpinned, T.keep _ _ _ st7 fun b hb o e => (I10.pin (b, o) (List.mem_append_right _ (List.mem_append_right _ (mem_pinsAt hb e)))).1, fun b hb => ?_, w10⟩
      obtain ⟨o, e, d⟩ := T.obj _ _ st7 b hb
      exact (I10.pin (b, o) (List.mem_append_right _ (List.mem_append_right _ (mem_pinsAt hb e)))).2.1
  exact codeAny_compStart_list loop (T.self _ 0 _ _ _ st4 loop)

theorem pe_comp (hc : X.calm = true) (c : CompOk X scope Nc js) (hi : PI X tg iter wi) (hg : ∀ C s3 H3 fp, PG (X.comp scope C Nc s3 H3 fp) tg g) (he : ∀ C s3 H3 fp, PE (X.comp scope C Nc s3 H3 fp) elt te)
    (hs : ∀ x, foldedSetIterable iter X.env x = pure x := by intro _; rfl) : PE X (.ListComp elt [⟨tg, iter, [], 0⟩] scope pos) (tComp wi g js te) := by
  intro pins s σ H Q I h
  rw [eval_ListComp]
  refine wpAny_comprehension_free (use := none) (g := ⟨tg, iter, [], 0⟩) (gs := []) rfl hs (closure_of (c.has I)) c.kind c.loc
    (comp_core (RR := fun acc C => compPost (model X.prog X.w) X.A X.xe none (EP X pins σ Q) acc C) (NX := fun D H' => Q (.ref D) H') hc c hi hg he I h fun D H3 s3 fp σ5 H5 s6 I3 f3 I6 qn => ?_)
  obtain ⟨m, hn, _⟩ := I6.loc
  exact ⟨m, hn, fun h' hs' => ⟨.ref D, H5, comp_after I3 f3 I6 hs', rfl, qn⟩⟩
/-- name = [..]: the name is bound ahead of the letting go -/
theorem ps_setc {i : Nat} {y : Str} {py spos : Pos} (hN : X.N.Nodup) (hiN : X.N[i]? = some y) (hy : Loc X.env.scope y) (hc : X.calm = true) (c : CompOk X scope Nc js) (hi : PI X tg iter wi) (hg : ∀ C s3 H3 fp, PG (X.comp scope C Nc s3 H3 fp) tg g)
    (he : ∀ C s3 H3 fp, PE (X.comp scope C Nc s3 H3 fp) elt te) (hsw : swapsWith (.ListComp elt [⟨tg, iter, [], 0⟩] scope pos) (some (.Name y py)) spos.line X.env = pure true := by rfl)
    (hs : ∀ x, foldedSetIterable iter X.env x = pure x := by intro _; rfl) (hf : X.fn y = true ∨ X.env.scope.names.lookup y = some .local := by first | exact .inl rfl | exact .inr rfl | assumption) :
    PS X (.Assign [.Name y py] (.ListComp elt [⟨tg, iter, [], 0⟩] scope pos) spos) (tAsg (tComp wi g js te) (gName i)) := by
  intro pins s σ H D I h
  rw [exec_Assign_Name_used _ _ _ _ hsw]
  refine wpAny_bind (wpAny_standAt (wpAny_bind ?_))
  show wpAny _ X.A (do let _ ← comprehension (.ListComp elt [⟨tg, iter, [], 0⟩] scope pos) scope X.env _ (newList []) false (eval iter X.env) (some (assign (.Name y py) X.env))) _ _ s
  refine wpAny_bind (wpAny_mono (wpAny_comprehension_free (use := some (assign (.Name y py) X.env)) (g := ⟨tg, iter, [], 0⟩) (gs := []) (Q := fun _ s' => SP X pins D .next s') rfl hs (closure_of (c.has I)) c.kind c.loc
    (comp_core (RR := fun acc C => compPost (model X.prog X.w) X.A X.xe (some (assign (.Name y py) X.env)) (fun _ s' => SP X pins D .next s') acc C) (NX := fun Da H' => D.nx (σ.set i (some (.ref Da))) H') hc c hi hg he I h fun Da H3 s3 fp σ5 H5 s6 I3 f3 I6 qn => ?_))
    (fun _ s' hq => wpAny_pure (wpAny_pure hq)) fun _ _ e => e)
  obtain ⟨m, hn, _⟩ := id I6.loc
  have I7 : Inv X pins σ H5 s6 := comp_after I3 f3 I6 (.refl ..)
  have hC : H5 s3.heap.objs.size = none := I6.free
  have nL : s3.heap.objs.size ≠ X.env.locals := Nat.ne_of_gt I3.lt
  have nc : ∀ x a, X.env.cells.lookup x = some a → a ≠ s3.heap.objs.size := fun x a e => by
    obtain ⟨v, q⟩ := I3.cell x a e
    exact Nat.ne_of_lt q.lt
  have np : ∀ p ∈ X.pn ++ pins, p.1 ≠ s3.heap.objs.size := fun p hp => Nat.ne_of_lt (Heap.lt_size (I3.pin p hp).1)
  show wpAny _ _ (assign (.Name y py) X.env (.ref Da)) _ _ _
  refine wpAny_assign_Name (store_ok2 (v := .ref Da) I7 hN hiN hy rfl (fun s8 I8 hb => ?_) hf)
  obtain ⟨a, hs8, ha⟩ := hb
  have nCa : s3.heap.objs.size ≠ a := by
    rcases ha with z | z
    · rw [z]; exact nL
    · exact (nc y a z).symm
  refine ⟨m, hn.sameBut hs8 nCa, fun h9 hs9 => ?_⟩
  exact ⟨_, H5, I8.turned (t' := s8.toks) (fun b o hb e => (hs9.2 b hb).trans e) hC nL (.inr (Nat.le_trans I3.sz (Nat.le_refl _))) nc np, qn⟩
end
end L2


/-! part L3d -/
set_option Elab.async false
set_option linter.all false
set_option maxRecDepth 100000
set_option maxHeartbeats 4000000
namespace L2
open PySem PySem.Spec PyProof.Rows
section
variable {X : Cx}
/-! ### tuple(..) -/
def rTupleU : List V → Hp → VK → Prop := fun xs H Q => match xs with
  | [.ref p] => (∃ ys, lstOf (H p) = some ys ∧ ∀ l, H l = none → Q (.ref l) (upd H l (.tup ys))) ∨ (∃ ys, tupOf (H p) = some ys ∧ Q (.ref p) H)
  | _ => False
theorem call_tupleU : CallR X (.type "tuple") rTupleU := by
  intro pins s σ H xs us Q I r h
  unfold rTupleU at h
  split at h
  · rename_i p
    rcases h with ⟨ys, e, h⟩ | ⟨ys, e, h⟩
    · exact call_tuple_of pins s σ H _ us Q I r ⟨p, ys, rfl, .inl ⟨SqL.of (of_lstOf e), h⟩⟩
    · exact call_tuple_of pins s σ H _ us Q I r ⟨p, ys, rfl, .inr ⟨SqT.of (of_tupOf e), h⟩⟩
  · exact h.elim
theorem rTupleU_lst {p : Addr} {H : Hp} {Q : VK} {ys : List V} (e : H p = some (.lst ys)) (h : ∀ l, H l = none → Q (.ref l) (upd H l (.tup ys))) : rTupleU [.ref p] H Q := .inl ⟨ys, by rw [e]; rfl, h⟩
/-! ### [..] * n -/
def rMulW : R2 := fun x y H Q => match x, y with
  | .int i, .int j => CMul i j ∧ Q (.int (i * j)) H
  | .ref l, .int k => ∃ xs, lstOf (H l) = some xs ∧ 0 ≤ k ∧ k < 2 ^ 62 ∧ xs.length * k.toNat ≤ sizeLine ∧ ∀ p, H p = none → Q (.ref p) (upd H p (.lst (List.replicate k.toNat xs).flatten))
  | _, _ => False
theorem op_mulW : OpR X (binaryOp .Mult) rMulW := by
  intro pins s σ H x y v u Q I rx ry h
  cases x with
  | int i => cases y with
    | int j => exact op_mul pins s σ H _ _ v u Q I rx ry ⟨i, j, rfl, rfl, h⟩
    | _ => exact False.elim h
  | ref l => cases y with
    | int k =>
      obtain ⟨xs, e, k0, k1, h⟩ := h
      exact op_rep pins s σ H _ _ v u Q I rx ry ⟨l, k, xs, rfl, rfl, of_lstOf e, by omega, by omega, h⟩
    | _ => exact False.elim h
  | _ => exact False.elim h
theorem rMulW_int (H : Hp) (Q : VK) (i j : Int) : rMulW (.int i) (.int j) H Q = (CMul i j ∧ Q (.int (i * j)) H) := rfl
theorem rMulW_ref (H : Hp) (Q : VK) (l : Addr) (k : Int) : rMulW (.ref l) (.int k) H Q = (∃ xs, lstOf (H l) = some xs ∧ 0 ≤ k ∧ k < 2 ^ 62 ∧ xs.length * k.toNat ≤ sizeLine ∧ ∀ p, H p = none → Q (.ref p) (upd H p (.lst (List.replicate k.toNat xs).flatten))) := rfl
/-! ### methods of a text -/
def isS (x : V) : Prop := match x with
  | .str _ => True
  | _ => False
def tBMS (r : V → List V → Hp → VK → Prop) (to : TE) (t : TA) : TE := fun σ H Q => to σ H fun x H1 => isS x ∧ t σ H1 fun xs H2 => r x xs H2 Q
theorem isS.ty {K : PySem.W.Frag} {x : V} {H : Hp} (h : isS x) : tyV K "str" x H := by
  unfold isS at h
  split at h
  · rfl
  · exact h.elim
theorem isS_str (z : Str) : isS (.str z) = True := rfl
theorem mono_c {v : V} : ∀ σ H Q Q', (∀ v H', Q v H' → Q' v H') → tC v σ H Q → tC v σ H Q' := fun _ _ _ _ h q => h _ _ q
variable {o e : Expr} {es : List Expr} {to : TE} {t : TA} {name : Str} {apos cpos : Pos} {id : String} {r : V → List V → Hp → VK → Prop}
theorem pe_bmS (slot : Slot "str" name id) (hty : typeOf (.builtin id) = pure (.type "method_descriptor")) (hm : MtM X id r) (ho : PE X o to) (ha : PA X (e :: es) t) (mono : ∀ σ H Q Q', (∀ v H', Q v H' → Q' v H') → to σ H Q → to σ H Q')
    (hbase : attributeBase o name X.env (eval o X.env) = eval o X.env := by rfl)
    (hfew : ((backTo cpos (starEach (e :: es) X.env)).all (fun x => !x.1) && (backToKw cpos (keywordEach [] X.env)).all (fun x => x.1.isSome)
      && decide ((e :: es).length + ([] : List Keyword).length + (if ([] : List Keyword).isEmpty then 0 else 1) < 30)) = true := by rfl)
    (hline : (apos.endLine == cpos.line) = true := by rfl) (hs : starEach (e :: es) X.env = (false, eval e X.env) :: starEach es X.env := by rfl) (hplain : (backTo cpos (starEach es X.env)).any (·.1) = false := by rfl) :
    PE X (.Call (.Attribute o name apos) (e :: es) [] cpos) (tBMS r to t) :=
  (pe_bm PySem.F.plainAttrs_str slot hty hm ho ha hbase hfew hline hs hplain).imp fun σ H Q h => mono σ H _ _ (fun v H' q => ⟨q.1.ty, q.2⟩) h
theorem strsAre_of : ∀ {ys : List Str} {us : List Value}, Vals (ys.map V.str) us → StrsAre us ys
  | [], us, r => by rw [List.map_nil] at r; cases r; exact .nil
  | y :: ys, us, r => by
    rw [List.map_cons] at r
    cases r with
    | cons r1 r2 =>
      obtain ⟨t, rfl⟩ := r1
      exact .cons y t (strsAre_of r2)
/-- ''.join(a list of texts) -/
def rJoinU : V → List V → Hp → VK → Prop := fun x vs H Q => match x, vs with
  | .str z, [.ref p] => ∃ ys : List Str, H p = some (.lst (ys.map V.str)) ∧ (ys.map (·.length)).sum + ys.length * z.length ≤ 16777216 ∧ Q (.str (Txt.join z ys)) H
  | _, _ => False
theorem mt_joinU : MtM X "str.join" rJoinU := by
  intro pins s σ H x vs v us Q I rx rv h
  unfold rJoinU at h
  split at h
  · rename_i z p
    obtain ⟨ys, e, hz, q⟩ := h
    obtain ⟨t, rfl⟩ := rx
    obtain ⟨u, rfl, ru⟩ := rv.one
    cases ru
    obtain ⟨its, rr, pl, _⟩ := I.list (SqL.of e)
    exact join_list pl.isList (by simpa using strsAre_of rr) hz fun t' k => ⟨.str _, H, I.tok k, ⟨_, rfl⟩, q⟩
  · exact h.elim
/-! ### a[i:j] of a text -/
def cutS (z : Str) (lo hi : Option Int) : Str := ⟨((z.cps.toList.drop (HT.sIx z.length 0 lo)).take (HT.sIx z.length z.length hi - HT.sIx z.length 0 lo)).toArray⟩

theorem strIx_eq (lo hi : Option Int) (n : Nat) : Builtin.Str.strSliceIndices lo hi 1 n = (List.range (HT.sIx n n hi - HT.sIx n 0 lo)).map (HT.sIx n 0 lo + ·) := by
  rw [← sliceRange_one]
  unfold Builtin.Str.strSliceIndices
  have e1 : (match lo with | none => (if (1 : Int) > 0 then (0 : Int) else (n : Int) - 1) | some i => let i := if i < 0 then i + (n : Int) else i; if (1 : Int) > 0 then max 0 (min i (n : Int)) else max (-1) (min i ((n : Int) - 1))) = ((HT.sIx n 0 lo : Nat) : Int) := by
    cases lo with
    | none => simp [HT.sIx]
    | some v =>
      simp only [show (1 : Int) > 0 by decide, if_true, HT.sIx]
      by_cases h : v < 0
      · simp only [h, if_true]; omega
      · simp only [h, if_false]; omega
  have e2 : (match hi with | none => (if (1 : Int) > 0 then (n : Int) else -1) | some i => let i := if i < 0 then i + (n : Int) else i; if (1 : Int) > 0 then max 0 (min i (n : Int)) else max (-1) (min i ((n : Int) - 1))) = ((HT.sIx n n hi : Nat) : Int) := by
    cases hi with
    | none => simp [HT.sIx]
    | some v =>
      simp only [show (1 : Int) > 0 by decide, if_true, HT.sIx]
      by_cases h : v < 0
      · simp only [h, if_true]; omega
      · simp only [h, if_false]; omega
  have key : ∀ a b a' b' : Int, a = a' → b = b' → sliceRange a b 1 = sliceRange a' b' 1 := by
    intro a b a' b' h1 h2
    rw [h1, h2]
  exact key _ _ _ _ e1 e2
theorem cut_whole {α : Type} (l : List α) (a k : Nat) (h : ((l.drop a).take k).length = l.length) : (l.drop a).take k = l := by
  rw [List.length_take, List.length_drop] at h
  by_cases h0 : l.length = 0
  · have : l = [] := List.length_eq_zero_iff.mp h0
    subst this; simp
  · have ha : a = 0 := by omega
    subst ha
    rw [List.drop_zero]
    exact List.take_of_length_le (by omega)
theorem cutS_eq (z : Str) (lo hi : Option Int) : Txt.slice z lo hi = cutS z lo hi := by
  have e : (Builtin.Str.strSliceIndices lo hi 1 z.length).filterMap (z.cps[·]?) = (z.cps.toList.drop (HT.sIx z.length 0 lo)).take (HT.sIx z.length z.length hi - HT.sIx z.length 0 lo) := by
    rw [strIx_eq, pick_run]
  unfold Txt.slice cutS
  split
  · rename_i h
    have h2 : ((Builtin.Str.strSliceIndices lo hi 1 z.length).length == z.length) = true := by simpa using h
    have h3 : (Builtin.Str.strSliceIndices lo hi 1 z.length).length = z.length := eq_of_beq h2
    rw [strIx_eq, List.length_map, List.length_range] at h3
    have hl : z.cps.toList.length = z.length := by simp [Str.length]
    have q : ((z.cps.toList.drop (HT.sIx z.length 0 lo)).take (HT.sIx z.length z.length hi - HT.sIx z.length 0 lo)) = z.cps.toList := by
      have hb : HT.sIx z.length z.length hi ≤ z.length := by
        cases hi with
        | none => exact Nat.le_refl _
        | some v => simp only [HT.sIx]; split <;> omega
      by_cases h0 : z.length = 0
      · have : z.cps.toList = [] := List.length_eq_zero_iff.mp (by omega)
        rw [this]; simp
      · have ha : HT.sIx z.length 0 lo = 0 := by omega
        rw [h3, ha, List.drop_zero]
        exact List.take_of_length_le (by omega)
    rw [q]
  · rw [e]
def rSlS : V → Option Int → Option Int → Hp → VK → Prop := fun x lo hi H Q => ∃ z, x = .str z ∧ z.length ≤ sizeLine ∧ Q (.str (cutS z lo hi)) H
theorem sl_str : SlR X rSlS := by
  intro pins s σ H x v vl vu lo hi sl Q I rx hs pl pu h
  obtain ⟨z, rfl, hz, q⟩ := h
  obtain ⟨t, rfl⟩ := rx
  have gen : ∀ (l u : Option (Int × Tok)), vl = partValue l → vu = partValue u → lo = l.map (·.1) → hi = u.map (·.1) →
      wpAny (model X.prog X.w) X.A (getItem (.str z t) (.ref sl)) (EP X pins σ Q) X.xe s := by
    intro l u e1 e2 e3 e4
    subst e1 e2 e3 e4
    refine wpAny_getItem_str_slice (l := l) (u := u) (st := none) hs (by rfl) ?_
    have e : (if ((((none : Option (Int × Tok)).map (·.1)).getD 1 == 1 && (slicePicked z l u none).length == z.length) = true) then z else ⟨((slicePicked z l u none).filterMap (z.cps[·]?)).toArray⟩) = cutS z (l.map (·.1)) (u.map (·.1)) := by
      rw [← cutS_eq]; rfl
    refine post_val_or_str ⟨?_, fun t' c => ⟨.str (cutS z (l.map (·.1)) (u.map (·.1))), H, I.tok c, ⟨t', congrArg (Value.str · t') e⟩, q⟩⟩
    rw [e, ← cutS_eq]
    exact Nat.le_trans (Txt.slice_le _ _ _) hz
  refine ⟨"str", _, F.slot_str_getitem.lookup, typeIs_str _ _ _, ?_⟩
  cases pl with
  | none => cases pu with
    | none => exact gen none none rfl rfl rfl rfl
    | int j tj => exact gen none (some (j, tj)) rfl rfl rfl rfl
  | int i ti => cases pu with
    | none => exact gen (some (i, ti)) none rfl rfl rfl rfl
    | int j tj => exact gen (some (i, ti)) (some (j, tj)) rfl rfl rfl rfl

/-! ### what a comprehension asks of its names, reckoned -/
def compChk (sc : Scope) (N : List Str) (scope : Scope) (Nc : List Str) (js : List (Option Nat)) : Bool :=
  (scope.kind == .function) && scope.names.all (fun y => !(y.2 == .cell)) && scope.names.all (fun y => !(y.2 == .local) || scope.names.lookup y.1 == some .local) &&
  scope.names.all (fun y => !(y.2 == .free) || ((sc.names.lookup y.1 == some .cell || sc.names.lookup y.1 == some .free) && !(scope.names.lookup y.1 == some .local))) && (js.length == Nc.length) &&
  (List.range js.length).all (fun i => match js[i]? with
    | some (some j) => (N[j]? == Nc[i]?) && (match Nc[i]? with | some x => scope.names.any (fun y => y.1 == x && y.2 == .free) | none => true)
    | _ => true)
theorem compOk_of {sc scope : Scope} {N Nc : List Str} {js : List (Option Nat)} (hd : compChk sc N scope Nc js = true) (hsc : X.env.scope = sc := by rfl) (hN : X.N = N := by rfl) : CompOk X scope Nc js := by
  simp only [compChk, Bool.and_eq_true, List.all_eq_true, Bool.or_eq_true, Bool.not_eq_true', beq_iff_eq, List.mem_range] at hd
  obtain ⟨⟨⟨⟨⟨h1, h2⟩, h3⟩, h4⟩, h5⟩, h6⟩ := hd
  have kk : ∀ x, X.env.kindOf x = sc.names.lookup x := fun x => by rw [← hsc]; rfl
  refine ⟨h1, fun y hy e => ?_, fun y hy e => ?_, fun y hy e => ?_, h5, fun x hx => ?_, fun i j x e1 e2 => ?_⟩
  · have := h2 y hy
    rw [e] at this; cases this
  · rcases h3 y hy with q | q
    · rw [e] at q; cases q
    · exact q
  · rcases h4 y hy with q | q
    · rw [e] at q; cases q
    · rw [kk]
      exact q.1
  · rcases h4 _ hx with q | q
    · cases q
    · intro z
      have q2 := q.2
      rw [z] at q2
      cases q2
  · have hi : i < js.length := (List.getElem?_eq_some_iff.mp e1).1
    have q := h6 i hi
    rw [e1, e2] at q
    simp only [Bool.and_eq_true, beq_iff_eq, List.any_eq_true] at q
    refine ⟨by rw [hN]; exact q.1, ?_⟩
    obtain ⟨y, hy, hy1, hy2⟩ := q.2
    obtain ⟨a, b⟩ := y
    simp only at hy1 hy2
    subst hy1 hy2
    exact hy
/-! ### data that stays -/
theorem Reps.len {H : Hp} : ∀ {vs : List V} {ds : List PyData}, Reps H vs ds → vs.length = ds.length
  | [], [], _ => rfl
  | [], _ :: _, h => by simp only [Reps] at h
  | _ :: _, [], h => by simp only [Reps] at h
  | _ :: vs, _ :: ds, h => by simp only [Reps] at h; simp [Reps.len h.2]
theorem Reps.app {H : Hp} : ∀ {vs us : List V} {ds es : List PyData}, Reps H vs ds → Reps H us es → Reps H (vs ++ us) (ds ++ es)
  | [], _, [], _, _, h => h
  | [], _, _ :: _, _, h, _ => by simp only [Reps] at h
  | _ :: _, _, [], _, h, _ => by simp only [Reps] at h
  | _ :: vs, us, _ :: ds, es, h, h' => by
    simp only [Reps] at h
    simp only [List.cons_append, Reps]
    exact ⟨h.1, Reps.app h.2 h'⟩
mutual
/-- tuples alone -/
def tupOnly : PyData → Bool
  | .list _ => false
  | .tuple ds => tupOnlys ds
  | .dict _ => false
  | _ => true
def tupOnlys : List PyData → Bool
  | [] => true
  | d :: ds => tupOnly d && tupOnlys ds
end
mutual
theorem Rep.kp {S : List Addr} {H H' : Hp} (k : Kp S H H') : ∀ {d : PyData} {v : V}, tupOnly d = true → Rep H v d → Rep H' v d
  | .none, _, _, h => by simp only [Rep] at h ⊢; exact h
  | .bool _, _, _, h => by simp only [Rep] at h ⊢; exact h
  | .int _, _, _, h => by simp only [Rep] at h ⊢; exact h
  | .str _, _, _, h => by simp only [Rep] at h ⊢; exact h
  | .list _, _, t, _ => by simp only [tupOnly] at t; cases t
  | .tuple ds, _, t, h => by
    simp only [Rep] at h ⊢
    obtain ⟨a, vs, e, e2, h⟩ := h
    exact ⟨a, vs, e, k.tup _ _ e2, Reps.kp k (by simpa only [tupOnly] using t) h⟩
  | .dict _, _, t, _ => by simp only [tupOnly] at t; cases t
theorem Reps.kp {S : List Addr} {H H' : Hp} (k : Kp S H H') : ∀ {ds : List PyData} {vs : List V}, tupOnlys ds = true → Reps H vs ds → Reps H' vs ds
  | [], [], _, _ => by simp only [Reps]
  | [], _ :: _, _, h => by simp only [Reps] at h
  | _ :: _, [], _, h => by simp only [Reps] at h
  | d :: ds, v :: vs, t, h => by
    simp only [Reps] at h ⊢
    simp only [tupOnlys, Bool.and_eq_true] at t
    exact ⟨Rep.kp k t.1 h.1, Reps.kp k t.2 h.2⟩
end
theorem Reps.ints (H : Hp) : ∀ l : List Int, Reps H (l.map V.int) (l.map PyData.int)
  | [] => by simp [Reps]
  | x :: r => by simp [Reps, Rep, Reps.ints H r]
theorem Reps.bools (H : Hp) : ∀ l : List Bool, Reps H (l.map V.bl) (l.map PyData.bool)
  | [] => by simp [Reps]
  | x :: r => by simp [Reps, Rep, Reps.bools H r]
end
end L2


/-! part L3e -/
set_option Elab.async false
set_option linter.all false
set_option maxRecDepth 100000
set_option maxHeartbeats 4000000
namespace L2
open PySem PySem.Spec PyProof.Rows
/-! ### iterators that yield tuples into a tuple of targets -/
def ItT (n : Nat) (vals : Nat → List V) : It := ⟨fun i _ => i < n, fun i H x H' => ∃ T, H T = none ∧ x = .ref T ∧ H' = upd H T (.tup (vals i)), fun i _ => i = n⟩
theorem Inv.turnedNew {X : Cx} {pins : List (Addr × Obj)} {σ : L2.St} {H : Hp} {s : Shared} {h' : Heap} {t' : Nat} {fp wr : List Addr} {T : Addr} {xs : List V} {vs : List Value} (I : Inv X pins σ H s) (hf : ∀ b ∈ wr, FpOk X pins H b)
    (k : ∀ b o, b ∉ wr → s.heap.get? b = some o → h'.get? b = some o) (hT : s.heap.objs.size ≤ T) (tup : IsTup h' T vs.toArray) (r : Vals xs vs) (hz : xs.length ≤ sizeLine) (there : ∀ b ∈ wr, ∃ o, h'.get? b = some o) :
    Inv X pins σ (upd H T (.tup xs)) { s with heap := h', toks := t' } := by
  have neT : ∀ b u, H b = some u → b ≠ T := fun b u e => Nat.ne_of_lt (Nat.lt_of_lt_of_le (I.hok.lt e) hT)
  have nw : ∀ b u, H b = some u → b ∉ wr := fun b u e hb => by rw [(hf b hb).1] at e; cases e
  refine I.step (g' := s.gens) (d' := s.drawn) (ch := wr) (fun b hb => ?_) (fun b o _ _ hc e _ => k b o hc e) (fun b o _ _ hc e _ => ⟨o.slots, k b o hc e⟩) (fun b o hc e n => ?_) (fun b o hc e => ⟨o, k b o hc e⟩)
    (fun b ys e => by rw [upd_ne (neT b _ e)]; exact e) (fun b o u e => by rw [upd_ne (neT b _ e)]; exact e) (fun b ps e => ⟨#[], by rw [upd_ne (neT b _ e), e]; simp⟩) (fun m hm => ?_) (fun b u e => ?_) I.bare
  · obtain ⟨_, f1, _, f3, f4, f5⟩ := hf b hb
    exact ⟨f3, f1, f4, f5⟩
  · rw [upd_ne (Nat.ne_of_lt (Nat.lt_of_lt_of_le (Heap.lt_size e) hT))]; exact n
  · obtain ⟨o, es, ep, ho, rr⟩ := hm
    exact ⟨o, es, ep, k _ o (fun z => (hf _ z).2.1 rfl) ho, rr⟩
  · by_cases hb : b = T
    · subst hb
      rw [upd_same] at e
      cases e
      exact ⟨hz, vs, r, tup⟩
    · rw [upd_ne hb] at e
      refine (I.hok b u e).stay (fun d v hd q => k d v ?_ q) (fun d q => by rw [upd_ne (neT d _ q)]; exact q) fun d ys q => by rw [upd_ne (neT d _ q)]; exact q
      rcases hd with rfl | hd
      · exact nw _ _ e
      · exact nw _ _ hd
theorem turn_WT {P : Program} {w : World} {K : PySem.W.Frag} {elts : List Expr} {kk : Nat} {pos : Pos} {it : Addr} {fp wr : List Addr} {n : Nat} {Pt : Nat → Array Value → Prop} {St : Nat → Heap → Prop} {Mid : Nat → Addr → Heap → Prop} {vals : Nat → List V}
    (W : ∀ A : Around, A.handled = none → WalksT P w A it fp wr n Pt St Mid) (hI : it ∈ fp) (obj : ∀ i h, St i h → ∀ b ∈ fp, ∃ o, h.get? b = some o ∧ ∀ v, o.data ≠ .cell v)
    (hself : ∀ (A : Around) (i : Nat) (s : Shared) (Q : Value → Shared → Prop) (E : Value → Shared → Prop), St i s.heap → Q (.ref it) s → wpAny (model P w) A (pyIter (.ref it)) Q E s)
    (hv : ∀ i vs, Pt i vs → Vals (vals i) vs.toList) (hz : ∀ i, (vals i).length ≤ sizeLine) : Turn P w K (.Tuple elts kk pos) (ItT n vals) fp it St where
  mem := hI
  obj := obj
  keep := fun i h h' st k => by
    obtain ⟨A, hA⟩ : ∃ A : Around, A.handled = none := ⟨callerA, rfl⟩
    exact (W A hA).frame i h h' st k
  item := by
    intro X hP hw hK hc i pins s σ H E I hf st hg
    subst hP hw hK
    have WA := W X.A (I.ok.hd hc)
    refine WA.item i s _ _ hg st fun T vs h' tk hp hT htup mid kk' => ⟨_, rfl, ?_⟩
    have nTw := WA.apart _ _ _ mid
    refine WA.go _ _ _ i T { s with heap := h', toks := tk } _ _ mid fun h'' st'' k'' => ?_
    have fw : ∀ b ∈ wr, FpOk X pins H b := fun b hb => hf b (WA.sub b hb)
    have tup' : IsTup h'' T vs := by
      obtain ⟨o, e, r⟩ := htup
      exact ⟨o, k'' T o nTw e, r⟩
    refine ⟨.ref T, upd H T (.tup (vals i)), ?_, rfl, ⟨T, I.hok.fresh hT, rfl, rfl⟩, st'', fun b hb => ?_⟩
    · exact I.turnedNew (fp := fp) fw (fun b o hb e => k'' b o hb (kk' b o hb e)) hT (by simpa using tup') (hv i vs hp) (hz i) fun b hb => let ⟨o, e, _⟩ := obj _ _ st'' b (WA.sub b hb); ⟨o, e⟩
    · have hlt : b < s.heap.objs.size := by
        obtain ⟨o, e, _⟩ := obj _ _ st b hb
        exact Heap.lt_size e
      rw [upd_ne (Nat.ne_of_lt (Nat.lt_of_lt_of_le hlt hT))]
      exact (hf b hb).1
  done := by
    intro X hP hw hK hc i pins s σ H E I hf st hg
    subst hP hw hK
    have hi : i = n := hg
    subst hi
    have WA := W X.A (I.ok.hd hc)
    refine WA.done s _ _ st fun h' tk kk' => ⟨rfl, ?_⟩
    have fw : ∀ b ∈ wr, FpOk X pins H b := fun b hb => hf b (WA.sub b hb)
    have nw : ∀ b u, H b = some u → b ∉ wr := fun b u e hb => by rw [(fw b hb).1] at e; cases e
    refine I.step (g' := s.gens) (d' := s.drawn) (ch := wr) (fun b hb => ?_) (fun b o _ _ hc e _ => kk' b o hc e) (fun b o _ _ hc e _ => ⟨o.slots, kk' b o hc e⟩) (fun b o hc e n => n) (fun b o hc e => ⟨o, kk' b o hc e⟩)
      (fun _ _ e => e) (fun _ _ _ e => e) (fun b ps e => ⟨#[], by rw [e]; simp⟩) (fun m hm => ?_) (fun b u e => ?_) I.bare
    · obtain ⟨_, f1, _, f3, f4, f5⟩ := fw b hb
      exact ⟨f3, f1, f4, f5⟩
    · obtain ⟨o, es, ep, ho, rr⟩ := hm
      exact ⟨o, es, ep, kk' _ o (fun z => (fw _ z).2.1 rfl) ho, rr⟩
    · refine (I.hok b u e).stay (fun d v hd q => kk' d v ?_ q) (fun _ q => q) fun _ _ q => q
      rcases hd with rfl | hd
      · exact nw _ _ e
      · exact nw _ _ hd
  self := hself

theorem loop_T {n : Nat} {vals : Nat → List V} {g : TG} {tb : TS} {D : Ends} {σ : L2.St} {H : Hp} (Pv : Nat → L2.St → Hp → Prop) (h0 : Pv 0 σ H)
    (hs : ∀ i σ H T, i < n → Pv i σ H → H T = none → g (.ref T) σ (upd H T (.tup (vals i))) fun σ2 H2 => tb { D with nx := Pv (i + 1), ct := Pv (i + 1), bk := D.nx } σ2 H2) (hd : ∀ σ H, Pv n σ H → D.nx σ H) : LoopR (ItT n vals) g tb D σ H := by
  refine ⟨fun i m σ H => m = n - i ∧ i ≤ n ∧ Pv i σ H, ⟨n, by simp, Nat.zero_le _, h0⟩, ?_⟩
  rintro i m σ H ⟨rfl, hi, p⟩
  by_cases hlt : i < n
  · refine .inr ⟨hlt, Pv (i + 1), fun σ' H' p' => ⟨n - (i + 1), by omega, rfl, hlt, p'⟩, fun x H' y => ?_⟩
    obtain ⟨T, hT, e1, e2⟩ := y
    subst e1 e2
    exact hs i σ H T hlt p hT
  · have e : i = n := by omega
    subst e
    exact .inl ⟨rfl, hd σ H p⟩
/-! ### enumerate(a text) -/
def enumV (z : Str) (i : Nat) : List V := [.int (i : Int), .str ⟨#[z.cps.toList.getD i 0]⟩]
section
variable {X : Cx}
def iEnumS (ta : TA) : TI := fun σ H R => ta σ H fun vs H1 => ∃ z, vs = [.str z] ∧ R (ItT z.length (enumV z)) H1
theorem turn_enumS {P : Program} {w : World} {K : PySem.W.Frag} {elts : List Expr} {kk : Nat} {pos : Pos} (z : Str) (t : Tok) (e it : Addr) (ne : e ≠ it) :
    Turn P w K (.Tuple elts kk pos) (ItT z.length (enumV z)) [e, it] e (fun i h => (∃ old, IsEnum h e it i old) ∧ h.IsStrIter it (strIterType z) z t i) := by
  have D : ∀ A : Around, A.handled = none → Draws P w A.in1 it [it] z.cps.size (fun i v => ∃ c u, z.cps[i]? = some c ∧ v = .str ⟨#[c]⟩ u) (fun i h => h.IsStrIter it (strIterType z) z t i) := fun A hA => by
    unfold strIterType
    split
    · exact Draws.strAscii (A := A.in1) (show A.in1.handled = none from hA) it z t
    · exact Draws.strWide (A := A.in1) (show A.in1.handled = none from hA) it z t
  refine turn_WT (wr := [e, it]) (fun A hA => WalksT.enumerateD (D A hA) e ne (by simpa using ne) (by simp)) (by simp) (fun i h st b hb => ?_) (fun A i s Q E st q => ?_) (fun i vs hp => ?_) (fun i => by show 2 ≤ sizeLine; decide)
  · obtain ⟨⟨old, he⟩, ⟨o, ho, hc, hd⟩⟩ := st
    rcases List.mem_cons.mp hb with rfl | hb
    · exact ⟨_, he, fun v z => by cases z⟩
    · rw [List.mem_singleton.mp hb]
      exact ⟨o, ho, fun v z => by rw [hd] at z; cases z⟩
  · obtain ⟨⟨old, he⟩, _⟩ := st
    exact wpAny_pyIter_enum he q
  · obtain ⟨t', x, ⟨c, u, hc, rfl⟩, rfl⟩ := hp
    have e1 : z.cps.toList.getD i 0 = c := by
      have : z.cps.toList[i]? = some c := by simpa using hc
      rw [List.getD_eq_getElem?_getD, this]; rfl
    refine .cons ⟨t', rfl⟩ (.cons ⟨u, ?_⟩ .nil)
    rw [e1]
theorem pi_enumerate {a : Expr} {ta : TA} {p pos tpos : Pos} {elts : List Expr} {kk : Nat} (hg : Gl X "enumerate") (hm : X.mg "enumerate" = none) (ha : PA X [a] ta) (hs : starEach [a] X.env = [(false, eval a X.env)] := by rfl) :
    PI X (.Tuple elts kk tpos) (.Call (.Name "enumerate" p) [a] [] pos) (iEnumS ta) := by
  intro pins s σ H R I h
  refine Call_ (ld_blt I hg hm bt_enumerate (PyProof.Rows.callWith_type1 (thn (ha pos pins s σ H _ I h) fun us s1 ⟨vs, H1, I1, r1, q1⟩ => ?_) hs rfl))
  obtain ⟨z, e, q⟩ := q1
  subst e
  obtain ⟨u, rfl, t, rfl⟩ := vals1 r1
  refine call_enumerate_str fun h' he hi hz hk => ?_
  have I2 : Inv X pins σ H1 { s1 with heap := h' } := I1.kept (t' := s1.toks) hk
  refine wpAny_pyIter_enum he ⟨s1.heap.objs.size + 1, [s1.heap.objs.size + 1, s1.heap.objs.size], _, _, H1, rfl, I2, turn_enumS z t (s1.heap.objs.size + 1) s1.heap.objs.size (Nat.succ_ne_self _), ⟨⟨.none, he⟩, hi⟩, fun b hb => ?_, q⟩
  have hb' : s1.heap.objs.size ≤ b := by
    rcases List.mem_cons.mp hb with rfl | hb
    · omega
    · rw [List.mem_singleton.mp hb]; exact Nat.le_refl _
  obtain ⟨f0, f1, f2, f3, f4, f5⟩ := I1.fpOk (H' := H1) hb' (I1.hok.fresh hb')
  exact ⟨f0, f1, f2, f3, f4, f5⟩
/-! ### range(..) as a value, list(range(..)) -/
def rRangeU : List V → Hp → VK → Prop := fun xs H Q => match xs with
  | [.int j] => -(2 ^ 62) ≤ j ∧ j < 2 ^ 62 ∧ ∀ p, H p = none → Q (.ref p) (upd H p (.rng 0 j))
  | [.int i, .int j] => -(2 ^ 62) ≤ i ∧ i < 2 ^ 62 ∧ -(2 ^ 62) ≤ j ∧ j < 2 ^ 62 ∧ ∀ p, H p = none → Q (.ref p) (upd H p (.rng i j))
  | _ => False
theorem call_rangeU : CallR X (.type "range") rRangeU := by
  intro pins s σ H xs us Q I r h
  unfold rRangeU at h
  split at h
  · rename_i j
    obtain ⟨u, rfl, t, rfl⟩ := vals1 r
    obtain ⟨h1, h2, q⟩ := h
    refine call_range_1 ⟨.ref s.heap.objs.size, upd H s.heap.objs.size (.rng 0 j), I.laid (fun b o e => Heap.get?_push_of_some _ e) (Nat.le_refl _) ⟨_, _, _, Heap.get?_push_size _ rfl⟩, rfl, q _ (I.hok.fresh (Nat.le_refl _))⟩
  · rename_i i j
    obtain ⟨u, w', rfl, ⟨t, rfl⟩, ⟨t', rfl⟩⟩ := vals2 r
    obtain ⟨h1, h2, h3, h4, q⟩ := h
    refine call_range_2 ⟨.ref s.heap.objs.size, upd H s.heap.objs.size (.rng i j), I.laid (fun b o e => Heap.get?_push_of_some _ e) (Nat.le_refl _) ⟨_, _, _, Heap.get?_push_size _ rfl⟩, rfl, q _ (I.hok.fresh (Nat.le_refl _))⟩
  · exact h.elim
end
end L2


/-! part L3f -/
set_option Elab.async false
set_option linter.all false
set_option maxRecDepth 100000
set_option maxHeartbeats 4000000
namespace L2
open PySem PySem.Spec PyProof.Rows
section
variable {X : Cx}
/-! ### repr -/
def rReprU : List V → Hp → VK → Prop := fun xs H Q => match xs with
  | [x] => ∃ d, Rep H x d ∧ d.showable = true ∧ d.hasDict = false ∧ d.depth ≤ 60 ∧ d.shown.length ≤ sizeLine ∧ Q (.str d.shown) H
  | _ => False
theorem call_reprU (hg : X.A.guards = some []) (hu : X.A.units + 64 < cLine) : CallR X (.builtin "repr") rReprU := by
  intro pins s σ H xs us Q I r h
  unfold rReprU at h
  split at h
  · rename_i x
    obtain ⟨d, hr, hs, hd, hp, hz, q⟩ := h
    obtain ⟨u, rfl, rx⟩ := vals1 r
    cases d with
    | none => simp only [Rep] at hr; subst hr; cases rx; exact PySem.P.repr_of_none ⟨.str _, H, I.tok _, ⟨_, rfl⟩, q⟩
    | bool b => simp only [Rep] at hr; subst hr; cases rx; exact PySem.P.repr_of_bool ⟨.str _, H, I.tok _, ⟨_, rfl⟩, q⟩
    | int i => simp only [Rep] at hr; subst hr; obtain ⟨t, rfl⟩ := rx; exact PySem.P.repr_of_int (by simpa [PyData.showable] using hs) ⟨.str _, H, I.tok _, ⟨_, rfl⟩, q⟩
    | str x => simp only [Rep] at hr; subst hr; obtain ⟨t, rfl⟩ := rx; exact PySem.P.repr_of_str ⟨.str _, H, I.tok _, ⟨_, rfl⟩, q⟩ hz
    | list ds =>
      obtain ⟨as, rd⟩ := hr.reads I rx
      simp only [Rep] at hr
      obtain ⟨a, vs, rfl, _⟩ := hr
      cases rx
      exact repr_of_reads' rd hs (PyData.noDict_hsm hd) hg (by omega) (fun _ _ e => e) (fun h' u tk hk => ⟨.str _, H, I.kept hk, ⟨_, rfl⟩, q⟩) hz
    | tuple ds =>
      obtain ⟨as, rd⟩ := hr.reads I rx
      simp only [Rep] at hr
      obtain ⟨a, vs, rfl, _⟩ := hr
      cases rx
      exact repr_of_reads' rd hs (PyData.noDict_hsm hd) hg (by omega) (fun _ _ e => e) (fun h' u tk hk => ⟨.str _, H, I.kept hk, ⟨_, rfl⟩, q⟩) hz
    | dict _ => simp only [Rep] at hr
  · exact h.elim
/-! ### list(range(..)) -/
def rListR : List V → Hp → VK → Prop := fun xs H Q => match xs with
  | [.ref p] => ∃ lo hi : Int, H p = some (.rng lo hi) ∧ -(2 ^ 62) ≤ lo ∧ lo < 2 ^ 62 ∧ -(2 ^ 62) ≤ hi ∧ hi < 2 ^ 62 ∧ (hi - lo).toNat ≤ sizeLine ∧ ∀ l, H l = none → Q (.ref l) (upd H l (.lst ((List.range (hi - lo).toNat).map fun i => V.int (lo + (i : Nat)))))
  | _ => False
theorem vals_of {xs : List V} {us : List Value} (hl : xs.length = us.length) (h : ∀ (i : Nat) (x : V) (u : Value), xs[i]? = some x → us[i]? = some u → RelV x u) : Vals xs us := by
  induction xs generalizing us with
  | nil => cases us with
    | nil => exact .nil
    | cons _ _ => simp at hl
  | cons x xs ih => cases us with
    | nil => simp at hl
    | cons u us => exact .cons (h 0 x u rfl rfl) (ih (by simpa using hl) fun i a b e1 e2 => h (i + 1) a b (by simpa using e1) (by simpa using e2))
theorem call_listR (hc : X.calm = true) : CallR X (.type "list") rListR := by
  intro pins s σ H xs us Q I r h
  unfold rListR at h
  split at h
  · rename_i p
    obtain ⟨lo, hi, e, h1, h2, h3, h4, hz, q⟩ := h
    obtain ⟨u, rfl, ru⟩ := vals1 r
    cases ru
    obtain ⟨t, u, v, e'⟩ := (show ObjOk X.prog X.w H s.heap p (.rng lo hi) from I.hok p _ e)
    have hsz : sizeLine = 16777216 := sizeLine_eq
    refine call_list_range (n := (hi - lo).toNat) (I.ok.hd hc) (show IsRange s.heap p lo hi 1 t u v from e') (small_one h1 h2 h3 h4) (by rw [rangeSize_one]; split <;> omega) (by omega) fun h' tk acc c hk hn hit => ?_
    refine ⟨.ref s.heap.objs.size, _, I.laid (o := .lst ((List.range (hi - lo).toNat).map fun i => V.int (lo + (i : Nat)))) hk (Nat.le_refl _) ⟨?_, acc.toList, c, ?_, by simpa using hn⟩, rfl, q _ (I.hok.fresh (Nat.le_refl _))⟩
    · rw [List.length_map, List.length_range]; exact hz
    · obtain ⟨i1, i2⟩ := hit
      refine vals_of (by simp [i1]) fun i x u e1 e2 => ?_
      obtain ⟨t', ht⟩ := i2 i u (by simpa using e2)
      subst ht
      rw [List.getElem?_map] at e1
      cases q : (List.range (hi - lo).toNat)[i]? with
      | none => rw [q] at e1; cases e1
      | some j =>
        rw [q] at e1
        have ej : j = i := by
          have := List.getElem?_eq_some_iff.mp q
          obtain ⟨_, e⟩ := this
          simpa using e.symm
        subst ej
        have e1' : V.int (lo + (j : Nat)) = x := Option.some.inj e1
        subst e1'
        exact ⟨t', by rw [Int.mul_one]⟩
  · exact h.elim
/-! ### +, tuples too -/
def rAddW : R2 := fun x y H Q => match x, y with
  | .int i, .int j => Q (.int (i + j)) H
  | .str i, .str j => i.length + j.length ≤ sizeLine ∧ Q (.str (i ++ j)) H
  | .ref l, .ref b => (∃ xs zs, lstOf (H l) = some xs ∧ lstOf (H b) = some zs ∧ xs.length + zs.length ≤ sizeLine ∧ ∀ p, H p = none → Q (.ref p) (upd H p (.lst (xs ++ zs)))) ∨
      (∃ xs zs, tupOf (H l) = some xs ∧ tupOf (H b) = some zs ∧ xs ≠ [] ∧ zs ≠ [] ∧ xs.length + zs.length ≤ sizeLine ∧ ∀ p, H p = none → Q (.ref p) (upd H p (.tup (xs ++ zs))))
  | _, _ => False
theorem op_addW : OpR X (binaryOp .Add) rAddW := by
  intro pins s σ H x y v u Q I rx ry h
  cases x with
  | int i => cases y with
    | int j => exact op_add pins s σ H _ _ v u Q I rx ry ⟨i, j, rfl, rfl, h⟩
    | _ => exact False.elim h
  | str i => cases y with
    | str j => exact op_add_str pins s σ H _ _ v u Q I rx ry ⟨i, j, rfl, rfl, h⟩
    | _ => exact False.elim h
  | ref l => cases y with
    | ref b =>
      rcases h with ⟨xs, zs, e1, e2, h⟩ | ⟨xs, zs, e1, e2, n1, n2, hz, h⟩
      · exact op_cat pins s σ H _ _ v u Q I rx ry ⟨l, b, xs, zs, rfl, rfl, of_lstOf e1, of_lstOf e2, h⟩
      · exact op_catT pins s σ H _ _ v u Q I rx ry ⟨l, b, xs, zs, rfl, rfl, SqT.of (of_tupOf e1), SqT.of (of_tupOf e2), n1, hz, fun z => absurd z n2, fun _ => h⟩
    | _ => exact False.elim h
  | _ => exact False.elim h
theorem rAddW_int (H : Hp) (Q : VK) (i j : Int) : rAddW (.int i) (.int j) H Q = (Q (.int (i + j)) H) := rfl
theorem rAddW_str (H : Hp) (Q : VK) (i j : Str) : rAddW (.str i) (.str j) H Q = (i.length + j.length ≤ sizeLine ∧ Q (.str (i ++ j)) H) := rfl
theorem rAddW.tup {H : Hp} {Q : VK} {l b : Addr} {xs zs : List V} (e1 : H l = some (.tup xs)) (e2 : H b = some (.tup zs)) (n1 : xs ≠ []) (n2 : zs ≠ []) (hz : xs.length + zs.length ≤ sizeLine)
    (h : ∀ p, H p = none → Q (.ref p) (upd H p (.tup (xs ++ zs)))) : rAddW (.ref l) (.ref b) H Q := .inr ⟨xs, zs, by rw [e1]; rfl, by rw [e2]; rfl, n1, n2, hz, h⟩
theorem rAddW.lst {H : Hp} {Q : VK} {l b : Addr} {xs zs : List V} (e1 : H l = some (.lst xs)) (e2 : H b = some (.lst zs)) (hz : xs.length + zs.length ≤ sizeLine)
    (h : ∀ p, H p = none → Q (.ref p) (upd H p (.lst (xs ++ zs)))) : rAddW (.ref l) (.ref b) H Q := .inl ⟨xs, zs, by rw [e1]; rfl, by rw [e2]; rfl, hz, h⟩
end
end L2


/-! part L3g -/
set_option Elab.async false
set_option linter.all false
set_option maxRecDepth 100000
set_option maxHeartbeats 4000000
namespace L2
open PySem PySem.Spec PyProof.Rows
section
variable {X : Cx} {pos : Pos} {k v : Expr} {tk tv : TE}
/-! ### {(..): v} -/
def tDisp1 (tk tv : TE) : TE := fun σ H Q => ∀ p, H p = none → tk σ (upd H p (.dT [])) fun x H1 => tv σ H1 fun y H2 => ∃ kvs ks b, H2 p = some (.dT kvs) ∧ x = .ref b ∧ H2 b = some (.tup (ks.map kV)) ∧ kvs.length < sizeLine ∧ Q (.ref p) (upd H2 p (.dT (putK kvs ks y)))
theorem pe_disp1 (hu : X.A.units + 1 < cLine) (hk : PE X k tk) (hv : PE X v tv) : PE X (.Dict [some k] [v] pos) (tDisp1 tk tv) := by
  intro pins s σ H Q I q
  have hn := I.hok.fresh (Nat.le_refl s.heap.objs.size)
  have I1 := I.laid (a := s.heap.objs.size) (o := .dT []) (h' := s.heap.push { cls := .type "dict", data := .dict #[] }) (t' := s.toks) (fun _ _ q => Heap.get?_push_of_some _ q) (Nat.le_refl _) (dt_empty s.heap I.big)
  rw [arm_eval_Dict, zip_pairTrees [some k] [v] X.env pos rfl rfl, dictDisplay_pairs (pairTrees [some k] [v] X.env pos) (by simp [pairTrees]) (by simp [pairTrees])]
  refine wpAny_bind (wpAny_standAt (wpAny_bind ?_))
  unfold subDict
  refine wpAny_bind (wpAny_alloc (wpAny_bind (wpAny_holding ?_)))
  rw [if_pos (by simp [pairTrees])]
  have hp : PPs X pos [some k] [v] [(tk, tv)] := pps_cons hk hv pps_nil
  refine wpAny_bind (thn (hp pins _ σ _ (fun ps H2 => match ps with
    | [(x, y)] => ∃ kvs ks b, H2 s.heap.objs.size = some (.dT kvs) ∧ x = .ref b ∧ H2 b = some (.tup (ks.map kV)) ∧ kvs.length < sizeLine ∧ Q (.ref s.heap.objs.size) (upd H2 s.heap.objs.size (.dT (putK kvs ks y)))
    | _ => False) I1 (q _ hn)) fun ws s2 ⟨ps, H2, I2, rel, q2⟩ => ?_)
  split at q2
  · rename_i x y
    obtain ⟨kvs, ks, b, e, rfl, eb, l, q2⟩ := q2
    cases rel with
    | @cons pa pb as bs h t =>
      cases t
      obtain ⟨u, r⟩ := pb
      obtain ⟨ru, rr⟩ := h
      have eu : u = Value.ref b := ru
      subst eu
      refine wpAny_holding ?_
      simp only [List.forIn_cons, List.forIn_nil]
      obtain ⟨z, hd, xs, rl, dd⟩ := dt_of I2.hok e
      have hz : xs.length ≤ sizeLine := by rw [← Paired.length rl]; exact z
      have hl : (putK kvs ks y).length ≤ sizeLine := by have := length_putK kvs ks y; omega
      refine wpAny_bind (wpAny_bind (wpAny_bind (wpAny_dictSet_heap (hsz := hz) (knd := tupleKind (mixKind X.prog X.w)) (show X.A.units < cLine by omega) (key_of I2.hok eb) dd fun h' dd' hs => ?_)))
      refine wpAny_pure (wpAny_pure (wpAny_pure (wpAny_pure (wpAny_pure ?_))))
      obtain ⟨qo, es, ep, hq, h2, h3, h4, _, h5⟩ := dd'
      refine ⟨.ref s.heap.objs.size, _, ?_, rfl, q2⟩
      refine d_write I2 (by rw [e]; exact True.intro) hs ⟨qo, hq⟩ ⟨hl, hd, _, (rl.put ks eb rr).keeps fun c ys ec => ?_, qo, es, ep, hq, h2, h3, h4, h5⟩
      rw [upd_ne (ne_of ec e (fun z => nomatch z))]
      exact ec
  · exact q2.elim
end
end L2


/-! part L3h -/
set_option Elab.async false
set_option linter.all false
set_option maxRecDepth 100000
set_option maxHeartbeats 4000000
namespace L2
open PySem PySem.Spec PyProof.Rows
section
variable {X : Cx}
/-! ### slices of texts, lists, tuples, by the value -/
def rSlU (K : PySem.W.Frag) : V → Option Int → Option Int → Hp → VK → Prop := fun x lo hi H Q => match x with
  | .str z => z.length ≤ sizeLine ∧ Q (.str (cutS z lo hi)) H
  | .ref a => (∃ xs, SqL K H a xs ∧ ∀ p, H p = none → Q (.ref p) (upd H p (.lst (cutV xs lo hi)))) ∨
      ∃ xs, SqT K H a xs ∧ ¬ (HT.sIx xs.length 0 lo = 0 ∧ HT.sIx xs.length xs.length hi = xs.length) ∧ ∀ p, H p = none → Q (.ref p) (upd H p (.tup (cutV xs lo hi)))
  | _ => False
theorem sl_U : SlR X (rSlU X.K) := by
  intro pins s σ H x v vl vu lo hi sl Q I rx hs pl pu h
  unfold rSlU at h
  split at h
  · rename_i z
    exact sl_str pins s σ H (.str z) v vl vu lo hi sl Q I rx hs pl pu ⟨z, rfl, h⟩
  · rename_i a
    rcases h with ⟨xs, hx, q⟩ | ⟨xs, hx, nw, q⟩
    · exact sl_list pins s σ H (.ref a) v vl vu lo hi sl Q I rx hs pl pu ⟨a, xs, rfl, hx, q⟩
    · exact sl_tup pins s σ H (.ref a) v vl vu lo hi sl Q I rx hs pl pu ⟨a, xs, rfl, hx, nw, q⟩
  · exact h.elim
theorem rSlU_str (K : PySem.W.Frag) (H : Hp) (Q : VK) (z : Str) (lo hi : Option Int) : rSlU K (.str z) lo hi H Q = (z.length ≤ sizeLine ∧ Q (.str (cutS z lo hi)) H) := rfl
theorem rSlU.sq {K : PySem.W.Frag} {H : Hp} {Q : VK} {a : Addr} {xs : List V} {lo hi : Option Int} (e : SqL K H a xs) (h : ∀ p, H p = none → Q (.ref p) (upd H p (.lst (cutV xs lo hi)))) : rSlU K (.ref a) lo hi H Q := .inl ⟨xs, e, h⟩
theorem rSlU.lst {K : PySem.W.Frag} {H : Hp} {Q : VK} {a : Addr} {xs : List V} {lo hi : Option Int} (e : H a = some (.lst xs)) (h : ∀ p, H p = none → Q (.ref p) (upd H p (.lst (cutV xs lo hi)))) : rSlU K (.ref a) lo hi H Q := .inl ⟨xs, SqL.of e, h⟩
theorem rSlU.tup {K : PySem.W.Frag} {H : Hp} {Q : VK} {a : Addr} {xs : List V} {lo hi : Option Int} (e : H a = some (.tup xs)) (nw : ¬ (HT.sIx xs.length 0 lo = 0 ∧ HT.sIx xs.length xs.length hi = xs.length)) (h : ∀ p, H p = none → Q (.ref p) (upd H p (.tup (cutV xs lo hi)))) : rSlU K (.ref a) lo hi H Q := .inr ⟨xs, SqT.of e, nw, h⟩
theorem cutV_mem {xs : List V} {lo hi : Option Int} {x : V} (h : x ∈ cutV xs lo hi) : x ∈ xs := List.mem_of_mem_drop (List.mem_of_mem_take h)
end
end L2


/-! part L3i -/
set_option Elab.async false
set_option linter.all false
set_option maxRecDepth 100000
set_option maxHeartbeats 4000000
namespace L2
open PySem PySem.Spec PyProof.Rows
section
variable {X : Cx}
/-! ### in, not in: a text within a text, flat items of a list or tuple -/
def hasS (z y : Str) : Bool := !(Builtin.Str.occurrences z y 0 z.length 1).isEmpty
def rInU (K : PySem.W.Frag) (neg : Bool) : R2 := fun x y H Q => match x, y with
  | .str i, .str j => Q (.bl (if neg then !hasS j i else hasS j i)) H
  | x, .ref p => ∃ xs, (SqL K H p xs ∨ SqT K H p xs) ∧ flatV x = true ∧ xs.all flatV = true ∧ Q (.bl (if neg then !inV x xs else inV x xs)) H
  | _, _ => False
theorem rInU_str (K : PySem.W.Frag) (neg : Bool) (H : Hp) (Q : VK) (i j : Str) : rInU K neg (.str i) (.str j) H Q = Q (.bl (if neg then !hasS j i else hasS j i)) H := rfl
theorem op_inU {K : PySem.W.Frag} (hK : X.K = K) : OpR X (compareOp .In) (rInU K false) := by
  subst hK
  intro pins s σ H x y v u Q I rx ry h
  unfold rInU at h
  split at h
  · rename_i i j
    exact op_in_str pins s σ H _ _ v u Q I rx ry ⟨i, j, rfl, rfl, h⟩
  · rename_i p
    obtain ⟨xs, h⟩ := h
    exact op_in_seq pins s σ H _ _ v u Q I rx ry ⟨p, xs, rfl, h⟩
  · exact h.elim
theorem op_notinU {K : PySem.W.Frag} (hK : X.K = K) : OpR X (compareOp .NotIn) (rInU K true) := by
  subst hK
  intro pins s σ H x y v u Q I rx ry h
  unfold rInU at h
  split at h
  · rename_i i j
    exact op_notIn_str pins s σ H _ _ v u Q I rx ry ⟨i, j, rfl, rfl, h⟩
  · rename_i p
    obtain ⟨xs, h⟩ := h
    exact op_notIn_seq pins s σ H _ _ v u Q I rx ry ⟨p, xs, rfl, h⟩
  · exact h.elim
theorem hasS_one (z : Str) (c : Nat) : hasS z ⟨#[c]⟩ = decide (c ∈ z.cps.toList) := PySem.StrLaws.found_one z c
theorem rInU.lst {K : PySem.W.Frag} {neg : Bool} {H : Hp} {Q : VK} {x : V} {p : Addr} {xs : List V} (e : H p = some (.lst xs)) (fx : flatV x = true) (fs : xs.all flatV = true) (q : Q (.bl (if neg then !inV x xs else inV x xs)) H) : rInU K neg x (.ref p) H Q := by
  cases x <;> exact ⟨xs, .inl (SqL.of e), fx, fs, q⟩
theorem rInU.tupS {K : PySem.W.Frag} {neg : Bool} {H : Hp} {Q : VK} {x : V} {p : Addr} {xs : List V} (e : SqT K H p xs) (fx : flatV x = true) (fs : xs.all flatV = true) (q : Q (.bl (if neg then !inV x xs else inV x xs)) H) : rInU K neg x (.ref p) H Q := by
  cases x <;> exact ⟨xs, .inr e, fx, fs, q⟩
theorem lt1 (a b : Nat) : ([a] < [b]) = (a < b) := by simp [List.cons_lt_cons_iff]
/-! ### all, any of a list of truths -/
theorem range_pick (bs : List Bool) (d : Bool) : (List.range bs.length).map (fun i => (bs[i]?).getD d) = bs := by
  apply List.ext_getElem?
  intro i
  by_cases h : i < bs.length
  · simp [h]
  · rw [List.getElem?_eq_none_iff.mpr (by simp; omega), List.getElem?_eq_none_iff.mpr (by omega)]
theorem vals_bools : ∀ {bs : List Bool} {us : List Value}, Vals (bs.map V.bl) us → ∀ (i : Nat) (v : Value), us[i]? = some v → ∃ b, bs[i]? = some b ∧ v = .bool b
  | [], us, r, i, v, e => by rw [List.map_nil] at r; cases r; simp at e
  | b :: bs, us, r, i, v, e => by
    rw [List.map_cons] at r
    cases r with
    | cons r1 r2 =>
      cases i with
      | zero => cases r1; simp at e; exact ⟨b, rfl, e.symm⟩
      | succ i => simp at e; obtain ⟨b', e1, e2⟩ := vals_bools r2 i v e; exact ⟨b', by simpa using e1, e2⟩
def rAllU : List V → Hp → VK → Prop := fun xs H Q => match xs with
  | [.ref p] => ∃ bs : List Bool, H p = some (.lst (bs.map V.bl)) ∧ Q (.bl (bs.all id)) H
  | _ => False
def rAnyU : List V → Hp → VK → Prop := fun xs H Q => match xs with
  | [.ref p] => ∃ bs : List Bool, H p = some (.lst (bs.map V.bl)) ∧ Q (.bl (bs.any id)) H
  | _ => False
theorem kept_it {s : Shared} {h' : Heap} {o : Obj} (hk : ∀ b x, b ∉ [s.heap.objs.size] → (s.heap.push o).get? b = some x → h'.get? b = some x) : ∀ b x, s.heap.get? b = some x → h'.get? b = some x :=
  fun b x e => hk b x (fun hm => by rw [List.mem_singleton.mp hm] at e; exact Nat.lt_irrefl _ (Heap.lt_size e)) (Heap.get?_push_of_some _ e)
theorem call_allU (hc : X.calm = true) : CallR X (.builtin "all") rAllU := by
  intro pins s σ H xs us Q I r h
  unfold rAllU at h
  split at h
  · rename_i p
    obtain ⟨bs, e, q⟩ := h
    obtain ⟨u, rfl, ru⟩ := vals1 r
    cases ru
    obtain ⟨its, rr, pl, _⟩ := I.list (SqL.of e)
    have isl := pl.isList
    have plt : p < s.heap.objs.size := by obtain ⟨_, e, _⟩ := isl; exact Heap.lt_size e
    refine call_all_walk (wpAny_pyIter_list isl ?_)
    refine ⟨s.heap.objs.size, [s.heap.objs.size, p], [s.heap.objs.size], its.toArray.size, _, _, fun i => (bs[i]?).getD true, rfl, Walks.list (A := X.A.in1) (I.ok.hd hc) _ p (Nat.ne_of_lt plt) its.toArray,
      ⟨⟨_, Heap.get?_push_size _ rfl, rfl, rfl⟩, isl.push _⟩, fun i v s' Q' E' hp hq => ?_, fun h' tk hk => ?_⟩
    · obtain ⟨b, e, rfl⟩ := vals_bools rr i v (by simpa using hp)
      simp only [Option.getD_some, e] at hq
      exact wpAny_truthy_bool hq
    · have e : ((List.range its.toArray.size).all fun i => (bs[i]?).getD true) = bs.all id := by
        have hlen : its.length = bs.length := by have := rr.length; simpa using this.symm
        rw [List.size_toArray, hlen]
        conv => rhs; rw [← range_pick bs true, List.all_map]
        rfl
      rw [e]
      exact ⟨.bl _, H, I.kept (kept_it hk), rfl, q⟩
  · exact h.elim
theorem call_anyU (hc : X.calm = true) : CallR X (.builtin "any") rAnyU := by
  intro pins s σ H xs us Q I r h
  unfold rAnyU at h
  split at h
  · rename_i p
    obtain ⟨bs, e, q⟩ := h
    obtain ⟨u, rfl, ru⟩ := vals1 r
    cases ru
    obtain ⟨its, rr, pl, _⟩ := I.list (SqL.of e)
    have isl := pl.isList
    have plt : p < s.heap.objs.size := by obtain ⟨_, e, _⟩ := isl; exact Heap.lt_size e
    refine call_any_walk (wpAny_pyIter_list isl ?_)
    refine ⟨s.heap.objs.size, [s.heap.objs.size, p], [s.heap.objs.size], its.toArray.size, _, _, fun i => (bs[i]?).getD false, rfl, Walks.list (A := X.A.in1) (I.ok.hd hc) _ p (Nat.ne_of_lt plt) its.toArray,
      ⟨⟨_, Heap.get?_push_size _ rfl, rfl, rfl⟩, isl.push _⟩, fun i v s' Q' E' hp hq => ?_, fun h' tk hk => ?_⟩
    · obtain ⟨b, e, rfl⟩ := vals_bools rr i v (by simpa using hp)
      simp only [Option.getD_some, e] at hq
      exact wpAny_truthy_bool hq
    · have e : ((List.range its.toArray.size).any fun i => (bs[i]?).getD false) = bs.any id := by
        have hlen : its.length = bs.length := by have := rr.length; simpa using this.symm
        rw [List.size_toArray, hlen]
        conv => rhs; rw [← range_pick bs false, List.any_map]
        rfl
      rw [e]
      exact ⟨.bl _, H, I.kept (kept_it hk), rfl, q⟩
  · exact h.elim
theorem rAllU_ref (p : Addr) (H : Hp) (Q : VK) : rAllU [.ref p] H Q = (∃ bs : List Bool, H p = some (.lst (bs.map V.bl)) ∧ Q (.bl (bs.all id)) H) := rfl
theorem rAnyU_ref (p : Addr) (H : Hp) (Q : VK) : rAnyU [.ref p] H Q = (∃ bs : List Bool, H p = some (.lst (bs.map V.bl)) ∧ Q (.bl (bs.any id)) H) := rfl
end
end L2


/-! part L3j -/
set_option Elab.async false
set_option linter.all false
set_option maxRecDepth 100000
set_option maxHeartbeats 4000000
namespace L2
open PySem PySem.Spec PyProof.Rows
/-! ### comprehensions whose elements only read: what they make, at once -/
theorem upd_D {H : Hp} {D : Addr} {a b : HO} : upd (upd H D a) D b = upd H D b := upd_upd
section
variable {D : Addr} {te : TE} {E : Ends} {r : L2.St} {H : Hp}
theorem comp_str {z : Str} (f : Nat → V) (hz : z.length ≤ sizeLine) (he : ∀ c ∈ z.cps.toList, ∀ l Q, Q (f c) (upd H D (.lst l)) → te (some (.str ⟨#[c]⟩) :: r) (upd H D (.lst l)) Q)
    (hn : ∀ v, E.nx (v :: r) (upd H D (.lst (z.cps.toList.map f)))) : LoopR (ItS z) (gName 0) (tEmit D te) E (none :: r) (upd H D (.lst [])) := by
  have hzl : z.cps.toList.length = z.length := by simp [Str.length]
  refine loop_str (fun i σ H' => ∃ v : Option V, σ = v :: r ∧ H' = upd H D (.lst ((z.cps.toList.take i).map f))) ⟨none, rfl, rfl⟩ ?_ ?_
  · rintro i c σ H' hc ⟨v, rfl, rfl⟩
    have hl : i < z.cps.toList.length := (List.getElem?_eq_some_iff.mp hc).1
    refine he c (List.mem_of_getElem? hc) _ _ ⟨_, by rw [upd_same]; rfl, by simp; omega, some (.str ⟨#[c]⟩), rfl, ?_⟩
    rw [upd_D, List.take_succ, hc]
    simp
  · rintro σ H' ⟨v, rfl, rfl⟩
    rw [List.take_of_length_le (by omega)]
    exact hn v
theorem comp_range {lo : Int} {n : Nat} (f : Nat → V) (hz : n ≤ sizeLine) (he : ∀ i, i < n → ∀ l Q, Q (f i) (upd H D (.lst l)) → te (some (.int (lo + (i : Nat))) :: r) (upd H D (.lst l)) Q)
    (hn : ∀ v, E.nx (v :: r) (upd H D (.lst ((List.range n).map f)))) : LoopR (Itr lo n) (gName 0) (tEmit D te) E (none :: r) (upd H D (.lst [])) := by
  refine loop_range (fun i σ H' => ∃ v : Option V, σ = v :: r ∧ H' = upd H D (.lst ((List.range i).map f))) ⟨none, rfl, rfl⟩ ?_ ?_
  · rintro i σ H' hi ⟨v, rfl, rfl⟩
    refine he i hi _ _ ⟨_, by rw [upd_same]; rfl, by simp; omega, some (.int (lo + (i : Nat))), rfl, ?_⟩
    rw [upd_D, List.range_succ]
    simp
  · rintro σ H' ⟨v, rfl, rfl⟩
    exact hn v
theorem comp_list {K : PySem.W.Frag} {a : Addr} {xs : List V} (f : V → V) (ha : H a = some (.lst xs)) (hD : H D = none) (hz : xs.length ≤ sizeLine) (he : ∀ x ∈ xs, ∀ l Q, Q (f x) (upd H D (.lst l)) → te (some x :: r) (upd H D (.lst l)) Q)
    (hn : ∀ v, E.nx (v :: r) (upd H D (.lst (xs.map f)))) : LoopR (Itl K a) (gName 0) (tEmit D te) E (none :: r) (upd H D (.lst [])) := by
  have ne : a ≠ D := ne_of_none ha hD
  refine loop_list (xs := xs) (fun i σ H' => ∃ v : Option V, σ = v :: r ∧ H' = upd H D (.lst ((xs.take i).map f))) ⟨none, rfl, rfl⟩ ?_ ?_ ?_
  · rintro i σ H' _ ⟨v, _, rfl⟩
    rw [upd_ne ne]; exact ha
  · rintro i x σ H' hx ⟨v, rfl, rfl⟩
    have hl : i < xs.length := (List.getElem?_eq_some_iff.mp hx).1
    refine he x (List.mem_of_getElem? hx) _ _ ⟨_, by rw [upd_same]; rfl, by simp; omega, some x, rfl, ?_⟩
    rw [upd_D, List.take_succ, hx]
    simp
  · rintro σ H' ⟨v, rfl, rfl⟩
    rw [List.take_of_length_le (Nat.le_refl _)]
    exact hn v
theorem comp_tup {K : PySem.W.Frag} {a : Addr} {xs : List V} (f : V → V) (ha : H a = some (.tup xs)) (hD : H D = none) (hz : xs.length ≤ sizeLine) (he : ∀ x ∈ xs, ∀ l Q, Q (f x) (upd H D (.lst l)) → te (some x :: r) (upd H D (.lst l)) Q)
    (hn : ∀ v, E.nx (v :: r) (upd H D (.lst (xs.map f)))) : LoopR (Itt K a) (gName 0) (tEmit D te) E (none :: r) (upd H D (.lst [])) := by
  have ne : a ≠ D := ne_of_none ha hD
  refine loop_tup (xs := xs) (fun i σ H' => ∃ v : Option V, σ = v :: r ∧ H' = upd H D (.lst ((xs.take i).map f))) ⟨none, rfl, rfl⟩ ?_ ?_ ?_
  · rintro i σ H' _ ⟨v, _, rfl⟩
    rw [upd_ne ne]; exact ha
  · rintro i x σ H' hx ⟨v, rfl, rfl⟩
    have hl : i < xs.length := (List.getElem?_eq_some_iff.mp hx).1
    refine he x (List.mem_of_getElem? hx) _ _ ⟨_, by rw [upd_same]; rfl, by simp; omega, some x, rfl, ?_⟩
    rw [upd_D, List.take_succ, hx]
    simp
  · rintro σ H' ⟨v, rfl, rfl⟩
    rw [List.take_of_length_le (Nat.le_refl _)]
    exact hn v
end
end L2


/-! part L3k -/
set_option Elab.async false
set_option linter.all false
set_option maxRecDepth 100000
set_option maxHeartbeats 4000000
set_option autoImplicit true
set_option relaxedAutoImplicit true
namespace L2
open PySem PySem.Spec PyProof.Rows
/-! ### the rules once more, closed: a structure is not unfolded while a term is read -/
structure QE (X : Cx) (e : Expr) (t : TE) : Prop where
  h : PE X e t
structure QT (X : Cx) (e : Expr) (t : TT) : Prop where
  h : PT X e t
structure QW (X : Cx) (e : Expr) (t : TT) : Prop where
  h : PW X e t
structure QA (X : Cx) (es : List Expr) (t : TA) : Prop where
  h : PA X es t
structure QS (X : Cx) (st : Stmt) (t : TS) : Prop where
  h : PS X st t
structure QSs (X : Cx) (st : List Stmt) (t : TS) : Prop where
  h : PSs X st t
structure QG (X : Cx) (e : Expr) (t : TG) : Prop where
  h : PG X e t
structure QGs (X : Cx) (es : List Expr) (t : TGs) : Prop where
  h : PGs X es t
structure QI (X : Cx) (tg iter : Expr) (wi : TI) : Prop where
  h : PI X tg iter wi
structure QO (X : Cx) (e : Option Expr) (t : TO) : Prop where
  h : PO X e t
structure QC (X : Cx) (op : CmpOp) (a b : Expr) (t : TE) : Prop where
  h : PC X op a b t
theorem qpss_nil : QSs X [] tNext := ⟨pss_nil⟩
theorem qpss_one (h1 : QS X stm t) : QSs X [stm] t := ⟨pss_one h1.h⟩
theorem qpss_cons (h1 : QS X stm t) (h2 : QSs X rst u) : QSs X (stm :: rst) (tSeq t u) := ⟨pss_cons h1.h h2.h⟩
theorem qpss_cut {D0 : Ends} {M : L2.St → Hp → Prop} (h : QSs X rst u) (hM : ∀ σ H, M σ H → u D0 σ H) : QSs X rst (tCut D0 M) := ⟨pss_cut h.h hM⟩
theorem qpv (i : Nat) {x : Str} {pos : Pos} (hN : X.N[i]? = some x := by rfl) (hv : Vis X.env.scope x := by first | exact Or.inl rfl | exact Or.inr (Or.inl rfl) | exact Or.inr (Or.inr rfl))
    (hd : (x == ("__debug__" : Str)) = false := by decide) (hcd : (x == ("__classdict__" : Str)) = false := by decide) : QE X (.Name x pos) (tVar i) := ⟨pv i hN hv hd hcd⟩
theorem qpe_int : QE X (.Constant (.int i) j pos) (tC (.int i)) := ⟨pe_int⟩
theorem qpe_bl : QE X (.Constant (.bool b) j pos) (tC (.bl b)) := ⟨pe_bl⟩
theorem qpe_non : QE X (.Constant .none j pos) (tC .non) := ⟨pe_non⟩
theorem qpe_str : QE X (.Constant (.str x) j pos) (tC (.str x)) := ⟨pe_str⟩
theorem qpe_glob {x : Str} {v : V} {u : Value} {pos : Pos} (hg : Gl X x) (hm : X.mg x = some u) (r : RelV v u) (hd : (x == ("__debug__" : Str)) = false := by decide) : QE X (.Name x pos) (tC v) := ⟨pe_glob hg hm r hd⟩
theorem qpe_bltn {x : Str} {v : V} {u : Value} {pos : Pos} (hg : Gl X x) (hm : X.mg x = none) (hv : bootBuiltins x = some u) (r : RelV v u) (hn : x ≠ "__name__" := by decide) (hd : (x == ("__debug__" : Str)) = false := by decide) :
    QE X (.Name x pos) (tC v) := ⟨pe_bltn hg hm hv r hn hd⟩
theorem qpe_op (ho : OpR X (binaryOp op) r) (ha : QE X a ta) (hb : QE X b tb) : QE X (.BinOp a op b pos) (tOp r ta tb) := ⟨pe_op ho ha.h hb.h⟩
theorem qpe_not (ha : QE X a ta) : QE X (.UnaryOp .Not a pos) (tNotV ta) := ⟨pe_not ha.h⟩
theorem qpe_un (ho : UnR X (unaryOp op) r) (ha : QE X a ta) : QE X (.UnaryOp op a pos) (tUn r ta) := ⟨pe_un ho ha.h⟩
theorem qpe_cmpR (ho : OpR X (compareOp op) r) (ha : QE X a ta) (hb : QE X b tb) (hm : behindInMarks op b = false) : QE X (.Compare a [op] [b] pos) (tOp r ta tb) := ⟨pe_cmpR ho ha.h hb.h hm⟩
theorem qpt_cmpR (ho : OpR X (compareOp op) r) (ha : QE X a ta) (hb : QE X b tb) (hm : behindInMarks op b = false) : QT X (.Compare a [op] [b] pos) (tTest (tOp r ta tb)) := ⟨pt_cmpR ho ha.h hb.h hm⟩
theorem qpe_chain (ho : OpR X (compareOp op) r) (ho' : OpR X (compareOp op') r') (ha : QE X a ta) (hb : QE X b tb) (hc : QE X c tc) (hm : lastMarks [op, op'] [b, c] = false := by with_unfolding_all rfl) :
    QE X (.Compare a [op, op'] [b, c] pos) (tChain r r' ta tb tc) := ⟨pe_chain ho ho' ha.h hb.h hc.h hm⟩
theorem qpt_chain (ho : OpR X (compareOp op) r) (ho' : OpR X (compareOp op') r') (ha : QE X a ta) (hb : QE X b tb) (hc : QE X c tc) (hm : lastMarks [op, op'] [b, c] = false := by with_unfolding_all rfl) :
    QT X (.Compare a [op, op'] [b, c] pos) (tTest (tChain r r' ta tb tc)) := ⟨pt_chain ho ho' ha.h hb.h hc.h hm⟩
theorem qpe_cmp (h : QC X op a b t) (h1 : behindInMarks op b = false := by first | exact nobehind _ (by decide) (by decide) | rfl) : QE X (.Compare a [op] [b] pos) t := ⟨pe_cmp h.h h1⟩
theorem qpt_cmp (h : QC X op a b t) (h1 : behindInMarks op b = false := by first | exact nobehind _ (by decide) (by decide) | rfl) : QT X (.Compare a [op] [b] pos) (tB t) := ⟨pt_cmp h.h h1⟩
theorem qpc_din (hu : X.A.units + 1 < cLine) (hi : QE X i ty) (ho : QE X o td) : QC X .In i o (tDIn ty td) := ⟨pc_din hu hi.h ho.h⟩
theorem qpc_dnotin (hu : X.A.units + 1 < cLine) (hi : QE X i ty) (ho : QE X o td) : QC X .NotIn i o (tDNotIn ty td) := ⟨pc_dnotin hu hi.h ho.h⟩
theorem qpt_not (ha : QT X a tA) : QT X (.UnaryOp .Not a pos) (tNot tA) := ⟨pt_not ha.h⟩
theorem QW.pt (h : QW X e t) : QT X e t := ⟨PW.pt h.h⟩
theorem qpw_and (ha : QT X a tA) (hb : QW X (.BoolOp .And (b :: rst) pos) tB') : QW X (.BoolOp .And (a :: b :: rst) pos) (tAnd tA tB') := ⟨pw_and ha.h hb.h⟩
theorem qpw_or (ha : QT X a tA) (hb : QW X (.BoolOp .Or (b :: rst) pos) tB') : QW X (.BoolOp .Or (a :: b :: rst) pos) (tOr tA tB') := ⟨pw_or ha.h hb.h⟩
theorem qpw_and1 (ha : QT X a tA) : QW X (.BoolOp .And [a] pos) tA := ⟨pw_and1 ha.h⟩
theorem qpw_or1 (ha : QT X a tA) : QW X (.BoolOp .Or [a] pos) tA := ⟨pw_or1 ha.h⟩
theorem qpt_val {e : Expr} (h : QE X e t) (he : ∀ whole, isTrue e X.env whole = (do let v ← whole; standAt e.pos; holding [v] (truthy v)) := by intro _; rfl) : QT X e (tB t) := ⟨pt_val h.h he⟩
theorem qpe_one (h : QE X a t) : QE X (.BoolOp op [a] pos) t := ⟨pe_one h.h⟩
theorem qpe_and (ha : QE X a ta) (hb : QE X (.BoolOp .And (b :: rst) pos) tb) : QE X (.BoolOp .And (a :: b :: rst) pos) (tAndV ta tb) := ⟨pe_and ha.h hb.h⟩
theorem qpe_or (ha : QE X a ta) (hb : QE X (.BoolOp .Or (b :: rst) pos) tb) : QE X (.BoolOp .Or (a :: b :: rst) pos) (tOrV ta tb) := ⟨pe_or ha.h hb.h⟩
theorem qpe_ifExp (hc : QT X c tA) (ha : QE X a ta) (hb : QE X b tb) : QE X (.IfExp c a b pos) (tIf tA ta tb) := ⟨pe_ifExp hc.h ha.h hb.h⟩
theorem qpe_lst (h : QA X es t) : QE X (.List es pos) (tLst t) := ⟨pe_lst h.h⟩
theorem qpe_tup (h : QA X es t) : QE X (.Tuple es x1 pos) (tTup t) := ⟨pe_tup h.h⟩
theorem qpe_rev {e : Expr} (he : QE X e te) (ht : ∀ o r, letTemporaryGo e o r = pure () := by intro _ _; with_unfolding_all rfl) :
    QE X (.Subscript e (.Slice none none (some (.UnaryOp .USub (.Constant (.int 1) k p1) p2)) p3) p4) (tRevS te) := ⟨pe_rev he.h ht⟩
theorem qpe_slice (hr : SlR X r) (he : QE X e te) (hl : QO X lw tl) (hu : QO X hi th) : QE X (.Subscript e (.Slice lw hi none p2) pos) (tSl r te tl th) := ⟨pe_slice hr he.h hl.h hu.h⟩
theorem qpo_none : QO X none tNoPart := ⟨po_none⟩
theorem qpo_some (h : QE X e te) : QO X (some e) (tPart te) := ⟨po_some h.h⟩
theorem qpe_ix (hr : IxR X r) (ha : QE X a ta) (hb : QE X b tb) (hs : PlainIx b) : QE X (.Subscript a b pos) (tOp r ta tb) := ⟨pe_ix hr ha.h hb.h hs⟩
theorem qpe_disp1 (hu : X.A.units + 1 < cLine) (hk : QE X k tk) (hv : QE X v tv) : QE X (.Dict [some k] [v] pos) (tDisp1 tk tv) := ⟨pe_disp1 hu hk.h hv.h⟩
theorem qpe_comp (hc : X.calm = true) (c : CompOk X scope Nc js) (hi : QI X tg iter wi) (hg : ∀ C s3 H3 fp, QG (X.comp scope C Nc s3 H3 fp) tg g) (he : ∀ C s3 H3 fp, QE (X.comp scope C Nc s3 H3 fp) elt te)
    (hs : ∀ x, foldedSetIterable iter X.env x = pure x := by intro _; rfl) : QE X (.ListComp elt [⟨tg, iter, [], 0⟩] scope pos) (tComp wi g js te) := ⟨pe_comp hc c hi.h (fun C s H f => (hg C s H f).h) (fun C s H f => (he C s H f).h) hs⟩
theorem qps_setc {i : Nat} {y : Str} {py spos : Pos} (hN : X.N.Nodup) (hiN : X.N[i]? = some y) (hy : Loc X.env.scope y) (hc : X.calm = true) (c : CompOk X scope Nc js) (hi : QI X tg iter wi) (hg : ∀ C s3 H3 fp, QG (X.comp scope C Nc s3 H3 fp) tg g)
    (he : ∀ C s3 H3 fp, QE (X.comp scope C Nc s3 H3 fp) elt te) (hsw : swapsWith (.ListComp elt [⟨tg, iter, [], 0⟩] scope pos) (some (.Name y py)) spos.line X.env = pure true := by rfl)
    (hs : ∀ x, foldedSetIterable iter X.env x = pure x := by intro _; rfl) (hf : X.fn y = true ∨ X.env.scope.names.lookup y = some .local := by first | exact .inl rfl | exact .inr rfl | assumption) :
    QS X (.Assign [.Name y py] (.ListComp elt [⟨tg, iter, [], 0⟩] scope pos) spos) (tAsg (tComp wi g js te) (gName i)) := ⟨ps_setc hN hiN hy hc c hi.h (fun C s H f => (hg C s H f).h) (fun C s H f => (he C s H f).h) hsw hs hf⟩
theorem qpe_call (F : FnOk X.prog X.w X.K X.mg X.base CX k f fd ps sp) (hr : Room k X.A) (hg : Gl X x) (hm : X.mg x = some (.ref f)) (hk : PySem.W.keepIn X.K (.ref f) = true) (hb : Binds X.K fd ps ds) (hd : Vals dvs ds) (hx : Passes CX X E)
    (ha : QA X (e :: es) t) (hdb : (x == ("__debug__" : Str)) = false := by decide) (he : starEach (e :: es) X.env = (false, eval e X.env) :: starEach es X.env := by rfl) (hpl : (backTo pos (starEach es X.env)).any (·.1) = false := by rfl) :
    QE X (.Call (.Name x p) (e :: es) [] pos) (tCall sp dvs E t) := ⟨pe_call F hr hg hm hk hb hd hx ha.h hdb he hpl⟩
theorem qpe_callTy (hc : CallR X (.type T) r) (hg : Gl X x) (hm : X.mg x = none) (hv : bootBuiltins x = some (.type T)) (ha : QA X (e :: es) t) (hn : x ≠ "__name__" := by decide) (hdb : (x == ("__debug__" : Str)) = false := by decide)
    (he : starEach (e :: es) X.env = (false, eval e X.env) :: starEach es X.env := by rfl) (hpl : (backTo pos (starEach es X.env)).any (·.1) = false := by rfl) : QE X (.Call (.Name x p) (e :: es) [] pos) (tCB r t) := ⟨pe_callTy hc hg hm hv ha.h hn hdb he hpl⟩
theorem qpe_callB (hc : CallR X (.builtin idn) r) (hg : Gl X x) (hm : X.mg x = none) (hv : bootBuiltins x = some (.builtin idn)) (ha : QA X (e :: es) t) (hn : x ≠ "__name__" := by decide) (hdb : (x == ("__debug__" : Str)) = false := by decide)
    (he : starEach (e :: es) X.env = (false, eval e X.env) :: starEach es X.env := by rfl) (hpl : (backTo pos (starEach es X.env)).any (·.1) = false := by rfl) : QE X (.Call (.Name x p) (e :: es) [] pos) (tCB r t) := ⟨pe_callB hc hg hm hv ha.h hn hdb he hpl⟩
theorem qpe_bmL (slot : Slot "list" name idn) (hty : typeOf (.builtin idn) = pure (.type "method_descriptor")) (hm : MtM X idn r) (ho : QE X o to) (ha : QA X (e :: es) t) (mono : ∀ σ H Q Q', (∀ v H', Q v H' → Q' v H') → to σ H Q → to σ H Q')
    (hbase : attributeBase o name X.env (eval o X.env) = eval o X.env := by rfl)
    (hfew : ((backTo cpos (starEach (e :: es) X.env)).all (fun x => !x.1) && (backToKw cpos (keywordEach [] X.env)).all (fun x => x.1.isSome)
      && decide ((e :: es).length + ([] : List Keyword).length + (if ([] : List Keyword).isEmpty then 0 else 1) < 30)) = true := by rfl)
    (hline : (apos.endLine == cpos.line) = true := by rfl) (hs : starEach (e :: es) X.env = (false, eval e X.env) :: starEach es X.env := by rfl) (hplain : (backTo cpos (starEach es X.env)).any (·.1) = false := by rfl) :
    QE X (.Call (.Attribute o name apos) (e :: es) [] cpos) (tBML r to t) := ⟨pe_bmL slot hty hm ho.h ha.h mono hbase hfew hline hs hplain⟩
theorem qpe_bmS (slot : Slot "str" name idn) (hty : typeOf (.builtin idn) = pure (.type "method_descriptor")) (hm : MtM X idn r) (ho : QE X o to) (ha : QA X (e :: es) t) (mono : ∀ σ H Q Q', (∀ v H', Q v H' → Q' v H') → to σ H Q → to σ H Q')
    (hbase : attributeBase o name X.env (eval o X.env) = eval o X.env := by rfl)
    (hfew : ((backTo cpos (starEach (e :: es) X.env)).all (fun x => !x.1) && (backToKw cpos (keywordEach [] X.env)).all (fun x => x.1.isSome)
      && decide ((e :: es).length + ([] : List Keyword).length + (if ([] : List Keyword).isEmpty then 0 else 1) < 30)) = true := by rfl)
    (hline : (apos.endLine == cpos.line) = true := by rfl) (hs : starEach (e :: es) X.env = (false, eval e X.env) :: starEach es X.env := by rfl) (hplain : (backTo cpos (starEach es X.env)).any (·.1) = false := by rfl) :
    QE X (.Call (.Attribute o name apos) (e :: es) [] cpos) (tBMS r to t) := ⟨pe_bmS slot hty hm ho.h ha.h mono hbase hfew hline hs hplain⟩
theorem qpe_bmL0 (slot : Slot "list" name idn) (hty : typeOf (.builtin idn) = pure (.type "method_descriptor")) (hm : MtM X idn r) (ho : QE X o to) (mono : ∀ σ H Q Q', (∀ v H', Q v H' → Q' v H') → to σ H Q → to σ H Q')
    (hbase : attributeBase o name X.env (eval o X.env) = eval o X.env := by rfl) (hline : (apos.endLine == cpos.line) = true := by rfl) : QE X (.Call (.Attribute o name apos) [] [] cpos) (tBML0 r to) := ⟨pe_bmL0 slot hty hm ho.h mono hbase hline⟩
theorem qpa_nil : QA X [] tNil := ⟨pa_nil⟩
theorem qpa_cons (ha : QE X e te) (hr : QA X es t) (hs : starEach (e :: es) X.env = (false, eval e X.env) :: starEach es X.env := by rfl) : QA X (e :: es) (tCons te t) := ⟨pa_cons ha.h hr.h hs⟩
theorem qpg_name {i : Nat} {x : Str} (hN : X.N.Nodup) (hi : X.N[i]? = some x) (hx : Loc X.env.scope x) (hf : X.fn x = true ∨ X.env.scope.names.lookup x = some .local := by first | exact .inl rfl | exact .inr rfl | assumption) : QG X (.Name x pos) (gName i) := ⟨pg_name hN hi hx hf⟩
theorem qpg_tup {es : List Expr} {t : TGs} {n : Nat} {K : PySem.W.Frag} (hc : X.calm = true) (h : QGs X es t) (hK : X.K = K) (hn : (assignEach es X.env).length = n := by rfl) (hst : (assignEach es X.env).findIdx? (·.1) = none := by rfl) :
    QG X (.Tuple es k pos) (gTup K n t) := by subst hK; exact ⟨pg_tup hc h.h hn hst⟩
theorem qpgs_nil : QGs X [] gNil := ⟨pgs_nil⟩
theorem qpgs_cons {e : Expr} {es : List Expr} (h1 : QG X e t) (h2 : QGs X es u) (hs : (assignEach (e :: es) X.env).map (·.2) = assign e X.env :: (assignEach es X.env).map (·.2) := by rfl) : QGs X (e :: es) (gCons t u) := ⟨pgs_cons h1.h h2.h hs⟩
theorem qpg_sub {o i : Expr} (ho : QE X o to) (hi : QE X i ti) (hs : PSet X t)
    (ha : ∀ v, assign (.Subscript o i pos) X.env v = (do
      let ov ← holding [v] (eval o X.env)
      let iv ← holding [v, ov] (eval i X.env)
      standAt pos
      holding [v, ov, iv] (setItem ov iv v)
      release [v, ov, iv] []) := by intro _; rfl) : QG X (.Subscript o i pos) (gSub to ti t) := ⟨pg_sub ho.h hi.h hs ha⟩
theorem qps_set {i : Nat} {x : Str} {e : Expr} {te : TE} {pos' : Pos} (hN : X.N.Nodup) (hi : X.N[i]? = some x) (hx : Loc X.env.scope x) (he : QE X e te) (hs : swapsWith e (some (.Name x pos')) pos.line X.env = pure false := by rfl)
    (hf : X.fn x = true ∨ X.env.scope.names.lookup x = some .local := by first | exact .inl rfl | exact .inr rfl | assumption) : QS X (.Assign [.Name x pos'] e pos) (tAsg te (gName i)) := ⟨ps_set hN hi hx he.h hs hf⟩
theorem qps_asg {tg e : Expr} (he : QE X e te) (hg : QG X tg g) (hs : swapsWithSole [tg] e pos.line X.env = pure false := by rfl) (hw : swappedStores [tg] e X.env = pure none := by rfl)
    (h1 : (assignEach [tg] X.env).map (·.2) = [assign tg X.env] := by rfl) : QS X (.Assign [tg] e pos) (tAsg te g) := ⟨ps_asg he.h hg.h hs hw h1⟩
theorem qps_aug {i : Nat} {x : Str} {e : Expr} {te : TE} {op : Operator} {ti : TIp} {pos' : Pos} (hN : X.N.Nodup) (hi : X.N[i]? = some x) (hx : Loc X.env.scope x) (he : QE X e te) (ho : PIp X op ti)
    (hf : X.fn x = true ∨ X.env.scope.names.lookup x = some .local := by first | exact .inl rfl | exact .inr rfl | assumption) : QS X (.AugAssign (.Name x pos') op e pos) (tAug i te ti) := ⟨ps_aug hN hi hx he.h ho hf⟩
theorem qps_dput (hu : X.A.units + 1 < cLine) (ho : QE X o td) (hi : QE X i ty) (hv : QE X value tv) (hs : swapsWith value (some (.Subscript o i pos')) pos.line X.env = pure false) :
    QS X (.Assign [.Subscript o i pos'] value pos) (sDPut td ty tv) := ⟨ps_dput hu ho.h hi.h hv.h hs⟩
theorem qps_ret (he : QE X e te) : QS X (.Return (some e) pos) (tRet te) := ⟨ps_ret he.h⟩
theorem qps_retN : QS X (.Return none pos) tRetN := ⟨ps_retN⟩
theorem qps_expr (he : QE X e te) (hs : swapsWith e none pos.line X.env = pure false := by rfl) : QS X (.Expr e pos) (tDrop te) := ⟨ps_expr he.h hs⟩
theorem qps_if (hc : QT X c tc) (ha : QSs X a t) (hb : QSs X b u) : QS X (.If c a b pos) (tIfS tc t u) := ⟨ps_if hc.h ha.h hb.h⟩
theorem qps_for {iter : Expr} (hp : PassesOwn (model X.prog X.w) X.A X.env X.xe) (hc : X.calm = true) (hi : QI X tg iter wi) (hg : QG X tg g) (hb : QSs X body tb) (hs : ∀ x, foldedSetIterable iter X.env x = pure x := by intro _; rfl) :
    QS X (.For tg iter body [] pos) (tFor wi g tb) := ⟨ps_for hp hc hi.h hg.h hb.h hs⟩
theorem qps_while (hp : PassesOwn (model X.prog X.w) X.A X.env X.xe) (hc : QT X c tc) (hb : QSs X body tb) : QS X (.While c body [] pos) (tWhile tc tb) := ⟨ps_while hp hc.h hb.h⟩
theorem qps_pass : QS X (.Pass pos) tNext := ⟨ps_pass⟩
theorem qps_break : QS X (.Break pos) tBreak := ⟨ps_break⟩
theorem qps_continue : QS X (.Continue pos) tCont := ⟨ps_continue⟩
theorem qpi_range1 {a : Expr} {ta : TA} {p pos : Pos} (hg : Gl X "range") (hm : X.mg "range" = none) (ha : QA X [a] ta) (hs : starEach [a] X.env = [(false, eval a X.env)] := by rfl) : QI X tg (.Call (.Name "range" p) [a] [] pos) (iRng1 ta) := ⟨pi_range1 hg hm ha.h hs⟩
theorem qpi_range2 {a b : Expr} {ta : TA} {p pos : Pos} (hg : Gl X "range") (hm : X.mg "range" = none) (ha : QA X [a, b] ta) (hs : starEach [a, b] X.env = [(false, eval a X.env), (false, eval b X.env)] := by rfl) (hs2 : starEach [b] X.env = [(false, eval b X.env)] := by rfl) :
    QI X tg (.Call (.Name "range" p) [a, b] [] pos) (iRng2 ta) := ⟨pi_range2 hg hm ha.h hs hs2⟩
theorem qpi_enumerate {a : Expr} {ta : TA} {p pos tpos : Pos} (hg : Gl X "enumerate") (hm : X.mg "enumerate" = none) (ha : QA X [a] ta) (hs : starEach [a] X.env = [(false, eval a X.env)] := by rfl) :
    QI X (.Tuple elts kk tpos) (.Call (.Name "enumerate" p) [a] [] pos) (iEnumS ta) := ⟨pi_enumerate hg hm ha.h hs⟩
theorem qpi_any {K : PySem.W.Frag} (hl : QE X l tl) (hK : X.K = K) : QI X tg l (iAny K tl) := by subst hK; exact ⟨pi_any hl.h⟩
end L2


/-! part L3l -/
set_option Elab.async false
set_option linter.all false
set_option maxRecDepth 100000
set_option maxHeartbeats 4000000
namespace L2
open PySem PySem.Spec PyProof.Rows
/-! ### [elt for target in iter if test] -/
def tEmitIf (D : Addr) (tt : TT) (te : TE) : TS := fun E σ H => tt σ H fun b H1 => if b = true then tEmit D te E σ H1 else E.nx σ H1
def tCompIf (wi : TI) (g : TG) (js : List (Option Nat)) (tt : TT) (te : TE) : TE := fun σ H Q => wi σ H fun J H1 => ∀ D, H1 D = none →
  LoopR J g (tEmitIf D tt te) { nx := fun _ H' => Q (.ref D) H', rt := fun _ _ => False } (compSt js σ) (upd H1 D (.lst []))
theorem compTurn_if1 (elt target iter cd : Expr) (scope : Scope) (pos : Pos) (it acc : Value) (env : Env) :
    compTurn (.ListComp elt [⟨target, iter, [cd], 0⟩] scope pos) 0 it acc env = (standAt iter.pos >>= fun _ => pyNext it >>= fun r => match r with
      | none => pure (.done .next)
      | some v => letOwnedTupleGo target it v >>= fun _ => assign target env v >>= fun _ =>
        (forIn [cd] true fun c ok => if ok = true then (isTrue c env (eval c env) >>= fun b => pure (ForInStep.yield b)) else pure (ForInStep.yield ok)) >>= fun ok =>
        if ok = true then ((eval elt env >>= fun x => call (.builtin "list.append") [acc, x] >>= fun _ => pure ()) >>= fun _ => again (.compLoop (.ListComp elt [⟨target, iter, [cd], 0⟩] scope pos) 0 it acc env))
        else again (.compLoop (.ListComp elt [⟨target, iter, [cd], 0⟩] scope pos) 0 it acc env)) := by rfl
section
variable {X : Cx} {scope : Scope} {Nc : List Str} {js : List (Option Nat)} {elt tg iter cd : Expr} {pos : Pos} {wi : TI} {g : TG} {te : TE} {tt : TT}
theorem comp_coreIf (hc : X.calm = true) (c : CompOk X scope Nc js) (hi : PI X tg iter wi) (hg : ∀ C s3 H3 fp, PG (X.comp scope C Nc s3 H3 fp) tg g) (ht : ∀ C s3 H3 fp, PT (X.comp scope C Nc s3 H3 fp) cd tt) (he : ∀ C s3 H3 fp, PE (X.comp scope C Nc s3 H3 fp) elt te)
    {pins : List (Addr × Obj)} {s : Shared} {σ : L2.St} {H : Hp} (I : Inv X pins σ H s) {RR : Value → Addr → Result → Shared → Prop} {NX : Addr → Hp → Prop}
    (h : wi σ H fun J H1 => ∀ D, H1 D = none → LoopR J g (tEmitIf D tt te) { nx := fun _ H' => NX D H', rt := fun _ _ => False } (compSt js σ) (upd H1 D (.lst [])))
    (fin : ∀ D H3 s3 fp σ5 H5 s6, Inv X pins σ H3 s3 → (∀ b ∈ fp, FpOk X pins H3 b) → Inv (X.comp scope s3.heap.objs.size Nc s3 H3 fp) [] σ5 H5 s6 → NX D H5 → RR (.ref D) s3.heap.objs.size (.ok .next) s6) :
    wpAny (model X.prog X.w) X.A (eval iter X.env) (fun x s₁ => wpAny (model X.prog X.w) X.A (pyIter x) (fun it s₂ => wpAny (model X.prog X.w) X.A (newList []) (fun acc s₃ =>
      wpAny (model X.prog X.w) X.A (newFunctionEnv scope X.env.globals (clOf X.env scope.names []) [] X.env.qual none .none (some X.env)) (fun cenv s₄ =>
        codeAny (model X.prog X.w) X.A (.compStart (.ListComp elt [⟨tg, iter, [cd], 0⟩] scope pos) 0 it acc { cenv with scope := relabel scope X.env }) (RR acc cenv.locals) s₄) X.xe s₃) X.xe s₂) X.xe s₁) X.xe s := by
  refine thn (hi pins s σ H _ I h) fun v s1 h1 => thn h1 fun itv s2 h2 => ?_
  obtain ⟨it, fp, tn, J, H2, rfl, I2, T, st2, f2, h2⟩ := h2
  -- the list
  refine wpAny_newObj_type ?_ (by show 0 ≤ sizeLine; decide)
  have hD : H2 s2.heap.objs.size = none := I2.hok.fresh (Nat.le_refl _)
  have I3 : Inv X pins σ (upd H2 s2.heap.objs.size (.lst [])) { s2 with heap := s2.heap.push { cls := .type "list", data := .seq ([] : List Value).toArray } } :=
    I2.laid (t' := s2.toks) (fun b u e => Heap.get?_push_of_some _ e) (Nat.le_refl _) ⟨by show 0 ≤ sizeLine; decide, [], 0, .nil, Heap.get?_push_size _ rfl⟩
  have f3 : ∀ b ∈ fp, FpOk X pins (upd H2 s2.heap.objs.size (.lst [])) b := fun b hb => by
    obtain ⟨q0, q⟩ := f2 b hb
    obtain ⟨o, e, _⟩ := T.obj _ _ st2 b hb
    exact ⟨by rw [upd_ne (Nat.ne_of_lt (Heap.lt_size e))]; exact q0, q⟩
  have o3 : ∀ b ∈ fp, ∃ o, (s2.heap.push { cls := .type "list", data := .seq ([] : List Value).toArray }).get? b = some o := fun b hb => by
    obtain ⟨o, e, _⟩ := T.obj _ _ st2 b hb
    exact ⟨o, Heap.get?_push_of_some _ e⟩
  have st3 : tn 0 (s2.heap.push { cls := .type "list", data := .seq ([] : List Value).toArray }) := T.keep _ _ _ st2 fun b _ o e => Heap.get?_push_of_some _ e
  generalize hh3 : s2.heap.push { cls := .type "list", data := .seq ([] : List Value).toArray } = h3 at I3 o3 st3 ⊢
  refine wpAny_newFunctionEnv c.nocell (by intro y hy; simp at hy) (fun h4 hn4 hs4 => ?_) c.kind
  have k4 : ∀ b o, h3.get? b = some o → h4.get? b = some o := fun b o e => (hs4.2 b (Nat.ne_of_lt (Heap.lt_size e))).trans (Heap.get?_push_of_some _ e)
  have I4 := comp_inv (tk := s2.toks + ([] : List (Str × Value)).length) c I3 f3 o3 hn4 k4
  have st4 : tn 0 h4 := T.keep _ _ _ st3 fun b _ o e => k4 b o e
  obtain ⟨W, ⟨m0, w0⟩, turn⟩ := h2 _ hD
  let s3 : Shared := { s2 with heap := h3 }
  let Y : Cx := X.comp scope h3.objs.size Nc s3 (upd H2 s2.heap.objs.size (.lst [])) fp
  have stat : ∀ {H' : Hp}, (∀ b ∈ fp, H' b = none) → ∀ b ∈ fp, FpOk Y [] H' b := fun hn b hb => ⟨hn b hb, (I4.ok.exf b hb).1, I4.ok.exfs b hb, .inl hb, (I4.ok.exf b hb).2, (fun p hp => nomatch hp)⟩
  have loop : codeAny (model X.prog X.w) X.A (.compLoop (.ListComp elt [⟨tg, iter, [cd], 0⟩] scope pos) 0 (.ref it) (.ref s2.heap.objs.size) Y.env)
      (RR (.ref s2.heap.objs.size) h3.objs.size) { s2 with heap := h4, toks := s2.toks + ([] : List (Str × Value)).length } := by
    refine codeAny_loop rfl (fun n s' => ∃ i σ' H', Inv Y [] σ' H' s' ∧ tn i s'.heap ∧ (∀ b ∈ fp, H' b = none) ∧ W i n σ' H') (fun n s5 hI => ?_) m0 ⟨0, _, _, I4, st4, fun b hb => (f3 b hb).1, w0⟩
    obtain ⟨i, σ5, H5, I5, st5, fr5, w5⟩ := hI
    show wpAny _ X.A ((compTurn (.ListComp elt [⟨tg, iter, [cd], 0⟩] scope pos) 0 (.ref it) (.ref s2.heap.objs.size) Y.env).onRaise (fun x => do noteFrame x Y.env; theTreesLotGoes x)) _ _ s5
    refine wpAny_noted (wpAny_mono (E := fun _ _ => False) ?_ (fun _ _ q => q) fun _ _ z => z.elim)
    rw [compTurn_if1]
    refine wpAny_bind (wpAny_standAt (wpAny_bind ?_))
    rcases turn i n σ5 H5 w5 with ⟨stop, qn⟩ | ⟨go, N, hN, step⟩
    · refine thn (T.done Y rfl rfl rfl hc i [] s5 σ5 H5 _ I5 (stat fr5) st5 stop) fun r s6 ⟨hr, I6⟩ => ?_
      subst hr
      refine wpAny_pure ?_
      exact fin _ _ s3 fp σ5 H5 s6 I3 f3 I6 qn
    · refine thn (T.item Y rfl rfl rfl hc i [] s5 σ5 H5 _ I5 (stat fr5) st5 go) fun r s6 ⟨u, hr, h6⟩ => ?_
      subst hr
      refine wpAny_bind (thn h6 fun _ s7 ⟨x, H7, I7, r7, y7, st7, fr7⟩ => ?_)
      have I7' := I7.pinned (stat fr7) (T.obj _ _ st7)
      refine wpAny_bind (thn (hg _ _ _ _ _ s7 σ5 H7 x u _ I7' r7 (step x H7 y7)) fun _ s8 ⟨σ8, H8, I8, q8⟩ => ?_)
      have fin2 : ∀ {H' : Hp} {s' : Shared}, Inv Y ([] ++ pinsAt fp s7.heap) σ8 H' s' → N σ8 H' → ∃ m, m < n ∧ ∃ i σ1 H1, Inv Y [] σ1 H1 s' ∧ tn i s'.heap ∧ (∀ b ∈ fp, H1 b = none) ∧ W i m σ1 H1 := fun {H'} {s'} I10 n10 => by
        obtain ⟨m', hm, w10⟩ := hN σ8 H' n10
        refine ⟨m', hm, i + 1, σ8, H', I10.unpinned, T.keep _ _ _ st7 fun b hb o e => (I10.pin (b, o) (List.mem_append_right _ (List.mem_append_right _ (mem_pinsAt hb e)))).1, fun b hb => ?_, w10⟩
        obtain ⟨o, e, d⟩ := T.obj _ _ st7 b hb
        exact (I10.pin (b, o) (List.mem_append_right _ (List.mem_append_right _ (mem_pinsAt hb e)))).2.1
      rw [List.forIn_cons, if_pos rfl]
      refine wpAny_bind (wpAny_bind (wpAny_bind (thn (ht _ _ _ _ _ s8 σ8 H8 _ I8 q8) fun ok s9 ⟨H9, I9, q9⟩ => wpAny_pure ?_)))
      simp only [List.forIn_nil]
      refine wpAny_pure ?_
      cases ok with
      | false =>
        simp only [Bool.false_eq_true, if_false] at q9 ⊢
        exact wpAny_pure ⟨rfl, fin2 I9 q9⟩
      | true =>
        simp only [if_true] at q9 ⊢
        refine wpAny_bind (wpAny_bind (thn (he _ _ _ _ _ s9 σ8 H9 _ I9 q9) fun v s10 ⟨y, H10, I10, r10, ys, e10, z10, n10⟩ => ?_))
        refine wpAny_bind (thn (mt_append (X := Y) _ s10 σ8 H10 (.ref s2.heap.objs.size) [y] (.ref s2.heap.objs.size) [v] (fun w H' => N σ8 H') I10 rfl (.cons r10 .nil) ⟨_, ys, y, rfl, rfl, of_lstOf e10, z10, n10⟩) fun w s11 ⟨_, H11, I11, _, n11⟩ => ?_)
        exact wpAny_pure (wpAny_pure ⟨rfl, fin2 I11 n11⟩)
  exact codeAny_compStart_list loop (T.self _ 0 _ _ _ st4 loop)

theorem pe_compIf (hc : X.calm = true) (c : CompOk X scope Nc js) (hi : PI X tg iter wi) (hg : ∀ C s3 H3 fp, PG (X.comp scope C Nc s3 H3 fp) tg g) (ht : ∀ C s3 H3 fp, PT (X.comp scope C Nc s3 H3 fp) cd tt) (he : ∀ C s3 H3 fp, PE (X.comp scope C Nc s3 H3 fp) elt te)
    (hs : ∀ x, foldedSetIterable iter X.env x = pure x := by intro _; rfl) : PE X (.ListComp elt [⟨tg, iter, [cd], 0⟩] scope pos) (tCompIf wi g js tt te) := by
  intro pins s σ H Q I h
  rw [eval_ListComp]
  refine wpAny_comprehension_free (use := none) (g := ⟨tg, iter, [cd], 0⟩) (gs := []) rfl hs (closure_of (c.has I)) c.kind c.loc
    (comp_coreIf (RR := fun acc C => compPost (model X.prog X.w) X.A X.xe none (EP X pins σ Q) acc C) (NX := fun D H' => Q (.ref D) H') hc c hi hg ht he I h fun D H3 s3 fp σ5 H5 s6 I3 f3 I6 qn => ?_)
  obtain ⟨m, hn, _⟩ := I6.loc
  exact ⟨m, hn, fun h' hs' => ⟨.ref D, H5, comp_after I3 f3 I6 hs', rfl, qn⟩⟩
/-- name = [..]: the name is bound ahead of the letting go -/
theorem ps_setcIf {i : Nat} {y : Str} {py spos : Pos} (hN : X.N.Nodup) (hiN : X.N[i]? = some y) (hy : Loc X.env.scope y) (hc : X.calm = true) (c : CompOk X scope Nc js) (hi : PI X tg iter wi) (hg : ∀ C s3 H3 fp, PG (X.comp scope C Nc s3 H3 fp) tg g)
    (ht : ∀ C s3 H3 fp, PT (X.comp scope C Nc s3 H3 fp) cd tt) (he : ∀ C s3 H3 fp, PE (X.comp scope C Nc s3 H3 fp) elt te) (hsw : swapsWith (.ListComp elt [⟨tg, iter, [cd], 0⟩] scope pos) (some (.Name y py)) spos.line X.env = pure true := by rfl)
    (hs : ∀ x, foldedSetIterable iter X.env x = pure x := by intro _; rfl) (hf : X.fn y = true ∨ X.env.scope.names.lookup y = some .local := by first | exact .inl rfl | exact .inr rfl | assumption) :
    PS X (.Assign [.Name y py] (.ListComp elt [⟨tg, iter, [cd], 0⟩] scope pos) spos) (tAsg (tCompIf wi g js tt te) (gName i)) := by
  intro pins s σ H D I h
  rw [exec_Assign_Name_used _ _ _ _ hsw]
  refine wpAny_bind (wpAny_standAt (wpAny_bind ?_))
  show wpAny _ X.A (do let _ ← comprehension (.ListComp elt [⟨tg, iter, [cd], 0⟩] scope pos) scope X.env _ (newList []) false (eval iter X.env) (some (assign (.Name y py) X.env))) _ _ s
  refine wpAny_bind (wpAny_mono (wpAny_comprehension_free (use := some (assign (.Name y py) X.env)) (g := ⟨tg, iter, [cd], 0⟩) (gs := []) (Q := fun _ s' => SP X pins D .next s') rfl hs (closure_of (c.has I)) c.kind c.loc
    (comp_coreIf (RR := fun acc C => compPost (model X.prog X.w) X.A X.xe (some (assign (.Name y py) X.env)) (fun _ s' => SP X pins D .next s') acc C) (NX := fun Da H' => D.nx (σ.set i (some (.ref Da))) H') hc c hi hg ht he I h fun Da H3 s3 fp σ5 H5 s6 I3 f3 I6 qn => ?_))
    (fun _ s' hq => wpAny_pure (wpAny_pure hq)) fun _ _ e => e)
  obtain ⟨m, hn, _⟩ := id I6.loc
  have I7 : Inv X pins σ H5 s6 := comp_after I3 f3 I6 (.refl ..)
  have hC : H5 s3.heap.objs.size = none := I6.free
  have nL : s3.heap.objs.size ≠ X.env.locals := Nat.ne_of_gt I3.lt
  have nc : ∀ x a, X.env.cells.lookup x = some a → a ≠ s3.heap.objs.size := fun x a e => by
    obtain ⟨v, q⟩ := I3.cell x a e
    exact Nat.ne_of_lt q.lt
  have np : ∀ p ∈ X.pn ++ pins, p.1 ≠ s3.heap.objs.size := fun p hp => Nat.ne_of_lt (Heap.lt_size (I3.pin p hp).1)
  show wpAny _ _ (assign (.Name y py) X.env (.ref Da)) _ _ _
  refine wpAny_assign_Name (store_ok2 (v := .ref Da) I7 hN hiN hy rfl (fun s8 I8 hb => ?_) hf)
  obtain ⟨a, hs8, ha⟩ := hb
  have nCa : s3.heap.objs.size ≠ a := by
    rcases ha with z | z
    · rw [z]; exact nL
    · exact (nc y a z).symm
  refine ⟨m, hn.sameBut hs8 nCa, fun h9 hs9 => ?_⟩
  exact ⟨_, H5, I8.turned (t' := s8.toks) (fun b o hb e => (hs9.2 b hb).trans e) hC nL (.inr (Nat.le_trans I3.sz (Nat.le_refl _))) nc np, qn⟩
end
/-! ### closed -/
section
variable {X : Cx} {scope : Scope} {Nc : List Str} {js : List (Option Nat)} {elt tg iter cd : Expr} {pos : Pos} {wi : TI} {g : TG} {te : TE} {tt : TT}
theorem qpe_compIf (hc : X.calm = true) (c : CompOk X scope Nc js) (hi : QI X tg iter wi) (hg : ∀ C s3 H3 fp, QG (X.comp scope C Nc s3 H3 fp) tg g) (ht : ∀ C s3 H3 fp, QT (X.comp scope C Nc s3 H3 fp) cd tt) (he : ∀ C s3 H3 fp, QE (X.comp scope C Nc s3 H3 fp) elt te)
    (hs : ∀ x, foldedSetIterable iter X.env x = pure x := by intro _; rfl) : QE X (.ListComp elt [⟨tg, iter, [cd], 0⟩] scope pos) (tCompIf wi g js tt te) :=
  ⟨pe_compIf hc c hi.h (fun C s H f => (hg C s H f).h) (fun C s H f => (ht C s H f).h) (fun C s H f => (he C s H f).h) hs⟩
theorem qps_setcIf {i : Nat} {y : Str} {py spos : Pos} (hN : X.N.Nodup) (hiN : X.N[i]? = some y) (hy : Loc X.env.scope y) (hc : X.calm = true) (c : CompOk X scope Nc js) (hi : QI X tg iter wi) (hg : ∀ C s3 H3 fp, QG (X.comp scope C Nc s3 H3 fp) tg g)
    (ht : ∀ C s3 H3 fp, QT (X.comp scope C Nc s3 H3 fp) cd tt) (he : ∀ C s3 H3 fp, QE (X.comp scope C Nc s3 H3 fp) elt te) (hsw : swapsWith (.ListComp elt [⟨tg, iter, [cd], 0⟩] scope pos) (some (.Name y py)) spos.line X.env = pure true := by rfl)
    (hs : ∀ x, foldedSetIterable iter X.env x = pure x := by intro _; rfl) (hf : X.fn y = true ∨ X.env.scope.names.lookup y = some .local := by first | exact .inl rfl | exact .inr rfl | assumption) :
    QS X (.Assign [.Name y py] (.ListComp elt [⟨tg, iter, [cd], 0⟩] scope pos) spos) (tAsg (tCompIf wi g js tt te) (gName i)) :=
  ⟨ps_setcIf hN hiN hy hc c hi.h (fun C s H f => (hg C s H f).h) (fun C s H f => (ht C s H f).h) (fun C s H f => (he C s H f).h) hsw hs hf⟩
end
/-! ### tests and elements that only read -/
section
variable {D : Addr} {te : TE} {tt : TT} {E : Ends} {r : L2.St} {H : Hp}
theorem filt_step {α : Type} (p : α → Bool) (f : α → V) (xs : List α) (i : Nat) (x : α) (h : xs[i]? = some x) : ((xs.take (i + 1)).filter p).map f = ((xs.take i).filter p).map f ++ (if p x = true then [f x] else []) := by
  rw [List.take_succ, h]
  simp only [Option.toList_some, List.filter_append, List.map_append]
  congr 1
  by_cases q : p x = true
  · simp [q]
  · simp [q]
theorem compIf_list {K : PySem.W.Frag} {a : Addr} {xs : List V} (p : V → Bool) (f : V → V) (ha : H a = some (.lst xs)) (hD : H D = none) (hz : xs.length ≤ sizeLine)
    (ht : ∀ x ∈ xs, ∀ l Q, Q (p x) (upd H D (.lst l)) → tt (some x :: r) (upd H D (.lst l)) Q) (he : ∀ x ∈ xs, p x = true → ∀ l Q, Q (f x) (upd H D (.lst l)) → te (some x :: r) (upd H D (.lst l)) Q)
    (hn : ∀ v, E.nx (v :: r) (upd H D (.lst ((xs.filter p).map f)))) : LoopR (Itl K a) (gName 0) (tEmitIf D tt te) E (none :: r) (upd H D (.lst [])) := by
  have ne : a ≠ D := ne_of_none ha hD
  refine loop_list (xs := xs) (fun i σ H' => ∃ v : Option V, σ = v :: r ∧ H' = upd H D (.lst (((xs.take i).filter p).map f))) ⟨none, rfl, rfl⟩ ?_ ?_ ?_
  · rintro i σ H' _ ⟨v, _, rfl⟩
    rw [upd_ne ne]; exact ha
  · rintro i x σ H' hx ⟨v, rfl, rfl⟩
    have hl : i < xs.length := (List.getElem?_eq_some_iff.mp hx).1
    have hm := List.mem_of_getElem? hx
    have hf : (((xs.take i).filter p).map f).length ≤ i := by
      rw [List.length_map]
      exact Nat.le_trans (List.length_filter_le _ _) (by rw [List.length_take]; omega)
    refine ht x hm _ _ ?_
    by_cases q : p x = true
    · rw [q, if_pos rfl]
      refine he x hm q _ _ ⟨_, by rw [upd_same]; rfl, by omega, some x, rfl, ?_⟩
      rw [upd_D, filt_step p f xs i x hx, if_pos q]
    · rw [if_neg q]
      refine ⟨some x, rfl, ?_⟩
      rw [filt_step p f xs i x hx, if_neg q, List.append_nil]
  · rintro σ H' ⟨v, rfl, rfl⟩
    rw [List.take_of_length_le (Nat.le_refl _)]
    exact hn v
theorem compIf_tup {K : PySem.W.Frag} {a : Addr} {xs : List V} (p : V → Bool) (f : V → V) (ha : H a = some (.tup xs)) (hD : H D = none) (hz : xs.length ≤ sizeLine)
    (ht : ∀ x ∈ xs, ∀ l Q, Q (p x) (upd H D (.lst l)) → tt (some x :: r) (upd H D (.lst l)) Q) (he : ∀ x ∈ xs, p x = true → ∀ l Q, Q (f x) (upd H D (.lst l)) → te (some x :: r) (upd H D (.lst l)) Q)
    (hn : ∀ v, E.nx (v :: r) (upd H D (.lst ((xs.filter p).map f)))) : LoopR (Itt K a) (gName 0) (tEmitIf D tt te) E (none :: r) (upd H D (.lst [])) := by
  have ne : a ≠ D := ne_of_none ha hD
  refine loop_tup (xs := xs) (fun i σ H' => ∃ v : Option V, σ = v :: r ∧ H' = upd H D (.lst (((xs.take i).filter p).map f))) ⟨none, rfl, rfl⟩ ?_ ?_ ?_
  · rintro i σ H' _ ⟨v, _, rfl⟩
    rw [upd_ne ne]; exact ha
  · rintro i x σ H' hx ⟨v, rfl, rfl⟩
    have hl : i < xs.length := (List.getElem?_eq_some_iff.mp hx).1
    have hm := List.mem_of_getElem? hx
    have hf : (((xs.take i).filter p).map f).length ≤ i := by
      rw [List.length_map]
      exact Nat.le_trans (List.length_filter_le _ _) (by rw [List.length_take]; omega)
    refine ht x hm _ _ ?_
    by_cases q : p x = true
    · rw [q, if_pos rfl]
      refine he x hm q _ _ ⟨_, by rw [upd_same]; rfl, by omega, some x, rfl, ?_⟩
      rw [upd_D, filt_step p f xs i x hx, if_pos q]
    · rw [if_neg q]
      refine ⟨some x, rfl, ?_⟩
      rw [filt_step p f xs i x hx, if_neg q, List.append_nil]
  · rintro σ H' ⟨v, rfl, rfl⟩
    rw [List.take_of_length_le (Nat.le_refl _)]
    exact hn v
theorem compIf_range {lo : Int} {n : Nat} (p : Nat → Bool) (f : Nat → V) (hz : n ≤ sizeLine)
    (ht : ∀ i, i < n → ∀ l Q, Q (p i) (upd H D (.lst l)) → tt (some (.int (lo + (i : Nat))) :: r) (upd H D (.lst l)) Q) (he : ∀ i, i < n → p i = true → ∀ l Q, Q (f i) (upd H D (.lst l)) → te (some (.int (lo + (i : Nat))) :: r) (upd H D (.lst l)) Q)
    (hn : ∀ v, E.nx (v :: r) (upd H D (.lst (((List.range n).filter p).map f)))) : LoopR (Itr lo n) (gName 0) (tEmitIf D tt te) E (none :: r) (upd H D (.lst [])) := by
  refine loop_range (fun i σ H' => ∃ v : Option V, σ = v :: r ∧ H' = upd H D (.lst (((List.range i).filter p).map f))) ⟨none, rfl, rfl⟩ ?_ ?_
  · rintro i σ H' hi ⟨v, rfl, rfl⟩
    have hf : (((List.range i).filter p).map f).length ≤ i := by
      rw [List.length_map]
      exact Nat.le_trans (List.length_filter_le _ _) (by rw [List.length_range]; omega)
    refine ht i hi _ _ ?_
    by_cases q : p i = true
    · rw [q, if_pos rfl]
      refine he i hi q _ _ ⟨_, by rw [upd_same]; rfl, by omega, some (.int (lo + (i : Nat))), rfl, ?_⟩
      rw [upd_D, List.range_succ]
      simp [q]
    · rw [if_neg q]
      refine ⟨some (.int (lo + (i : Nat))), rfl, ?_⟩
      rw [List.range_succ]
      simp [q]
  · rintro σ H' ⟨v, rfl, rfl⟩
    exact hn v
end
end L2


/-! part L3m -/
set_option Elab.async false
set_option linter.all false
set_option maxRecDepth 100000
set_option maxHeartbeats 4000000
namespace L2
open PySem PySem.Spec PyProof.Rows
section
variable {X : Cx}
/-! ### a call of what a name of the def holds -/
def tCallV (i : Nat) (f : Addr) (sp : Sp) (dvs : List V) (E : XK) (t : TA) : TE := fun σ H Q => σ[i]? = some (some (.ref f)) ∧ t σ H fun vs H1 => sp (vs ++ dvs) H1 Q E
theorem pe_callV {CX : CXT} {k : Nat} {f : Addr} {fd : FuncData} {ps : List Str} {sp : Sp} {dvs : List V} {ds : List Value} {E : XK} {x : Str} {p pos : Pos} {e : Expr} {es : List Expr} {t : TA} (i : Nat)
    (F : FnOk X.prog X.w X.K X.mg X.base CX k f fd ps sp) (hr : Room k X.A) (hk : PySem.W.keepIn X.K (.ref f) = true) (hb : Binds X.K fd ps ds) (hd : Vals dvs ds) (hx : Passes CX X E) (ha : PA X (e :: es) t)
    (hN : X.N[i]? = some x := by rfl) (hv : Vis X.env.scope x := by first | exact Or.inl rfl | exact Or.inr (Or.inl rfl) | exact Or.inr (Or.inr rfl))
    (hdb : (x == ("__debug__" : Str)) = false := by decide) (hcd : (x == ("__classdict__" : Str)) = false := by decide) (he : starEach (e :: es) X.env = (false, eval e X.env) :: starEach es X.env := by rfl) (hpl : (backTo pos (starEach es X.env)).any (·.1) = false := by rfl) :
    PE X (.Call (.Name x p) (e :: es) [] pos) (tCallV i f sp dvs E t) := by
  intro pins s σ H Q I h
  obtain ⟨e0, h⟩ := h
  refine wpAny_Call_Name_kw (thn (pe_var hN hv hdb hcd pins s σ H (fun v H' => v = .ref f ∧ t σ H' fun vs H1 => sp (vs ++ dvs) H1 Q E) I ⟨_, e0, rfl, h⟩) fun u s1 ⟨v, H1, I1, r, hv1, h1⟩ => ?_)
  subst hv1
  cases r
  refine PySem.W.callWith_K (h₀ := X.base) I1.ok.mod.kin hk (thn (ha pos pins s1 σ H1 _ I1 h1) fun us s2 ⟨vs, H2, I2, r2, q⟩ => ⟨I2.kIn, ?_⟩) he hpl
  exact run_fn F hr hb hd hx I2 r2 q
/-! ### the truth of a value, by the value -/
def rTru (x : V) (H : Hp) (Q : Bool → Hp → Prop) : Prop := match x with
  | .bl b => Q b H
  | .int i => Q (i != 0) H
  | .non => Q false H
  | .str y => y.length ≤ sizeLine ∧ Q ((y.length : Int) != 0) H
  | .ref p => ∃ xs, seqOf (H p) = some xs ∧ Q (!xs.isEmpty) H
  | _ => False
def tTru (ta : TE) : TT := fun σ H Q => ta σ H fun x H1 => rTru x H1 Q
theorem rTru_ref (p : Addr) (H : Hp) (Q : Bool → Hp → Prop) : rTru (.ref p) H Q = (∃ xs, seqOf (H p) = some xs ∧ Q (!xs.isEmpty) H) := rfl
theorem rTru_bl (b : Bool) (H : Hp) (Q : Bool → Hp → Prop) : rTru (.bl b) H Q = Q b H := rfl
theorem rTru_str (y : Str) (H : Hp) (Q : Bool → Hp → Prop) : rTru (.str y) H Q = (y.length ≤ sizeLine ∧ Q ((y.length : Int) != 0) H) := rfl
theorem pt_tru {a : Expr} {ta : TE} (ha : PE X a ta) (he : ∀ whole, isTrue a X.env whole = (do let v ← whole; standAt a.pos; holding [v] (truthy v)) := by intro _; rfl) : PT X a (tTru ta) := by
  intro pins s σ H Q I h
  refine isTrue_plain (thn (ha pins s σ H _ I h) fun v s1 ⟨x, H1, I1, r1, q1⟩ => tru_ok pins s1 σ H1 x v Q I1 r1 ?_) (he _)
  replace q1 : rTru x H1 Q := q1
  unfold rTru at q1
  split at q1
  · exact ⟨_, rfl, q1⟩
  · exact ⟨_, rfl, q1⟩
  · exact ⟨_, rfl, q1⟩
  · exact ⟨_, ⟨q1.1, rfl⟩, q1.2⟩
  · obtain ⟨xs, e, q⟩ := q1
    rcases of_seqOf e with e | e
    · exact ⟨_, .inl ⟨xs, SqL.of e, rfl⟩, q⟩
    · exact ⟨_, .inr (.inl ⟨xs, SqT.of e, rfl⟩), q⟩
  · exact q1.elim
/-! ### xs.pop() -/
def rPop0U : V → List V → Hp → VK → Prop := fun x vs H Q => match x, vs with
  | .ref l, [] => ∃ xs, lstOf (H l) = some xs ∧ ∃ y, xs[xs.length - 1]? = some y ∧ Q y (upd H l (.lst xs.dropLast))
  | _, _ => False
theorem rPop0U_ref (l : Addr) (H : Hp) (Q : VK) : rPop0U (.ref l) [] H Q = (∃ xs, lstOf (H l) = some xs ∧ ∃ y, xs[xs.length - 1]? = some y ∧ Q y (upd H l (.lst xs.dropLast))) := rfl
theorem mt_pop0U : MtM X "list.pop" rPop0U := by
  intro pins s σ H x vs v us Q I rx rv h
  unfold rPop0U at h
  split at h
  · rename_i l
    obtain ⟨xs, e, y, hy, q⟩ := h
    exact mt_pop pins s σ H _ _ v us Q I rx rv ⟨l, xs, y, rfl, rfl, of_lstOf e, hy, q⟩
  · exact h.elim
/-! ### sum of a list of ints -/
theorem preSum_list (ns : List Int) : ∀ k, k ≤ ns.length → preSum (fun i => (ns[i]?).getD 0) k = (ns.take k).sum
  | 0, _ => by simp [preSum]
  | k + 1, h => by
    have ih := preSum_list ns k (by omega)
    show preSum _ k + (ns[k]?).getD 0 = _
    have e : ns[k]? = some (ns[k]'(by omega)) := by simp
    rw [ih, List.take_succ, e, Option.getD_some, List.sum_append]
    simp
def rSumU : List V → Hp → VK → Prop := fun xs H Q => match xs with
  | [.ref p] => ∃ ns : List Int, H p = some (.lst (ns.map V.int)) ∧ (∀ n ∈ ns, 0 ≤ n) ∧ ns.sum < 1073741824 ∧ Q (.int ns.sum) H
  | _ => False
theorem rSumU_ref (p : Addr) (H : Hp) (Q : VK) : rSumU [.ref p] H Q = (∃ ns : List Int, H p = some (.lst (ns.map V.int)) ∧ (∀ n ∈ ns, 0 ≤ n) ∧ ns.sum < 1073741824 ∧ Q (.int ns.sum) H) := rfl
theorem vals_intsI : ∀ {ns : List Int} {us : List Value}, Vals (ns.map V.int) us → ∀ (i : Nat) (v : Value), us[i]? = some v → ∃ n t, ns[i]? = some n ∧ v = .int n t
  | [], us, r, i, v, e => by rw [List.map_nil] at r; cases r; simp at e
  | n :: ns, us, r, i, v, e => by
    rw [List.map_cons] at r
    cases r with
    | cons r1 r2 =>
      cases i with
      | zero => obtain ⟨t, rfl⟩ := r1; simp at e; exact ⟨n, t, rfl, e.symm⟩
      | succ i => simp at e; obtain ⟨n', t, e1, e2⟩ := vals_intsI r2 i v e; exact ⟨n', t, by simpa using e1, e2⟩
theorem sum_nn : ∀ {l : List Int}, (∀ n ∈ l, 0 ≤ n) → 0 ≤ l.sum
  | [], _ => by simp
  | x :: l, h => by
    rw [List.sum_cons]
    have := h x (.head _)
    have := sum_nn fun n hn => h n (.tail _ hn)
    omega
theorem sum_take_le (l : List Int) (h : ∀ n ∈ l, 0 ≤ n) (k : Nat) : (l.take k).sum ≤ l.sum := by
  have e : l.sum = (l.take k).sum + (l.drop k).sum := by rw [← List.sum_append, List.take_append_drop]
  have := sum_nn fun n hn => h n (List.mem_of_mem_drop (i := k) hn)
  omega
theorem mem_le_sum : ∀ {l : List Int}, (∀ n ∈ l, 0 ≤ n) → ∀ x ∈ l, x ≤ l.sum
  | [], _, x, h => nomatch h
  | y :: l, h, x, hx => by
    rw [List.sum_cons]
    have h0 := h y (.head _)
    have h1 := sum_nn fun n hn => h n (.tail _ hn)
    rcases List.mem_cons.mp hx with rfl | hx
    · omega
    · have := mem_le_sum (fun n hn => h n (.tail _ hn)) x hx
      omega
theorem call_sumU (hc : X.calm = true) : CallR X (.builtin "sum") rSumU := by
  intro pins s σ H xs us Q I r h
  unfold rSumU at h
  split at h
  · rename_i p
    obtain ⟨ns, e, nn, hs, q⟩ := h
    obtain ⟨u, rfl, ru⟩ := vals1 r
    cases ru
    obtain ⟨its, rr, pl, _⟩ := I.list (SqL.of e)
    have isl := pl.isList
    have plt : p < s.heap.objs.size := by obtain ⟨_, e, _⟩ := isl; exact Heap.lt_size e
    have hlen : its.length = ns.length := by have := rr.length; simpa using this.symm
    refine call_sum_walk (wpAny_pyIter_list isl ?_)
    refine ⟨s.heap.objs.size, [s.heap.objs.size, p], [s.heap.objs.size], its.toArray.size, _, _, fun i => (ns[i]?).getD 0, rfl, Walks.list (A := X.A.in1) (I.ok.hd hc) _ p (Nat.ne_of_lt plt) its.toArray,
      ⟨⟨_, Heap.get?_push_size _ rfl, rfl, rfl⟩, isl.push _⟩, ?_, fun i v hp => ?_, fun j hj => ?_, fun h' tk t' hk => ?_⟩
    · intro b hb
      show b < (s.heap.objs.push _).size
      rw [Array.size_push]
      rcases List.mem_cons.mp hb with rfl | hb
      · exact Nat.lt_succ_self _
      · rw [List.mem_singleton.mp hb]; exact Nat.lt_succ_of_lt plt
    · obtain ⟨n, t, e1, rfl⟩ := vals_intsI rr i v (by simpa using hp)
      exact ⟨t, by show Value.int n t = Value.int ((ns[i]?).getD 0) t; rw [e1]; rfl⟩
    · have hj' : j < ns.length := by rw [List.size_toArray, hlen] at hj; exact hj
      have e1 : ns[j]? = some (ns[j]'hj') := by simp
      have m1 := mem_le_sum nn _ (List.getElem_mem hj')
      have m0 := nn _ (List.getElem_mem hj')
      refine ⟨?_, ?_⟩
      · show InLong ((ns[j]?).getD 0)
        rw [e1]
        show InLong (ns[j]'hj')
        unfold InLong
        omega
      · rw [preSum_list ns (j + 1) (by omega)]
        have := sum_take_le ns nn (j + 1)
        have := sum_nn fun n hn => nn n (List.mem_of_mem_take (i := j + 1) hn)
        unfold InLong
        omega
    · rw [List.size_toArray, hlen, preSum_list ns ns.length (Nat.le_refl _), List.take_length]
      exact ⟨.int _, H, I.kept (kept_it hk), ⟨_, rfl⟩, q⟩
  · exact h.elim
end
end L2


/-! part L3n -/
set_option Elab.async false
set_option linter.all false
set_option maxRecDepth 100000
set_option maxHeartbeats 4000000
namespace L2
open PySem PySem.Spec PyProof.Rows
/-! ### list(reversed(xs)) -/
theorem rv_nolen : typeLookup (.type "list_reverseiterator") "__len__" = pure none := by rw [typeLookup_type, builtinLookup_eq_fast]; kernel_rfl
theorem rv_hint : typeLookup (.type "list_reverseiterator") "__length_hint__" = pure (some (.builtin "list_reverseiterator.__length_hint__")) := by rw [typeLookup_type, builtinLookup_eq_fast]; kernel_rfl
section
variable {P : Program} {w : World} {A : Around} {E : Value → Shared → Prop} {s : Shared}
theorem rv_extend {R : Result → Shared → Prop} {it l : Addr} {items : Array Value} (hh : A.handled = none) (hne : l ≠ it) (hit : s.heap.IsRevIter it l ((items.size : Int) - 1)) (hl : s.heap.IsList l items) (D : Addr) (res : Value) (c0 : Nat)
    (hD : s.heap.get? D = some { cls := .type "list", data := .seq #[] c0 }) (h1 : D ≠ it) (h2 : D ≠ l)
    (hR : ∀ h' tk acc c', (∀ b o, b ≠ D → b ≠ it → s.heap.get? b = some o → h'.get? b = some o) → h'.get? D = some { cls := .type "list", dict := none, data := .seq acc c', slots := #[] } →
      ItemsOf (fun i v => items[items.size - 1 - i]? = some v) acc items.size → R (.ok (.ret res)) { s with heap := h', toks := tk }) (hn : items.size ≤ sizeLine) :
    wpAny (model P w) A.in1 (Builtin.List.listExtendWith (.ref D) (.ref it) res)
      (fun fin s' => match fin with | .done f => R (.ok f) s' | .again c' => c'.quiet = true ∧ codeAny (model P w) A c' R s') (fun e s' => R (.error e) s') s := by
  have hDf : D ∉ [it, l] := fun hm => by
    rcases List.mem_cons.mp hm with e | hm
    · exact h1 e
    · exact h2 (List.mem_singleton.mp hm)
  have W := (Walks.listRev (prog := P) (w := w) (A := A.in1) hh it l hne items).toS
  have st0 : (0 : Nat) ≤ items.size ∧ s.heap.IsRevIter it l ((items.size : Int) - 1 - ((0 : Nat) : Int)) ∧ s.heap.IsList l items := ⟨Nat.zero_le _, by simpa using hit, hl⟩
  have q1 : Builtin.List.listSameRef (.ref D) (.ref it) = false := by simp [Builtin.List.listSameRef, h1]
  unfold Builtin.List.listExtendWith
  refine wpAny_bind (wpAny_typeOf (T := "list_reverseiterator") hit.typeIs ?_)
  rw [if_neg (by rw [q1]; decide)]
  refine wpAny_bind (wpAny_pyIter_revIter hit ?_)
  refine wpAny_bind (wpAny_holding ?_)
  unfold Builtin.List.listLengthHint
  refine wpAny_bind (wpAny_specialOf (T := "list_reverseiterator") hit.typeIs rv_nolen ?_)
  show wpAny _ A.in1 ((specialOf (Value.ref it) (Str.ofString "__length_hint__")) >>= _) _ _ _
  refine wpAny_bind (wpAny_specialOf (T := "list_reverseiterator") hit.typeIs rv_hint ?_)
  generalize hid : ("list_reverseiterator.__length_hint__" : String) = idh
  wp_delta
  rw [show splitId idh = some ("list_reverseiterator", "__length_hint__") from by subst hid; decide +kernel]
  subst hid
  refine wpAny_bind (wpAny_isInstance (b := true) (T := "list_reverseiterator") hit.typeIs (by rw [isSubtype_type]; kernel_rfl) (wpAny_pure ?_))
  rw [if_neg (by decide)]
  refine wpAny_pure ⟨plainId_quiet F.plain_extend_loop _, codeAny_extend_loopS W hn _ hDf _ items.size 0 _ _ _ rfl (Nat.zero_le _) st0 hD (ItemsOf.nil _) fun s' acc' c' hm hS' hacc => ?_⟩
  rw [Moved.eq_with hm]
  refine hR s'.heap s'.toks acc' c' (fun b o hb hb2 e => hm.heap b o (fun hmem => ?_) e) hS' hacc
  rcases List.mem_cons.mp hmem with e' | hmem
  · exact hb e'
  · exact hb2 (List.mem_singleton.mp hmem)
theorem rv_list {Q : Value → Shared → Prop} {it l : Addr} {items : Array Value} (hh : A.handled = none) (hne : l ≠ it) (hit : s.heap.IsRevIter it l ((items.size : Int) - 1)) (hl : s.heap.IsList l items) (hn : items.size ≤ sizeLine)
    (hQ : ∀ h' tk acc c', (∀ b o, b ≠ it → s.heap.get? b = some o → h'.get? b = some o) → h'.get? s.heap.objs.size = some { cls := .type "list", dict := none, data := .seq acc c', slots := #[] } →
      ItemsOf (fun i v => items[items.size - 1 - i]? = some v) acc items.size → Q (.ref s.heap.objs.size) { s with heap := h', toks := tk }) :
    wpAny (model P w) A (call (.type "list") [.ref it]) Q E s := by
  refine callType_codes (Q₁ := fun obj s1 => obj = .ref s.heap.objs.size ∧ s1 = { s with heap := s.heap.push { cls := .type "list", data := .seq #[] } }) F.called_list (F.typeCall_list_1 _) F.entry_list_init (code_list_new _ ⟨rfl, rfl⟩) fun obj s1 hs1 => ?_
  obtain ⟨rfl, rfl⟩ := hs1
  have hS : (s.heap.push { cls := .type "list", data := .seq #[] }).get? s.heap.objs.size = some { cls := .type "list", data := .seq #[] } := (Heap.get?_push_size _ rfl)
  have ni : s.heap.objs.size ≠ it := fun e => by obtain ⟨o, ho, _⟩ := hit; rw [← e] at ho; exact Nat.lt_irrefl _ (Heap.lt_size ho)
  have nl : s.heap.objs.size ≠ l := fun e => by obtain ⟨o, ho, _⟩ := hl; rw [← e] at ho; exact Nat.lt_irrefl _ (Heap.lt_size ho)
  refine ⟨⟨_, hS, rfl⟩, F.args_list_init_2 _ _, ?_⟩
  show wpAny _ _ (do let was ← Builtin.List.listItems (.ref s.heap.objs.size); Builtin.List.listUpdate (.ref s.heap.objs.size) (fun _ => #[]); letGo was.toList.reverse; Builtin.List.listExtendWith (.ref s.heap.objs.size) (.ref it) .none) _ _ _
  refine wpAny_bind ?_
  unfold Builtin.List.listItems
  refine wpAny_bind (wpAny_seqItems hS rfl (wpAny_pure ?_))
  show wpAny _ _ (updateSeq s.heap.objs.size (fun _ => #[]) >>= fun _ => letGo (#[] : Array Value).toList.reverse >>= fun _ => Builtin.List.listExtendWith (.ref s.heap.objs.size) (.ref it) .none) _ _ _
  refine wpAny_bind (wpAny_updateSeq hS rfl ?_)
  have hS2 := Heap.get?_update_self (Obj.mapSeq (fun _ => (#[] : Array Value))) hS rfl
  have oth : ∀ b o, b ≠ s.heap.objs.size → s.heap.get? b = some o → ((s.heap.push { cls := .type "list", data := .seq #[] }).update s.heap.objs.size (Obj.mapSeq (fun _ => (#[] : Array Value)))).get? b = some o :=
    fun b o hb e => (Heap.get?_update_other _ _ (Ne.symm hb)).trans (Heap.get?_push_of_some _ e)
  refine wpAny_bind (wpAny_letGo ?_)
  refine rv_extend (A := A.in1) hh hne (hit.at fun o e => oth it o ni.symm e) (hl.at fun o e => oth l o nl.symm e) _ .none _ hS2 ni nl (fun h' tk acc c' hk hS' hacc => ?_) hn
  exact ⟨rfl, hQ h' tk acc c' (fun b o hb e => hk b o (Nat.ne_of_lt (Heap.lt_size e)) hb (oth b o (Nat.ne_of_lt (Heap.lt_size e)) e)) hS' hacc⟩
end
section
variable {X : Cx}
def rRev : List V → Hp → VK → Prop := fun vs H Q => match vs with
  | [.ref p] => ∃ xs, lstOf (H p) = some xs ∧ ∀ l, H l = none → Q (.ref l) (upd H l (.lst xs.reverse))
  | _ => False
theorem rRev_ref (p : Addr) (H : Hp) (Q : VK) : rRev [.ref p] H Q = (∃ xs, lstOf (H p) = some xs ∧ ∀ l, H l = none → Q (.ref l) (upd H l (.lst xs.reverse))) := rfl
def tListRev (ta : TE) : TE := tCB rRev (tCons ta tNil)
theorem bt_reversed : bootBuiltins "reversed" = some (.type "reversed") := by decide +kernel
theorem pe_listRev {a : Expr} {ta : TE} {p1 p2 q1 q2 : Pos} (hc : X.calm = true) (hg : Gl X "list") (hm : X.mg "list" = none) (hg2 : Gl X "reversed") (hm2 : X.mg "reversed" = none) (ha : PE X a ta)
    (hs : starEach [(.Call (.Name "reversed" p2) [a] [] q2)] X.env = [(false, eval (.Call (.Name "reversed" p2) [a] [] q2) X.env)] := by rfl) (hs2 : starEach [a] X.env = [(false, eval a X.env)] := by rfl) :
    PE X (.Call (.Name "list" p1) [.Call (.Name "reversed" p2) [a] [] q2] [] q1) (tListRev ta) := by
  intro pins s σ H Q I h
  refine wpAny_Call_Name_kw (ld_blt I hg hm bt_list ?_)
  refine PyProof.Rows.callWith_type1 ?_ hs rfl
  rw [hs]
  show wpAny _ _ (spliced ((false, eval (.Call (.Name "reversed" p2) [a] [] q2) X.env) :: [])) _ _ s
  refine Calls.spliced_cons ?_
  refine wpAny_Call_Name_kw (ld_blt I hg2 hm2 bt_reversed ?_)
  have hA : PA X [a] (tCons ta tNil) := pa_cons ha pa_nil hs2
  refine PyProof.Rows.callWith_type1 (thn (hA q2 pins s σ H (fun vs H1 => rRev vs H1 Q) I h) fun us s1 ⟨vs, H1, I1, r1, q1⟩ => ?_) hs2 rfl
  replace q1 : rRev vs H1 Q := q1
  unfold rRev at q1
  split at q1
  · rename_i p
    obtain ⟨xs, e, q⟩ := q1
    replace e := of_lstOf e
    obtain ⟨u, rfl, ru⟩ := vals1 r1
    cases ru
    obtain ⟨its, rr, pl, hz⟩ := I1.list (SqL.of e)
    have isl := pl.isList
    have hlen : its.length = xs.length := by have := rr.length; simpa using this.symm
    refine call_reversed_list isl (Calls.spliced_nil ?_)
    have plt : p < s1.heap.objs.size := by obtain ⟨_, e, _⟩ := isl; exact Heap.lt_size e
    refine rv_list (I1.ok.hd hc) (Nat.ne_of_lt plt) ⟨_, Heap.get?_push_size _ rfl, rfl, rfl⟩ (isl.push _) (by rw [List.size_toArray]; omega) fun h' tk acc c' hk hS' hacc => ?_
    have hD : s1.heap.objs.size ≤ (s1.heap.push (revObj p ((its.toArray.size : Int) - 1))).objs.size := by
      show _ ≤ (s1.heap.objs.push _).size
      rw [Array.size_push]; exact Nat.le_succ _
    obtain ⟨a1, a2⟩ := hacc
    refine ⟨.ref _, _, I1.laid (o := .lst xs.reverse) (t' := tk) (fun b o eb => hk b o (Nat.ne_of_lt (Heap.lt_size eb)) (Heap.get?_push_of_some _ eb)) hD ⟨by rw [List.length_reverse]; exact hz, acc.toList, c', ?_, by simpa using hS'⟩, rfl, q _ (I1.hok.fresh hD)⟩
    refine vals_of (by simp [a1, hlen]) fun i x u e1 e2 => ?_
    have hi : i < xs.length := by have := (List.getElem?_eq_some_iff.mp e1).1; simpa using this
    have h2 := a2 i u (by simpa using e2)
    rw [List.getElem?_reverse hi] at e1
    obtain ⟨u', hu, ruu⟩ := rr.get e1
    have e3 : its[xs.length - 1 - i]? = some u := by
      have : its.toArray.size = xs.length := by simp [hlen]
      rw [this] at h2
      simpa using h2
    rw [e3] at hu
    cases hu
    exact ruu
  · exact q1.elim
end
end L2


/-! part L3o -/
set_option Elab.async false
set_option linter.all false
set_option maxRecDepth 100000
set_option maxHeartbeats 4000000
namespace L2
open PySem PySem.Spec PyProof.Rows
section
variable {X : Cx}
/-! ### f-strings of texts -/
def rStrK (x : V) (k : Str → Prop) : Prop := match x with
  | .str y => k y
  | _ => False
theorem rStrK_str (y : Str) (k : Str → Prop) : rStrK (.str y) k = k y := rfl
def tFmt (te : TE) : TE := fun σ H Q => te σ H fun x H1 => rStrK x fun y => y.length ≤ sizeLine ∧ Q (.str y) H1
theorem pe_fmt {a : Expr} {te : TE} {pos : Pos} (ha : PE X a te) : PE X (.FormattedValue a (-1) none pos) (tFmt te) := by
  intro pins s σ H Q I h
  refine FormattedValue_plain (thn (ha pins s σ H _ I h) fun v s1 ⟨x, H1, I1, r1, q1⟩ => ?_)
  replace q1 : rStrK x fun y => y.length ≤ sizeLine ∧ Q (.str y) H1 := q1
  cases x with
  | str y => obtain ⟨t, rfl⟩ := r1; exact formatField_str (fun t' tk => ⟨.str y, H1, I1.tok tk, ⟨t', rfl⟩, q1.2⟩) q1.1
  | _ => exact q1.elim
abbrev TJ := L2.St → Hp → Str → VK → Prop
def PJ (X : Cx) (es : List Expr) (t : TJ) : Prop := ∀ (pins : List (Addr × Obj)) (s : Shared) (σ : L2.St) (H : Hp) (out : Str) (Q : VK), Inv X pins σ H s → t σ H out Q → wpAny (model X.prog X.w) X.A (joinParts out (evalEach es X.env)) (EP X pins σ Q) X.xe s
def tJnil : TJ := fun _ H out Q => out.length ≤ sizeLine ∧ Q (.str out) H
def tJcons (te : TE) (t : TJ) : TJ := fun σ H out Q => te σ H fun x H1 => rStrK x fun y => (out ++ y).length ≤ sizeLine ∧ t σ H1 (out ++ y) Q
theorem pj_nil : PJ X [] tJnil := fun pins s σ H out Q I h => joinParts_nil ⟨.str out, H, I.tok _, ⟨_, rfl⟩, h.2⟩ h.1
theorem pj_cons {a : Expr} {es : List Expr} {te : TE} {t : TJ} (ha : PE X a te) (hr : PJ X es t) : PJ X (a :: es) (tJcons te t) := by
  intro pins s σ H out Q I h
  show wpAny _ _ (joinParts out (eval a X.env :: evalEach es X.env)) _ _ s
  refine joinParts_cons (thn (ha pins s σ H _ I h) fun v s1 ⟨x, H1, I1, r1, q1⟩ => ?_)
  replace q1 : rStrK x fun y => (out ++ y).length ≤ sizeLine ∧ t σ H1 (out ++ y) Q := q1
  cases x with
  | str y => obtain ⟨u, rfl⟩ := r1; exact ⟨q1.1, hr pins s1 σ H1 _ Q I1 q1.2⟩
  | _ => exact q1.elim
def tJoin (t : TJ) : TE := fun σ H Q => t σ H Str.empty Q
theorem pe_joined {a b : Expr} {es : List Expr} {t : TJ} {pos : Pos} (h : PJ X (a :: b :: es) t) : PE X (.JoinedStr (a :: b :: es) pos) (tJoin t) := fun pins s σ H Q I hw => JoinedStr_many (h pins s σ H _ Q I hw)
end
/-! ### a statement and the rest, with a word between -/
def tMid (t u : TS) : TS := fun D σ H => ∃ J : L2.St → Hp → Prop, t { D with nx := J } σ H ∧ ∀ σ H, J σ H → u D σ H
theorem pss_mid {X : Cx} {st : Stmt} {rest : List Stmt} {t u : TS} (h1 : PS X st t) (h2 : PSs X rest u) : PSs X (st :: rest) (tMid t u) := by
  intro pins s σ H D I h
  obtain ⟨J, h, hJ⟩ := h
  refine wpAny_execs_cons (thn (h1 pins s σ H { D with nx := J } I h) fun f s1 q => ?_)
  cases f with
  | next =>
    obtain ⟨σ1, H1, I1, q1⟩ := q
    exact h2 pins s1 σ1 H1 D I1 (hJ _ _ q1)
  | ret v => exact q
  | brk => exact q
  | cont => exact q
theorem qpss_mid {X : Cx} {st : Stmt} {rest : List Stmt} {t u : TS} (h1 : QS X st t) (h2 : QSs X rest u) : QSs X (st :: rest) (tMid t u) := ⟨pss_mid h1.h h2.h⟩
structure QJ (X : Cx) (es : List Expr) (t : TJ) : Prop where
  h : PJ X es t
section
variable {X : Cx}
theorem qpj_nil : QJ X [] tJnil := ⟨pj_nil⟩
theorem qpj_cons {a : Expr} {es : List Expr} {te : TE} {t : TJ} (ha : QE X a te) (hr : QJ X es t) : QJ X (a :: es) (tJcons te t) := ⟨pj_cons ha.h hr.h⟩
theorem qpe_fmt {a : Expr} {te : TE} {pos : Pos} (ha : QE X a te) : QE X (.FormattedValue a (-1) none pos) (tFmt te) := ⟨pe_fmt ha.h⟩
theorem qpe_joined {a b : Expr} {es : List Expr} {t : TJ} {pos : Pos} (h : QJ X (a :: b :: es) t) : QE X (.JoinedStr (a :: b :: es) pos) (tJoin t) := ⟨pe_joined h.h⟩
theorem qps_never {st : Stmt} : QS X st tNever := ⟨ps_never⟩
theorem qpt_tru {a : Expr} {ta : TE} (ha : QE X a ta) (he : ∀ whole, isTrue a X.env whole = (do let v ← whole; standAt a.pos; holding [v] (truthy v)) := by intro _; rfl) : QT X a (tTru ta) := ⟨pt_tru ha.h he⟩
theorem qpe_listRev {a : Expr} {ta : TE} {p1 p2 q1 q2 : Pos} (hc : X.calm = true) (hg : Gl X "list") (hm : X.mg "list" = none) (hg2 : Gl X "reversed") (hm2 : X.mg "reversed" = none) (ha : QE X a ta)
    (hs : starEach [(.Call (.Name "reversed" p2) [a] [] q2)] X.env = [(false, eval (.Call (.Name "reversed" p2) [a] [] q2) X.env)] := by rfl) (hs2 : starEach [a] X.env = [(false, eval a X.env)] := by rfl) :
    QE X (.Call (.Name "list" p1) [.Call (.Name "reversed" p2) [a] [] q2] [] q1) (tListRev ta) := ⟨pe_listRev hc hg hm hg2 hm2 ha.h hs hs2⟩
theorem qpe_callV {CX : CXT} {k : Nat} {f : Addr} {fd : FuncData} {ps : List Str} {sp : Sp} {dvs : List V} {ds : List Value} {E : XK} {x : Str} {p pos : Pos} {e : Expr} {es : List Expr} {t : TA} (i : Nat)
    (F : FnOk X.prog X.w X.K X.mg X.base CX k f fd ps sp) (hr : Room k X.A) (hk : PySem.W.keepIn X.K (.ref f) = true) (hb : Binds X.K fd ps ds) (hd : Vals dvs ds) (hx : Passes CX X E) (ha : QA X (e :: es) t)
    (hN : X.N[i]? = some x := by rfl) (hv : Vis X.env.scope x := by first | exact Or.inl rfl | exact Or.inr (Or.inl rfl) | exact Or.inr (Or.inr rfl))
    (hdb : (x == ("__debug__" : Str)) = false := by decide) (hcd : (x == ("__classdict__" : Str)) = false := by decide) (he : starEach (e :: es) X.env = (false, eval e X.env) :: starEach es X.env := by rfl) (hpl : (backTo pos (starEach es X.env)).any (·.1) = false := by rfl) :
    QE X (.Call (.Name x p) (e :: es) [] pos) (tCallV i f sp dvs E t) := ⟨pe_callV i F hr hk hb hd hx ha.h hN hv hdb hcd he hpl⟩
theorem call_isinstanceK {K : PySem.W.Frag} (hK : X.K = K) : CallR X (.builtin "isinstance") (rIsU K) := by
  subst hK
  exact call_isinstanceU
end
end L2


/-! part L3p -/
set_option Elab.async false
set_option linter.all false
set_option maxRecDepth 100000
set_option maxHeartbeats 4000000
namespace L2
open PySem PySem.Spec PyProof.Rows
/-! ### dict(a list of pairs), the keys tuples -/
theorem dl_entry : entryFor table "dict.update.loop" = some Builtin.«dict.update.loop» := entryFor_of_tree (by kernel_rfl)
theorem dl_plain : plainId "dict.update.loop" = true := by decide +kernel
theorem dl_nokeys : typeLookup (.type "list") "keys" = pure none := by rw [typeLookup_type, builtinLookup_eq_fast]; kernel_rfl
def foldH (ks : Nat → List Key) (bs : Nat → Addr) (vs : Nat → Value) : Nat → List (List Key × Addr × Value)
  | 0 => []
  | i + 1 => storedH (foldH ks bs vs i) (ks i) (bs i) (vs i)
theorem foldH_len (ks : Nat → List Key) (bs : Nat → Addr) (vs : Nat → Value) : ∀ i, (foldH ks bs vs i).length ≤ i
  | 0 => Nat.le_refl 0
  | i + 1 => by
    have ih := foldH_len ks bs vs i
    show (storedH _ _ _ _).length ≤ _
    unfold storedH
    split
    · rw [List.length_map]; omega
    · rw [List.length_append]; simp; omega
theorem foldH_from (ks : Nat → List Key) (bs : Nat → Addr) (vs : Nat → Value) : ∀ i, ∀ x ∈ foldH ks bs vs i, ∃ j, j < i ∧ x.1 = ks j ∧ x.2.1 = bs j
  | 0, x, h => nomatch h
  | i + 1, x, h => by
    have ih := foldH_from ks bs vs i
    replace h : x ∈ storedH (foldH ks bs vs i) (ks i) (bs i) (vs i) := h
    unfold storedH at h
    split at h
    · obtain ⟨y, hy, rfl⟩ := List.mem_map.mp h
      obtain ⟨j, h1, h2, h3⟩ := ih y hy
      refine ⟨j, by omega, ?_, ?_⟩
      · rw [← h2]; unfold putAt; split <;> rfl
      · rw [← h3]; unfold putAt; split <;> rfl
    · rcases List.mem_append.mp h with h | h
      · obtain ⟨j, h1, h2, h3⟩ := ih x h
        exact ⟨j, by omega, h2, h3⟩
      · rw [List.mem_singleton.mp h]
        exact ⟨i, by omega, rfl, rfl⟩
section
variable {P : Program} {w : World} {A : Around} {R : Result → Shared → Prop} {I : Addr} {fp wr : List Addr} {n : Nat} {Pv : Nat → Value → Prop} {St : Nat → Heap → Prop}
abbrev tk (P : Program) (w : World) := tupleKind (mixKind P w)
theorem key_mono {h h' : Heap} {ks : List Key} {a : Addr} (x : (tk P w).is h ks a) (k : ∀ b o, h.get? b = some o → h'.get? b = some o) : (tk P w).is h' ks a := by
  obtain ⟨o, items, c, h1, r⟩ := (x : IsTupleKey (mixKind P w) h ks a)
  exact (⟨o, items, c, k _ _ h1, r⟩ : IsTupleKey (mixKind P w) h' ks a)
theorem dictH_at {h h' : Heap} {h0 : Heap} {D : Addr} {ks : Nat → List Key} {bs : Nat → Addr} {vs : Nat → Value} {i : Nat} (x : h.DictOfH (tk P w) D (foldH ks bs vs i)) (e : ∀ o, h.get? D = some o → h'.get? D = some o)
    (hkey : ∀ j, j < i → (tk P w).is h0 (ks j) (bs j)) (k0 : ∀ b o, h0.get? b = some o → h'.get? b = some o) : h'.DictOfH (tk P w) D (foldH ks bs vs i) := by
  obtain ⟨o, es, ep, h1, h2, h3, h4, h5, h6⟩ := x
  refine ⟨o, es, ep, e _ h1, h2, h3, h4, fun x hx => ?_, h6⟩
  obtain ⟨j, hj, e1, e2⟩ := foldH_from ks bs vs i x hx
  rw [e1, e2]
  exact key_mono (hkey j hj) k0
theorem dl_loop (W : Walks P w A.in1 I fp wr n Pv St) (D : Addr) (hDf : D ∉ fp) (hu : A.in1.units < cLine) (h0 : Heap) (hw0 : ∀ b ∈ wr, h0.get? b = none) (hD0 : h0.get? D = none) (ks : Nat → List Key) (bs : Nat → Addr) (vs : Nat → Value)
    (hit : ∀ i v, i < n → Pv i v → ∃ t o c, v = .ref t ∧ h0.get? t = some o ∧ o.cls = .type "tuple" ∧ o.data = .seq #[.ref (bs i), vs i] c) (hkey : ∀ i, i < n → (tk P w).is h0 (ks i) (bs i)) (hn : n ≤ sizeLine) :
    ∀ (k i : Nat) (s : Shared), n - i = k → i ≤ n → St i s.heap → s.heap.DictOfH (tk P w) D (foldH ks bs vs i) → (∀ b o, h0.get? b = some o → s.heap.get? b = some o) →
      (∀ h' tk', h'.DictOfH (tk P w) D (foldH ks bs vs n) → (∀ b o, h0.get? b = some o → h'.get? b = some o) → R (.ok (.ret .none)) { s with heap := h', toks := tk' }) →
      codeAny (model P w) A (.builtin "dict.update.loop" ⟨[.ref D, .ref I, rawInt (i : Int), .none], []⟩) R s := by
  have hDw : D ∉ wr := fun h => hDf (W.sub _ h)
  have base : ∀ (h h' : Heap), (∀ b o, h0.get? b = some o → h.get? b = some o) → (∀ b o, b ∉ wr → h.get? b = some o → h'.get? b = some o) → ∀ b o, h0.get? b = some o → h'.get? b = some o :=
    fun h h' k1 k2 b o e => k2 b o (fun z => by rw [hw0 b z] at e; cases e) (k1 b o e)
  intro k
  induction k with
  | zero =>
    intro i s hk hi hst hd kb hR
    have hin : i = n := by omega
    subst hin
    refine codeAny_builtin dl_entry ?_
    rw [Around.under_plainId dl_plain _]
    show wpAny _ A.in1 (pyNext (.ref I) >>= _) _ _ s
    refine wpAny_bind (W.done s _ _ hst fun h' tk' hm => ?_)
    show wpAny _ A.in1 (Builtin.Dict.addKeywords D [] >>= fun _ => ret Value.none) _ _ _
    refine wpAny_bind (wpAny_pure (wpAny_pure ?_))
    have kb' := base _ _ kb hm
    exact hR h' tk' (dictH_at hd (fun o e => hm D o hDw e) hkey kb') kb'
  | succ k ih =>
    intro i s hk hi hst hd kb hR
    have hin : i < n := by omega
    refine codeAny_builtin dl_entry ?_
    rw [Around.under_plainId dl_plain _]
    show wpAny _ A.in1 (pyNext (.ref I) >>= _) _ _ s
    refine wpAny_bind (W.item i s _ _ hin hst fun v h' tk' hv hst' hm => ?_)
    have kb' := base _ _ kb hm
    obtain ⟨t, o, c, rfl, ho, hoc, hod⟩ := hit i v hin hv
    have ho' := kb' _ _ ho
    have hd' := dictH_at hd (fun o e => hm D o hDw e) (fun j hj => hkey j (by omega)) kb'
    refine wpAny_bind (wpAny_holding ?_)
    refine wpAny_bind (wpAny_tryCatch ?_)
    unfold Builtin.Dict.pairItems
    refine wpAny_bind (wpAny_typeOf (T := "tuple") ⟨o, ho', hoc⟩ ?_)
    rw [if_pos (by decide)]
    refine wpAny_bind (wpAny_seqItems ho' hod (wpAny_pure ?_))
    show wpAny _ A.in1 (holding [.ref (bs i), vs i] (dictSet D (.ref (bs i)) (vs i))) _ _ _
    have hlen := foldH_len ks bs vs i
    refine wpAny_holding (wpAny_dictSet_heap (hsz := by omega) (knd := tk P w) (show A.in1.units < cLine from hu) (key_mono (hkey i hin) kb') hd' fun h2 hd2 hs => ?_)
    refine wpAny_pure ⟨plainId_quiet dl_plain _, ?_⟩
    have kD : ∀ b o, h0.get? b = some o → b ≠ D := fun b o e z => by rw [z, hD0] at e; cases e
    have kb2 : ∀ b o, h0.get? b = some o → h2.get? b = some o := fun b o e => (hs.2 b (kD b o e)).trans (kb' b o e)
    have e1 : rawInt ((i : Int) + 1) = rawInt ((i + 1 : Nat) : Int) := by simp
    rw [e1]
    refine ih (i + 1) _ (by omega) (by omega) (W.frame _ _ _ hst' fun b hb o e => (hs.2 b (fun z => hDf (z ▸ hb))).trans e) hd2 kb2 fun h3 tk3 hd3 kb3 => ?_
    exact hR h3 tk3 hd3 kb3
theorem dl_miss {A : Around} {E : Value → Shared → Prop} {s : Shared} {a : Addr} {o : Obj} {xs : Array Value} {k : Nat} {u : Tok} {Q : Value → Shared → Prop}
    (hx : s.heap.get? a = some o) (hc : o.cls = .type "list") (hdat : o.data = .seq xs k) (hd : o.dict = none) (hA : A.handled = none)
    (h : ∀ h' tk e, Heap.NewExcOf s.heap h' e "AttributeError" → E (.ref e) { s with heap := h', toks := tk }) : wpAny (model P w) A (getAttrBy (.ref a) (.str "keys" u) false) Q E s := by
  obtain ⟨c, dct, dat, sl⟩ := o
  simp only at hc hdat hd
  subst hc hdat hd
  obtain ⟨hp, g, d, tk, os⟩ := s
  have hT : ∀ tk', (⟨hp, g, d, tk', os⟩ : Shared).TypeIs (.ref a) "list" := fun _ => ⟨_, hx, rfl⟩
  have g1 := sub_AttributeError
  have g3 := F.slot_list_getattribute.lookup
  have g4 := F.slot_list_getattribute.bind (.ref a)
  have g5 := am_list_getattr_none
  unfold getAttrBy
  repeat (any_goals (first | assumption | exact hT _ | ((with_reducible show wpAny _ _ (call (Value.builtin "list.__getattribute__") _ _) _ _ _); refine call_meets F.slot_list_getattribute (hT _) am_entry_list_getattribute (F.args_list_getattribute_2 _ _) (meets_getattribute_miss_list a xs k sl "keys" _ dl_nokeys (by decide +kernel) (by size_fits)) ⟨hx, hA, fun h' tk' e hx' => ?_⟩) | wp_step))
  obtain ⟨t', u', he⟩ := hx'.there
  show wpAny _ _ (getattributeRaised _ _ _ _ _ _ _) _ _ _
  unfold getattributeRaised
  repeat (any_goals (first | assumption | wp_step))
  exact h _ _ _ hx'.of
/-- dict(l): s the state at the call -/
theorem dl_dict {E : Value → Shared → Prop} {s : Shared} {Q : Value → Shared → Prop} {l : Addr} {items : Array Value} (hh : A.handled = none) (hu : A.in1.in1.units < cLine) (hl : s.heap.IsList l items) (hnd : ∀ o, s.heap.get? l = some o → o.dict = none) (ks : Nat → List Key) (bs : Nat → Addr) (vs : Nat → Value)
    (hit : ∀ i v, items[i]? = some v → ∃ t o c, v = .ref t ∧ s.heap.get? t = some o ∧ o.cls = .type "tuple" ∧ o.data = .seq #[.ref (bs i), vs i] c) (hkey : ∀ i, i < items.size → (tk P w).is s.heap (ks i) (bs i)) (hn : items.size ≤ sizeLine)
    (hQ : ∀ h' tk', h'.DictOfH (tk P w) s.heap.objs.size (foldH ks bs vs items.size) → (∀ b o, s.heap.get? b = some o → h'.get? b = some o) → Q (.ref s.heap.objs.size) { s with heap := h', toks := tk' }) :
    wpAny (model P w) A (call (.type "dict") [.ref l]) Q E s := by
  refine callType_codes (Q₁ := fun obj s1 => obj = .ref s.heap.objs.size ∧ s1 = { s with heap := s.heap.push { cls := .type "dict", data := .dict #[] } }) F.kt_called_dict (F.kt_typeCall_dict_1 _) F.entry_dict_init (kt_code_dict_new _ ⟨rfl, rfl⟩) fun obj s1 hs1 => ?_
  obtain ⟨rfl, rfl⟩ := hs1
  have hnew : (s.heap.push { cls := .type "dict", data := .dict #[] }).DictOfH (tk P w) s.heap.objs.size [] := Heap.DictOfH.new s.heap
  have hl1 := hl.push { cls := .type "dict", data := .dict #[] }
  refine ⟨hnew.typeIs, F.args_dict_init_2 _ _, ?_⟩
  unfold Builtin.«dict.__init__»
  refine wpAny_bind ?_
  unfold Builtin.Dict.selfAndRest
  refine wpAny_bind (wpAny_notOrdered_dict hnew.typeIs ?_)
  refine (show wpAny _ _ (pure (s.heap.objs.size, [Value.ref l])) _ _ _ from wpAny_pure ?_)
  show wpAny _ _ (Builtin.Dict.updateFrom "dict.__init__" s.heap.objs.size (.ref l) [] .none) _ _ _
  unfold Builtin.Dict.updateFrom
  refine wpAny_bind (wpAny_typeOf hl1.typeIs ?_)
  rw [if_pos (by decide)]
  refine wpAny_bind ?_
  unfold getAttr?
  refine wpAny_bind (wpAny_mkText ?_)
  unfold getAttrBy?
  obtain ⟨ol, hol0, hoc, n0, hod⟩ := id hl
  have hol := Heap.get?_push_of_some { cls := .type "dict", data := .dict #[] } hol0
  refine wpAny_bind (wpAny_attempt (dl_miss hol hoc hod (hnd _ hol0) hh fun h' tk1 e hx => ?_))
  obtain ⟨ob, fs, he, hec, _⟩ := hx.there
  refine wpAny_bind (wpAny_isInstance (T := "AttributeError") (b := true) ⟨ob, he, hec⟩ sub_AttributeError ?_)
  rw [if_pos rfl]
  refine wpAny_pure ?_
  rw [if_pos (show (Option.isNone (none : Option Value)) = true from rfl)]
  refine wpAny_bind (wpAny_rule ?_)
  have keep1 : ∀ b o, s.heap.get? b = some o → h'.get? b = some o := fun b o e => hx.keeps _ _ (Heap.get?_push_of_some _ e)
  have hl2 : h'.IsList l items := ⟨ol, keep1 _ _ hol0, hoc, n0, hod⟩
  have nov : ∀ a, s.heap.objs.size ≤ a → s.heap.get? a = none := fun a ha => by
    cases q : s.heap.get? a with
    | none => rfl
    | some o => exact absurd (Heap.lt_size q) (Nat.not_lt.mpr ha)
  have hD' : h'.DictOfH (tk P w) s.heap.objs.size [] := by
    obtain ⟨o, es, ep, q1, q2, q3, q4, q5, q6⟩ := hnew
    exact ⟨o, es, ep, hx.keeps _ _ q1, q2, q3, q4, (fun x hx => by simp at hx), q6⟩
  have hDlt : s.heap.objs.size < h'.objs.size := by obtain ⟨o, _, _, q1, _⟩ := hD'; exact Heap.lt_size q1
  have hllt : l < s.heap.objs.size := Heap.lt_size hol0
  refine wpAny_bind (wpAny_pyIter_list hl2 ?_)
  refine wpAny_pure ⟨plainId_quiet dl_plain _, ?_⟩
  have nlI : l ≠ h'.objs.size := Nat.ne_of_lt (Nat.lt_trans hllt hDlt)
  have W := Walks.list (prog := P) (w := w) (A := A.in1.in1) hh h'.objs.size l nlI items
  refine dl_loop W s.heap.objs.size (fun hm => ?_) hu s.heap (fun b hb => ?_) (nov _ (Nat.le_refl _)) ks bs vs (fun i v hi hv => hit i v hv) hkey hn items.size 0 _ (by omega) (Nat.zero_le _) ⟨⟨_, Heap.get?_push_size _ rfl, rfl, rfl⟩, hl2.push _⟩ ?_ (fun b o e => Heap.get?_push_of_some _ (keep1 b o e)) (fun h3 tk3 hd3 kb3 => ?_)
  · rcases List.mem_cons.mp hm with q | q
    · exact Nat.ne_of_lt hDlt q
    · exact Nat.ne_of_gt hllt (List.mem_singleton.mp q)
  · rw [List.mem_singleton.mp hb]
    exact nov _ (Nat.le_of_lt hDlt)
  · obtain ⟨o, es, ep, q1, q2, q3, q4, q5, q6⟩ := hD'
    exact ⟨o, es, ep, Heap.get?_push_of_some _ q1, q2, q3, q4, (fun x hx => by simp [foldH] at hx), q6⟩
  · exact ⟨rfl, hQ h3 tk3 hd3 kb3⟩
end
section
variable {X : Cx}
def PairsT (H : Hp) (ys : List V) (kvs : List (List Key × V)) : Prop := Paired (fun y (kv : List Key × V) => ∃ t b, y = .ref t ∧ H t = some (.tup [.ref b, kv.2]) ∧ H b = some (.tup (kv.1.map kV))) ys kvs
def putAll (kvs : List (List Key × V)) : List (List Key × V) := kvs.foldl (fun d kv => putK d kv.1 kv.2) []
theorem PairsT.get : ∀ {H : Hp} {ys : List V} {kvs : List (List Key × V)} {i : Nat} {y : V}, PairsT H ys kvs → ys[i]? = some y → ∃ kv t b, kvs[i]? = some kv ∧ y = .ref t ∧ H t = some (.tup [.ref b, kv.2]) ∧ H b = some (.tup (kv.1.map kV))
  | _, _, _, i, y, .nil, e => by simp at e
  | _, _, _, 0, y, .cons (b := kv) ⟨t, b, q⟩ _, e => by simp at e; subst e; exact ⟨kv, t, b, rfl, q⟩
  | _, _, _, i + 1, y, .cons _ r, e => by simp at e; obtain ⟨kv, t, b, h⟩ := PairsT.get (kvs := _) r e; exact ⟨kv, t, b, by simpa using h.1, h.2⟩
def rDictT : List V → Hp → VK → Prop := fun xs H Q => match xs with
  | [.ref l] => ∃ ys kvs, H l = some (.lst ys) ∧ PairsT H ys kvs ∧ ∀ p, H p = none → Q (.ref p) (upd H p (.dT (putAll kvs)))
  | _ => False
theorem rDictT_ref (l : Addr) (H : Hp) (Q : VK) : rDictT [.ref l] H Q = (∃ ys kvs, H l = some (.lst ys) ∧ PairsT H ys kvs ∧ ∀ p, H p = none → Q (.ref p) (upd H p (.dT (putAll kvs)))) := rfl
theorem call_dictT (hc : X.calm = true) (hu : X.A.units + 64 < cLine) : CallR X (.type "dict") rDictT := by
  intro pins s σ H xs us Q I r h
  unfold rDictT at h
  split at h
  · rename_i l
    obtain ⟨ys, kvs, e, hp, q⟩ := h
    obtain ⟨u, rfl, ru⟩ := vals1 r
    cases ru
    obtain ⟨its, rr, pl, hz⟩ := I.list (SqL.of e)
    have hl : ys.length = its.length := rr.length
    have hlk : ys.length = kvs.length := Paired.length hp
    have fn : ∀ i, ∃ p : List Key × Addr × Value, i < its.length → ∃ kv t o c, kvs[i]? = some kv ∧ p.1 = kv.1 ∧ its[i]? = some (.ref t) ∧ s.heap.get? t = some o ∧ o.cls = .type "tuple" ∧ o.data = .seq #[.ref p.2.1, p.2.2] c ∧
        H p.2.1 = some (.tup (kv.1.map kV)) ∧ RelV kv.2 p.2.2 := by
      intro i
      by_cases hi : i < its.length
      · have hy : ys[i]? = some (ys[i]'(by omega)) := by simp
        obtain ⟨kv, t, b, h1, h2, h3, h4⟩ := hp.get hy
        obtain ⟨u, hu1, hu2⟩ := rr.get hy
        rw [h2] at hu2
        cases hu2
        obtain ⟨_, its2, r2, o, q1, q2, n, q3⟩ := (show ObjOk X.prog X.w H s.heap t (.tup [.ref b, kv.2]) from I.hok t _ h3)
        obtain ⟨u1, u2, rfl, ru1, ru2⟩ := r2.two
        cases ru1
        exact ⟨(kv.1, b, u2), fun _ => ⟨kv, t, o, n, h1, rfl, hu1, q1, q2, q3, h4, ru2⟩⟩
      · exact ⟨([], 0, .none), fun z => absurd z hi⟩
    obtain ⟨f, hf⟩ := Classical.skolem.mp fn
    have kt : ∀ i, i ≤ its.length → KT H (putAll (kvs.take i)) (foldH (fun i => (f i).1) (fun i => (f i).2.1) (fun i => (f i).2.2) i) := by
      intro i
      induction i with
      | zero => intro _; exact .nil
      | succ i ih =>
        intro hi
        obtain ⟨kv, t, o, c, h1, h2, h3, h4, h5, h6, h7, h8⟩ := hf i (by omega)
        have e1 : putAll (kvs.take (i + 1)) = putK (putAll (kvs.take i)) kv.1 kv.2 := by
          rw [List.take_succ, h1]
          simp [putAll, List.foldl_append]
        rw [e1]
        show KT H _ (storedH _ _ _ _)
        rw [← h2] at h7 ⊢
        exact (ih (by omega)).put _ h7 h8
    have hs : sizeLine = 16777216 := sizeLine_eq
    obtain ⟨ol, nl, w1, w2, w3, w4⟩ := id pl
    refine dl_dict (P := X.prog) (w := X.w) (I.ok.hd hc) (by show X.A.units + 1 + 1 < cLine; omega) pl.isList (fun o e => by rw [w1] at e; cases e; exact w3) (fun i => (f i).1) (fun i => (f i).2.1) (fun i => (f i).2.2) (fun i v hv => ?_) (fun i hi => ?_) (by rw [List.size_toArray]; omega) fun h' tk' hd kb => ?_
    · have hv' : its[i]? = some v := by simpa using hv
      have hi : i < its.length := (List.getElem?_eq_some_iff.mp hv').1
      obtain ⟨kv, t, o, c, h1, h2, h3, h4, h5, h6, h7, h8⟩ := hf i hi
      rw [h3] at hv'
      cases hv'
      exact ⟨t, o, c, rfl, h4, h5, h6⟩
    · obtain ⟨kv, t, o, c, h1, h2, h3, h4, h5, h6, h7, h8⟩ := hf i (by simpa using hi)
      show (tk X.prog X.w).is s.heap (f i).1 (f i).2.1
      rw [h2]
      exact key_of I.hok h7
    · have kt1 := kt its.length (Nat.le_refl _)
      rw [List.take_of_length_le (by omega)] at kt1
      have hfl := foldH_len (fun i => (f i).1) (fun i => (f i).2.1) (fun i => (f i).2.2) its.length
      have hpl : (putAll kvs).length ≤ sizeLine := by have := Paired.length kt1; omega
      have hfr : H s.heap.objs.size = none := I.hok.fresh (Nat.le_refl _)
      rw [List.size_toArray] at hd
      obtain ⟨o, es, ep, d1, d2, d3, d4, d5, d6⟩ := hd
      refine ⟨.ref s.heap.objs.size, upd H s.heap.objs.size (.dT (putAll kvs)), I.laid (t' := tk') kb (Nat.le_refl _) ⟨hpl, ?_, _, kt1.keeps fun b ys eb => ?_, o, es, ep, d1, d2, d3, d4, d6⟩, rfl, q _ hfr⟩
      · have := I.big
        exact beq_eq_false_iff_ne.mpr (Nat.ne_of_gt this)
      · rw [upd_ne (ne_of_none eb hfr)]; exact eb
  · exact h.elim
end
end L2


/-! part L3q -/
set_option Elab.async false
set_option linter.all false
set_option maxRecDepth 100000
set_option maxHeartbeats 4000000
namespace L2
open PySem PySem.Spec PyProof.Rows
/-! ### a walk over a dict's keys, whatever the keys -/
section
variable {P : Program} {w : World} {A : Around} {E : Value → Shared → Prop} {s : Shared} {d it : Addr} {o : Obj} {es : Array DictEntry} {ep i : Nat}
theorem kd_iter {Q : Value → Shared → Prop} (hd : (d == sysModules) = false) (ho : s.heap.get? d = some o) (hx : o.ExactDict) (hdat : o.data = .dict es ep)
    (hQ : Q (.ref s.heap.objs.size) { s with heap := s.heap.push { cls := .type "dict_keyiterator", data := .fields #[.ref d, .int 0 0, .int es.size 0, .int ep 0] } }) : wpAny (model P w) A (pyIter (.ref d)) Q E s := by
  have hT : s.TypeIs (.ref d) "dict" := ⟨o, ho, hx.1⟩
  refine wpAny_pyIter_slot hT F.slot_dict_iter (wpAny_call_entry F.slot_dict_iter hT F.entry_dict_iter ?_ (F.args_dict_iter_1 _))
  unfold Builtin.«dict.__iter__»
  refine wpAny_bind ?_
  unfold Builtin.Dict.dictSlotNone
  refine wpAny_bind (wpAny_notOrdered_dict hT ?_)
  refine (show wpAny _ _ (pure (Value.ref d)) _ _ s from wpAny_pure ?_)
  show wpAny _ _ (Builtin.Dict.showsAll d >>= _) _ _ s
  unfold Builtin.Dict.showsAll
  rw [if_neg (show ¬ ((d == sysModules) = true) by rw [hd]; exact Bool.false_ne_true)]
  refine wpAny_bind (wpAny_pure (wpAny_bind (wpAny_dictEntries ho hdat (wpAny_bind (wpAny_dictEpoch ho hdat ?_)))))
  refine wpAny_bind (wpAny_newObj_type (wpAny_pure ⟨_, rfl, "dict_keyiterator", _, ⟨_, Heap.get?_push_size _ rfl, rfl⟩, F.slot_dict_keyiterator_next.lookup, ?_⟩))
  simpa [rawInt] using hQ
theorem kd_item {e : DictEntry} {Q : Option Value → Shared → Prop} (hit : s.heap.IsKeyIter it d i es.size ep) (hod : s.heap.get? d = some o) (hdd : o.data = .dict es ep) (hx : es[i]? = some e)
    (hQ : ∀ h', h'.IsKeyIter it d (i + 1) es.size ep → Heap.SameBut it s.heap h' → Q (some e.key) { s with heap := h' }) : wpAny (model P w) A (pyNext (.ref it)) Q E s := by
  obtain ⟨oi, hoi, hci, hdi⟩ := id hit
  unfold pyNext
  refine wpAny_bind (wpAny_attempt (wpAny_callSpecial?_slot (name := Str.ofString "__next__") hit.typeIs F.slot_dict_keyiterator_next (wpAny_call_entry F.slot_dict_keyiterator_next hit.typeIs F.entry_dict_keyiterator_next ?_ (F.args_dict_keyiterator_next_1 _))))
  refine wpAny_bind (wpAny_pure (wpAny_bind (wpAny_bind ?_)))
  first | refine wpAny_bind (wpAny_typeNameOfWhole_keyiter hit.typeIs (wpAny_pure (wpAny_bind (wpAny_fieldsOf hoi hdi ?_)))) | refine wpAny_bind (wpAny_typeNameOf_keyiter hit.typeIs (wpAny_pure (wpAny_bind (wpAny_fieldsOf hoi hdi ?_))))
  have own0 : Builtin.Dict_items.ownsTuple "dict_keyiterator" = false := by decide
  simp only [own0, Bool.false_eq_true, if_false]
  refine (show wpAny _ _ (if (Value.ref d == Value.none) = true then _ else _) _ _ s from ?_)
  rw [if_neg (show ¬ ((Value.ref d == Value.none) = true) by exact Bool.false_ne_true)]
  refine wpAny_bind (wpAny_pure (wpAny_bind (wpAny_dictEntries hod hdd ?_)))
  rw [if_neg (show ¬ _ by simp)]
  refine wpAny_bind (wpAny_pure (wpAny_bind (wpAny_dictEpoch hod hdd ?_)))
  rw [if_neg (show ¬ _ by simp)]
  refine wpAny_pure ?_
  simp only [show ¬ ((i : Int) < 0) by omega, if_false, Int.toNat_natCast, hx]
  refine wpAny_bind ?_
  first | refine wpAny_bind (wpAny_typeNameOfWhole_keyiter hit.typeIs (wpAny_pure (wpAny_bind (wpAny_isOneOf_keyiter hit.typeIs ?_)))) | refine wpAny_bind (wpAny_typeNameOf_keyiter hit.typeIs (wpAny_pure (wpAny_bind (wpAny_isOneOf_keyiter hit.typeIs ?_))))
  refine (show wpAny _ _ (setField (.ref it) 1 (rawInt ((i : Int) + 1)) >>= _) _ _ s from wpAny_bind (wpAny_setField hoi hdi (by simp) ?_))
  have hit2 : (s.heap.update it (Obj.mapFields (·.setIfInBounds 1 (rawInt ((i : Int) + 1))))).IsKeyIter it d (i + 1) es.size ep :=
    ⟨_, Heap.get?_update_self _ hoi (Obj.isFreed_of_fields (Obj.data_mapFields hdi _)), (Obj.cls_mapFields ..).trans hci, by rw [Obj.data_mapFields hdi]; simp [rawInt]⟩
  refine wpAny_bind (wpAny_holding (wpAny_bind (wpAny_isOneOf_keyiter (s := { s with heap := s.heap.update it (Obj.mapFields (·.setIfInBounds 1 (rawInt ((i : Int) + 1)))) }) hit2.typeIs ?_)))
  refine (show wpAny _ _ (pure e.key) _ _ _ from wpAny_pure (wpAny_pure ⟨_, rfl, wpAny_pure (hQ _ hit2 (Heap.SameBut.update ..))⟩))
theorem kd_end {Q : Option Value → Shared → Prop} (hh : A.handled = none) (hit : s.heap.IsKeyIter it d i es.size ep) (hod : s.heap.get? d = some o) (hdd : o.data = .dict es ep) (hx : es.size ≤ i)
    (hQ : ∀ h', Heap.ExtBut it s.heap h' → Q none { s with heap := h' }) : wpAny (model P w) A (pyNext (.ref it)) Q E s := by
  obtain ⟨oi, hoi, hci, hdi⟩ := id hit
  unfold pyNext
  refine wpAny_bind (wpAny_attempt (wpAny_callSpecial?_slot (name := Str.ofString "__next__") hit.typeIs F.slot_dict_keyiterator_next (wpAny_call_entry F.slot_dict_keyiterator_next hit.typeIs F.entry_dict_keyiterator_next ?_ (F.args_dict_keyiterator_next_1 _))))
  refine wpAny_bind (wpAny_pure (wpAny_bind (wpAny_bind ?_)))
  first | refine wpAny_bind (wpAny_typeNameOfWhole_keyiter hit.typeIs (wpAny_pure (wpAny_bind (wpAny_fieldsOf hoi hdi ?_)))) | refine wpAny_bind (wpAny_typeNameOf_keyiter hit.typeIs (wpAny_pure (wpAny_bind (wpAny_fieldsOf hoi hdi ?_))))
  have own0 : Builtin.Dict_items.ownsTuple "dict_keyiterator" = false := by decide
  simp only [own0, Bool.false_eq_true, if_false]
  refine (show wpAny _ _ (if (Value.ref d == Value.none) = true then _ else _) _ _ s from ?_)
  rw [if_neg (show ¬ ((Value.ref d == Value.none) = true) by exact Bool.false_ne_true)]
  refine wpAny_bind (wpAny_pure (wpAny_bind (wpAny_dictEntries hod hdd ?_)))
  rw [if_neg (show ¬ _ by simp)]
  refine wpAny_bind (wpAny_pure (wpAny_bind (wpAny_dictEpoch hod hdd ?_)))
  rw [if_neg (show ¬ _ by simp)]
  refine wpAny_pure ?_
  simp only [show ¬ ((i : Int) < 0) by omega, if_false, Int.toNat_natCast, Array.getElem?_eq_none hx]
  refine wpAny_bind ?_
  first | refine wpAny_bind (wpAny_typeNameOfWhole_keyiter hit.typeIs (wpAny_pure ?_)) | refine wpAny_bind (wpAny_typeNameOf_keyiter hit.typeIs (wpAny_pure ?_))
  refine (show wpAny _ _ (setField (.ref it) 0 .none >>= _) _ _ s from wpAny_bind (wpAny_setField hoi hdi (by simp) ?_))
  refine (show wpAny _ _ (newExc (.type "StopIteration") [] >>= _) _ _ _ from wpAny_bind ?_)
  simp only [newExc, newTuple]
  refine wpAny_bind (wpAny_newObj_type ?_ (by size_fits))
  refine wpAny_bind (m := firstArgMember _ _) (wpAny_of_eq (a := Value.none) (by first | rfl | (simp only [firstArgMember]; rfl)) (wpAny_newObj_type ?_ (by size_fits)))
  simp only [raiseNew]
  refine wpAny_bind (wpAny_handled ?_)
  rw [show A.in1.handled = none by exact hh]
  refine wpAny_bind (wpAny_pure (wpAny_throw ?_))
  refine wpAny_bind (wpAny_isInstance (T := "StopIteration") (b := true) (by exact ⟨_, Heap.get?_push_size _ rfl, rfl⟩) isSubtype_stop ?_)
  exact wpAny_pure (hQ _ (((Heap.SameBut.update ..).extBut.push _).push _))
end
/-- the dict at d, with tuples for keys, stands still while it is walked -/
def ItD (d : Addr) (kvs : List (List Key × V)) (o : Obj) : It := ⟨fun i H => i < kvs.length ∧ H d = some (.frz o (.dT kvs)), fun i H x H' => H' = H ∧ ∃ b kv, kvs[i]? = some kv ∧ x = .ref b ∧ H b = some (.tup (kv.1.map kV)), fun i H => kvs.length ≤ i ∧ H d = some (.frz o (.dT kvs))⟩
theorem dT_at {P : Program} {w : World} {H : Hp} {h : Heap} {d : Addr} {o : Obj} {kvs : List (List Key × V)} {es : Array DictEntry} {ep : Nat} (ok : HOk P w H h) (e : H d = some (.frz o (.dT kvs))) (hd : o.data = .dict es ep) :
    h.get? d = some o ∧ es.size = kvs.length ∧ ∀ (i : Nat) (kv : List Key × V), kvs[i]? = some kv → ∃ en b, es[i]? = some en ∧ en.key = .ref b ∧ H b = some (.tup (kv.1.map kV)) := by
  obtain ⟨g, z, _, xs, r, o', es', ep', q1, q2, q3, q4, q5⟩ := (show ObjOk P w H h d (.frz o (.dT kvs)) from ok d _ e)
  rw [g] at q1
  cases q1
  rw [hd] at q3
  cases q3
  have hl : kvs.length = xs.length := Paired.length r
  refine ⟨g, by rw [size_of_entries q4, hl], fun i kv hk => ?_⟩
  have hi : i < kvs.length := (List.getElem?_eq_some_iff.mp hk).1
  have all : ∀ {l : List (List Key × V)} {m : List (List Key × Addr × Value)} (i : Nat) (kv : List Key × V), KT H l m → l[i]? = some kv → ∃ x, m[i]? = some x ∧ kv.1 = x.1 ∧ H x.2.1 = some (.tup (kv.1.map kV)) := by
    intro l m i kv q
    induction q generalizing i with
    | nil => intro e; simp at e
    | @cons p q ps qs hq t ih =>
      intro e
      cases i with
      | zero => simp at e; subst e; exact ⟨q, rfl, hq.1, hq.2.1⟩
      | succ i => simp at e; obtain ⟨x, h1, h2⟩ := ih i e; exact ⟨x, by simpa using h1, h2⟩
  obtain ⟨x, h1, h2, h3⟩ := all i kv r hk
  refine ⟨entryOfKey (tupleKind (mixKind P w)) x, x.2.1, ?_, rfl, h3⟩
  rw [entry_at q4, h1]
  rfl
theorem turn_dict {P : Program} {w : World} {K : PySem.W.Frag} {tg : Expr} (d it : Addr) (kvs : List (List Key × V)) (o : Obj) (es : Array DictEntry) (ep : Nat) (hdo : o.data = .dict es ep) (hes : es.size = kvs.length) : Turn P w K tg (ItD d kvs o) [it] it (fun i h => h.IsKeyIter it d i es.size ep) where
  mem := by simp
  obj := fun i h st b hb => by
    have e : b = it := by simpa using hb
    subst e
    obtain ⟨oi, e, c, q⟩ := st
    exact ⟨oi, e, fun v z => by rw [q] at z; cases z⟩
  keep := fun i h h' st k => st.at fun o e => k it (by simp) o e
  item := by
    intro X hP hw hK hc i pins s σ H E I hf st hg
    subst hP hw hK
    obtain ⟨hi, e⟩ := hg
    obtain ⟨g, _, all⟩ := dT_at I.hok e hdo
    obtain ⟨kv, hkv⟩ : ∃ kv, kvs[i]? = some kv := ⟨kvs[i]'hi, by simp⟩
    obtain ⟨en, b, h1, h2, h3⟩ := all i kv hkv
    obtain ⟨f0, f1, f2, f3, f4, f5⟩ := hf it (by simp)
    refine kd_item st g hdo h1 fun h' st' sb => ?_
    have I1 : Inv X pins σ H { s with heap := h' } := I.turned (t' := s.toks) (fun b o hb e => (sb.2 b hb).trans e) f0 f1 f3 f4 f5
    obtain ⟨oi, ei, c, q⟩ := id st'
    refine ⟨en.key, rfl, go_of (s := { s with heap := h' }) ei c q (by decide) ⟨.ref b, H, I1, ?_, ⟨rfl, b, kv, hkv, rfl, h3⟩, st', fun b hb => (hf b hb).1⟩⟩
    rw [h2]; rfl
  done := by
    intro X hP hw hK hc i pins s σ H E I hf st hg
    subst hP hw hK
    obtain ⟨hi, e⟩ := hg
    obtain ⟨g, _, all⟩ := dT_at I.hok e hdo
    obtain ⟨f0, f1, f2, f3, f4, f5⟩ := hf it (by simp)
    exact kd_end (I.ok.hd hc) st g hdo (by omega) fun h' eb => ⟨rfl, I.turned (t' := s.toks) (fun b o hb e => eb b o hb e) f0 f1 f3 f4 f5⟩
  self := fun _ _ _ _ _ st h => wpAny_pyIter_keyiter st h
section
variable {X : Cx} {tg : Expr}
def rDict (x : V) (H1 : Hp) (R : It → Hp → Prop) : Prop := match x with
  | .ref d => match H1 d with
    | some (.dT kvs) => ∀ o, R (ItD d kvs o) (upd H1 d (.frz o (.dT kvs)))
    | some (.frz o (.dT kvs)) => R (ItD d kvs o) H1
    | _ => False
  | _ => False
def iDict (ta : TE) : TI := fun σ H R => ta σ H fun x H1 => rDict x H1 R
theorem rDict_of {R : It → Hp → Prop} {H1 : Hp} {d : Addr} {kvs : List (List Key × V)} (rd : Rd H1 d (.dT kvs)) (h : ∀ o Hz, Hz d = some (.frz o (.dT kvs)) → (Hz = H1 ∨ (H1 d = some (.dT kvs) ∧ Hz = upd H1 d (.frz o (.dT kvs)))) → R (ItD d kvs o) Hz) : rDict (.ref d) H1 R := by
  unfold rDict
  rcases rd with e | ⟨o, e⟩
  · simp only [e]
    exact fun o => h o _ upd_same (.inr ⟨e, rfl⟩)
  · simp only [e]
    exact h o H1 e (.inl rfl)
theorem pi_dict {l : Expr} {tl : TE} (hl : PE X l tl) : PI X tg l (iDict tl) := by
  intro pins s σ H R I h
  refine thn (hl pins s σ H _ I h) fun v s1 ⟨x, H1, I1, r1, q1⟩ => ?_
  cases x with
  | ref d =>
    cases r1
    have fin : ∀ (H2 : Hp) (o : Obj) (kvs : List (List Key × V)), Inv X pins σ H2 s1 → H2 d = some (.frz o (.dT kvs)) → R (ItD d kvs o) H2 → wpAny (model X.prog X.w) X.A (pyIter (.ref d)) (PIE X pins σ tg R) X.xe s1 := by
      intro H2 o kvs I2 e q
      obtain ⟨g, z, hS, xs, r, o', es, ep, q1, q2, q3, q4, q5⟩ := (show ObjOk X.prog X.w H2 s1.heap d (.frz o (.dT kvs)) from I2.hok d _ e)
      rw [g] at q1
      cases q1
      obtain ⟨_, hes, _⟩ := dT_at I2.hok e q3
      refine kd_iter hS g q2 q3 ?_
      refine ⟨s1.heap.objs.size, [s1.heap.objs.size], _, _, H2, rfl, I2.kept (t' := s1.toks) fun b o e => Heap.get?_push_of_some _ e, turn_dict d _ kvs o es ep q3 hes, ⟨_, Heap.get?_push_size _ rfl, rfl, rfl⟩, fun b hb => ?_, q⟩
      have eb : b = s1.heap.objs.size := by simpa using hb
      subst eb
      exact I2.fpOk (Nat.le_refl _) (I2.hok.fresh (Nat.le_refl _))
    replace q1 : rDict (.ref d) H1 R := q1
    unfold rDict at q1
    simp only at q1
    split at q1
    · rename_i kvs e
      obtain ⟨z, hS, xs, r, o, es, ep, w1, w2, w3, w4, w5⟩ := (show ObjOk X.prog X.w H1 s1.heap d (.dT kvs) from I1.hok d _ e)
      refine fin (upd H1 d (.frz o (.dT kvs))) o kvs ?_ upd_same (q1 o)
      refine I1.write (t' := s1.toks) (x := d) (e := d) (by rw [e]; exact True.intro) (.inl rfl) (fun b u _ q => q) ⟨o, w1⟩ ⟨w1, z, hS, xs, KT.keeps r (fun c ys ec => ?_), o, es, ep, w1, w2, w3, w4, w5⟩
      rw [upd_ne (ne_of ec e (fun z => nomatch z))]
      exact ec
    · rename_i o kvs e
      exact fin H1 o kvs I1 e q1
    · exact q1.elim
  | _ => exact False.elim q1
theorem qpi_dict {l : Expr} {tl : TE} (hl : QE X l tl) : QI X tg l (iDict tl) := ⟨pi_dict hl.h⟩
end
theorem loop_dict {d : Addr} {kvs : List (List Key × V)} {o : Obj} {g : TG} {tb : TS} {D : Ends} {σ : L2.St} {H : Hp} (Pv : Nat → L2.St → Hp → Prop) (h0 : Pv 0 σ H) (hl : ∀ i σ H, i ≤ kvs.length → Pv i σ H → H d = some (.frz o (.dT kvs)))
    (hs : ∀ i kv b σ H, kvs[i]? = some kv → H b = some (.tup (kv.1.map kV)) → Pv i σ H → g (.ref b) σ H fun σ2 H2 => tb { D with nx := Pv (i + 1), ct := Pv (i + 1), bk := D.nx } σ2 H2) (hd : ∀ σ H, Pv kvs.length σ H → D.nx σ H) : LoopR (ItD d kvs o) g tb D σ H := by
  refine ⟨fun i m σ H => m + i = kvs.length ∧ Pv i σ H, ⟨kvs.length, rfl, h0⟩, ?_⟩
  rintro i m σ H ⟨hm, p⟩
  by_cases hi : i < kvs.length
  · right
    refine ⟨⟨hi, hl i σ H (by omega) p⟩, Pv (i + 1), fun σ' H' p' => ⟨m - 1, by omega, by omega, p'⟩, ?_⟩
    rintro x H' ⟨rfl, b, kv, hkv, rfl, hb⟩
    exact hs i kv b σ H' hkv hb p
  · left
    have e : i = kvs.length := by omega
    subst e
    exact ⟨⟨Nat.le_refl _, hl _ σ H (Nat.le_refl _) p⟩, hd σ H p⟩
end L2


/-! part L3r -/
set_option Elab.async false
set_option linter.all false
set_option maxRecDepth 100000
set_option maxHeartbeats 4000000
namespace L2
open PySem PySem.Spec PyProof.Rows
/-! ### comprehensions whose parts make new things -/
section
variable {D : Addr} {te : TE} {tt : TT} {E : Ends} {r : L2.St} {H : Hp}
/-- what stays whatever lists are written -/
def Firm (P : V → Hp → Prop) : Prop := ∀ S x H1 H2, Kp S H1 H2 → P x H1 → P x H2
theorem comp_rangeK {lo : Int} {n : Nat} (P : Nat → V → Hp → Prop) (hP : ∀ i, Firm (P i)) (hD : H D = none) (hz : n ≤ sizeLine)
    (he : ∀ i H1 Q, i < n → Kp [] H H1 → (∀ v H2, Kp [] H1 H2 → P i v H2 → Q v H2) → te (some (.int (lo + (i : Nat))) :: r) H1 Q)
    (hn : ∀ v xs H', Kp [] H H' → H' D = some (.lst xs) → Paired (fun i x => P i x H') (List.range n) xs → E.nx (v :: r) H') : LoopR (Itr lo n) (gName 0) (tEmit D te) E (none :: r) (upd H D (.lst [])) := by
  refine loop_range (fun i σ H' => ∃ (v : Option V) (xs : List V), σ = v :: r ∧ Kp [] H H' ∧ H' D = some (.lst xs) ∧ Paired (fun i x => P i x H') (List.range i) xs) ⟨none, [], rfl, (Kp.refl [] H).new hD, upd_same, .nil⟩ ?_ ?_
  · rintro i σ H' hi ⟨v, xs, rfl, kp, hd, pr⟩
    have hl : xs.length = i := by have := Paired.length pr; simpa using this.symm
    refine he i H' _ hi kp fun y H2 k2 hy => ?_
    have hd2 : H2 D = some (.lst xs) := k2.old _ _ hd (by simp)
    refine ⟨xs, by rw [hd2]; rfl, by omega, some (.int (lo + (i : Nat))), xs ++ [y], rfl, (kp.trans k2).set hd2 (.inr hD), upd_same, ?_⟩
    have k3 : Kp [D] H2 (upd H2 D (.lst (xs ++ [y]))) := (Kp.refl [D] H2).set hd2 (.inl (by simp))
    rw [List.range_succ]
    exact Paired.snoc (Paired.mapP pr fun j x q => hP j _ x _ _ k3 (hP j _ x _ _ k2 q)) (hP i _ y _ _ k3 hy)
  · rintro σ H' ⟨v, xs, rfl, kp, hd, pr⟩
    exact hn v xs H' kp hd pr
theorem compIf_rangeK {lo : Int} {n : Nat} (p : Nat → Bool) (P : Nat → V → Hp → Prop) (hP : ∀ i, Firm (P i)) (hD : H D = none) (hz : n ≤ sizeLine)
    (ht : ∀ i H1 Q, i < n → Kp [] H H1 → (∀ H2, Kp [] H1 H2 → Q (p i) H2) → tt (some (.int (lo + (i : Nat))) :: r) H1 Q)
    (he : ∀ i H1 Q, i < n → p i = true → Kp [] H H1 → (∀ v H2, Kp [] H1 H2 → P i v H2 → Q v H2) → te (some (.int (lo + (i : Nat))) :: r) H1 Q)
    (hn : ∀ v xs H', Kp [] H H' → H' D = some (.lst xs) → Paired (fun i x => P i x H') ((List.range n).filter p) xs → E.nx (v :: r) H') : LoopR (Itr lo n) (gName 0) (tEmitIf D tt te) E (none :: r) (upd H D (.lst [])) := by
  refine loop_range (fun i σ H' => ∃ (v : Option V) (xs : List V), σ = v :: r ∧ Kp [] H H' ∧ H' D = some (.lst xs) ∧ Paired (fun i x => P i x H') ((List.range i).filter p) xs) ⟨none, [], rfl, (Kp.refl [] H).new hD, upd_same, .nil⟩ ?_ ?_
  · rintro i σ H' hi ⟨v, xs, rfl, kp, hd, pr⟩
    have hl : xs.length ≤ i := by
      have h1 := Paired.length pr
      have h2 := List.length_filter_le p (List.range i)
      rw [List.length_range] at h2
      omega
    refine ht i H' _ hi kp fun H1 k1 => ?_
    have hd1 : H1 D = some (.lst xs) := k1.old _ _ hd (by simp)
    have pr1 : Paired (fun i x => P i x H1) ((List.range i).filter p) xs := Paired.mapP pr fun j x q => hP j _ x _ _ k1 q
    by_cases q : p i = true
    · rw [q, if_pos rfl]
      refine he i H1 _ hi q (kp.trans k1) fun y H2 k2 hy => ?_
      have hd2 : H2 D = some (.lst xs) := k2.old _ _ hd1 (by simp)
      refine ⟨xs, by rw [hd2]; rfl, by omega, some (.int (lo + (i : Nat))), xs ++ [y], rfl, ((kp.trans k1).trans k2).set hd2 (.inr hD), upd_same, ?_⟩
      have k3 : Kp [D] H2 (upd H2 D (.lst (xs ++ [y]))) := (Kp.refl [D] H2).set hd2 (.inl (by simp))
      have e : (List.range (i + 1)).filter p = (List.range i).filter p ++ [i] := by rw [List.range_succ, List.filter_append]; simp [q]
      rw [e]
      exact Paired.snoc (Paired.mapP pr1 fun j x q => hP j _ x _ _ k3 (hP j _ x _ _ k2 q)) (hP i _ y _ _ k3 hy)
    · rw [if_neg q]
      have e : (List.range (i + 1)).filter p = (List.range i).filter p := by rw [List.range_succ, List.filter_append]; simp [q]
      refine ⟨some (.int (lo + (i : Nat))), xs, rfl, kp.trans k1, hd1, ?_⟩
      rw [e]; exact pr1
  · rintro σ H' ⟨v, xs, rfl, kp, hd, pr⟩
    exact hn v xs H' kp hd pr
theorem comp_listK {K : PySem.W.Frag} {a : Addr} {ys : List V} (P : V → V → Hp → Prop) (hP : ∀ y, Firm (P y)) (ha : H a = some (.lst ys)) (hD : H D = none) (hz : ys.length ≤ sizeLine)
    (he : ∀ (i : Nat) (y : V) (H1 : Hp) (Q : VK), ys[i]? = some y → Kp [] H H1 → (∀ v H2, Kp [] H1 H2 → P y v H2 → Q v H2) → te (some y :: r) H1 Q)
    (hn : ∀ v xs H', Kp [] H H' → H' D = some (.lst xs) → Paired (fun y x => P y x H') ys xs → E.nx (v :: r) H') : LoopR (Itl K a) (gName 0) (tEmit D te) E (none :: r) (upd H D (.lst [])) := by
  refine loop_list (xs := ys) (fun i σ H' => ∃ (v : Option V) (xs : List V), σ = v :: r ∧ Kp [] H H' ∧ H' D = some (.lst xs) ∧ Paired (fun y x => P y x H') (ys.take i) xs) ⟨none, [], rfl, (Kp.refl [] H).new hD, upd_same, .nil⟩ ?_ ?_ ?_
  · rintro i σ H' _ ⟨v, xs, rfl, kp, hd, pr⟩
    exact kp.old _ _ ha (by simp)
  · rintro i y σ H' hy ⟨v, xs, rfl, kp, hd, pr⟩
    have hi : i < ys.length := (List.getElem?_eq_some_iff.mp hy).1
    have hl : xs.length = i := by have := Paired.length pr; rw [List.length_take] at this; omega
    refine he i y H' _ hy kp fun x H2 k2 hx => ?_
    have hd2 : H2 D = some (.lst xs) := k2.old _ _ hd (by simp)
    refine ⟨xs, by rw [hd2]; rfl, by omega, some y, xs ++ [x], rfl, (kp.trans k2).set hd2 (.inr hD), upd_same, ?_⟩
    have k3 : Kp [D] H2 (upd H2 D (.lst (xs ++ [x]))) := (Kp.refl [D] H2).set hd2 (.inl (by simp))
    rw [List.take_succ, hy]
    exact Paired.snoc (Paired.mapP pr fun j x q => hP j _ x _ _ k3 (hP j _ x _ _ k2 q)) (hP y _ x _ _ k3 hx)
  · rintro σ H' ⟨v, xs, rfl, kp, hd, pr⟩
    rw [List.take_of_length_le (Nat.le_refl _)] at pr
    exact hn v xs H' kp hd pr
end
theorem Kp.setD {S : List Addr} {H H1 : Hp} (k : Kp S H H1) {b : Addr} {kvs : List (List Key × V)} {o : HO} (hb : H1 b = some (.dT kvs)) (h : b ∈ S ∨ H b = none) : Kp S H (upd H1 b o) :=
  ⟨fun c u e n => by
    have : c ≠ b := by
      rintro rfl
      rcases h with h | h
      · exact n h
      · rw [h] at e; cases e
    rw [upd_ne this]; exact k.old c u e n,
   fun c ys e => by
    have e1 := k.tup c ys e
    rw [upd_ne (ne_of e1 hb (by intro z; cases z))]; exact e1,
   fun c u e => by
    obtain ⟨o', e'⟩ := k.dom c u e
    by_cases q : c = b
    · subst q; exact ⟨o, upd_same⟩
    · exact ⟨o', by rw [upd_ne q]; exact e'⟩⟩
theorem sl_UK {X : Cx} {K : PySem.W.Frag} (hK : X.K = K) : SlR X (rSlU K) := by
  subst hK
  exact sl_U
end L2
namespace L2
open PySem PySem.Spec PyProof.Rows
/-! ### the whole of a tuple is itself -/
section
variable {prog : Program} {w : World} {A : Around} {E : Value → Shared → Prop} {s : Shared}
theorem tup_whole {t sl : Addr} {items : Array Value} {vl vu : Value} {lo hi : Option Int} {Q : Value → Shared → Prop} (ht : IsTup s.heap t items) (hs : s.heap.IsSliceOf sl vl vu .none) (pl : IsPart vl lo) (pu : IsPart vu hi)
    (hw : HT.sIx items.size 0 lo = 0 ∧ HT.sIx items.size items.size hi = items.size) (h : Q (.ref t) s) : wpAny (model prog w) A (getItem (.ref t) (.ref sl)) Q E s := by
  obtain ⟨os, hos, hcs, hds⟩ := id hs
  have hTs : s.TypeIs (.ref sl) "slice" := ⟨os, hos, hcs⟩
  unfold getItem
  try with_reducible refine wpAny_holding ?_
  first | refine wpAny_bind (wpAny_pure ?_) | skip
  refine wpAny_bind (wpAny_sequenceKey ht.typeIs (by decide) ?_)
  refine wpAny_bind (wpAny_callSpecial?_slot (name := Str.ofString "__getitem__") ht.typeIs PyProof.Rows.slot_tuple_getitem
    (wpAny_call_entry PyProof.Rows.slot_tuple_getitem ht.typeIs PyProof.Rows.entry_tuple_getitem ?_ (PyProof.Rows.args_tuple_getitem _ _)))
  show wpAny _ _ (Builtin.Tuple.tupleItemsOf (.ref t) >>= _) _ _ s
  refine wpAny_bind (tupleItemsOf_ ht ?_)
  refine wpAny_bind (wpAny_typeOf hTs ?_)
  rw [if_pos (by decide)]
  refine wpAny_bind (HT.sliceApplied_gen hs pl pu ?_)
  show wpAny _ _ (if (((HT.sIx items.size 0 lo : Nat) : Int) == 0 && (1 : Int) == 1 && (HT.sIx items.size items.size hi - HT.sIx items.size 0 lo) == items.size) = true then _ else _) _ _ s
  rw [if_pos (by rw [hw.1, hw.2]; simp)]
  unfold Builtin.Tuple.tupleIsExact
  exact wpAny_bind (wpAny_bind (wpAny_typeOf ht.typeIs (wpAny_pure (by rw [if_pos (by decide)]; exact wpAny_bind (wpAny_rule (wpAny_pure ⟨_, rfl, wpAny_pure h⟩))))))
end
section
variable {X : Cx}
def rSlW (K : PySem.W.Frag) : V → Option Int → Option Int → Hp → VK → Prop := fun x lo hi H Q => ∃ a xs, x = .ref a ∧ SqT K H a xs ∧ (HT.sIx xs.length 0 lo = 0 ∧ HT.sIx xs.length xs.length hi = xs.length) ∧ Q (.ref a) H
theorem sl_tupW : SlR X (rSlW X.K) := by
  intro pins s σ H x v vl vu lo hi sl Q I rx hs pl pu h
  obtain ⟨a, xs, rfl, hx, hw, q⟩ := h
  cases rx
  obtain ⟨its, r, ht, hz⟩ := I.tuple hx
  have hlen : its.toArray.size = xs.length := by rw [List.size_toArray]; exact r.length.symm
  refine ⟨"tuple", _, PyProof.Rows.slot_tuple_getitem.lookup, ht.typeIs, ?_⟩
  exact tup_whole ht hs pl pu (by rw [hlen]; exact hw) ⟨.ref a, H, I, rfl, q⟩
def rSlV (K : PySem.W.Frag) : V → Option Int → Option Int → Hp → VK → Prop := fun x lo hi H Q => rSlU K x lo hi H Q ∨ rSlW K x lo hi H Q
theorem sl_VK {K : PySem.W.Frag} (hK : X.K = K) : SlR X (rSlV K) := by
  subst hK
  exact SlR.or sl_U sl_tupW
/-- a tuple cut, whole or not -/
theorem rSlV.tup {K : PySem.W.Frag} {H : Hp} {Q : VK} {a : Addr} {xs : List V} {lo hi : Option Int} (e : H a = some (.tup xs)) (h : ∀ p H', H' p = some (.tup (cutV xs lo hi)) → Kp [] H H' → Q (.ref p) H') : rSlV K (.ref a) lo hi H Q := by
  by_cases w : HT.sIx xs.length 0 lo = 0 ∧ HT.sIx xs.length xs.length hi = xs.length
  · refine .inr ⟨a, xs, rfl, SqT.of e, w, h a H ?_ (Kp.refl [] H)⟩
    have : cutV xs lo hi = xs := by
      unfold cutV
      rw [w.1, w.2, List.drop_zero]
      exact List.take_of_length_le (by omega)
    rw [this]; exact e
  · exact .inl (rSlU.tup e w fun p hp => h p _ upd_same ((Kp.refl [] H).new hp))
end
end L2


/-! part L3s -/
set_option Elab.async false
set_option linter.all false
set_option maxRecDepth 100000
set_option maxHeartbeats 4000000
namespace L2
open PySem PySem.Spec PyProof.Rows
/-! ### zip of two texts -/
structure ZA (z TI TO i1 i2 : Addr) (f1 f2 : List Addr) : Prop where
  TIz : TI ≠ z
  TOz : TO ≠ z
  i1z : i1 ≠ z
  i2z : i2 ≠ z
  TITO : TI ≠ TO
  TIi1 : TI ≠ i1
  TIi2 : TI ≠ i2
  TOi1 : TO ≠ i1
  TOi2 : TO ≠ i2
  i12 : i1 ≠ i2
  zf1 : z ∉ f1
  zf2 : z ∉ f2
  Tf1 : TO ∉ f1
  Tf2 : TO ∉ f2
  jf2 : i1 ∉ f2
  jf1 : i2 ∉ f1
section
variable {prog : Program} {w : World} {A : Around} {E : Value → Shared → Prop} {s : Shared} {i1 i2 : Addr} {f1 f2 : List Addr} {n1 n2 : Nat} {P1 P2 : Nat → Value → Prop} {S1 S2 : Nat → Heap → Prop}
theorem dr_but {it : Addr} {fp : List Addr} {n : Nat} {P : Nat → Value → Prop} {St : Nat → Heap → Prop} (D : Draws prog w A it fp n P St) {i : Nat} {h h' : Heap} {c : Addr} (st : St i h) (hs : Heap.SameBut c h h') (hc : c ∉ fp) : St i h' :=
  D.frame i h h' st fun b hb o e => hs.extBut b o (fun x => hc (x ▸ hb)) e
theorem zipD_item {z TI TO : Addr} {k : Nat} {a b : Value} {Q : Value → Shared → Prop} (D1 : Draws prog w A i1 f1 n1 P1 S1) (D2 : Draws prog w A i2 f2 n2 P2 S2) (D : ZA z TI TO i1 i2 f1 f2)
    (hz : IsZip s.heap z TI TO .none) (hTI : IsPair s.heap TI (.ref i1) (.ref i2)) (hTO : IsPair s.heap TO a b) (h1 : S1 k s.heap) (h2 : S2 k s.heap) (l1 : k < n1) (l2 : k < n2)
    (hQ : ∀ x y h' tk, P1 k x → P2 k y → IsZip h' z TI TO (rawInt s.heap.objs.size) → IsPair h' TO x y → S1 (k + 1) h' → S2 (k + 1) h' → IsPair h' s.heap.objs.size x y → h'.objs.size = s.heap.objs.size + 1 →
      (∀ c o, c ≠ z → c ≠ TO → c ≠ i1 → c ≠ i2 → s.heap.get? c = some o → h'.get? c = some o) → Q (.ref s.heap.objs.size) { s with heap := h', toks := tk }) :
    wpAny (model prog w) A (Builtin.«zip.__next__» ⟨[.ref z], []⟩) (fun fin s' => ∃ v, fin = .done (.ret v) ∧ Q v s') E s := by
  show wpAny _ _ (field (.ref z) 2 >>= _) _ _ _
  refine wpAny_bind (wpAny_field hz rfl (x := .bool false) rfl ?_)
  show wpAny _ _ (field (.ref z) 3 >>= _) _ _ _
  refine wpAny_bind (wpAny_field hz rfl (x := .ref TI) rfl ?_)
  refine wpAny_bind (wpAny_seqItems hTI rfl ?_)
  show wpAny _ _ (Builtin.SmallTypes.ownedTupleIsFree (.ref z) >>= _) _ _ _
  refine wpAny_bind ?_
  unfold Builtin.SmallTypes.ownedTupleIsFree
  refine wpAny_bind (wpAny_field hz rfl (x := .none) rfl (wpAny_pure ?_))
  simp only [if_true]
  refine wpAny_bind (wpAny_rule ?_)
  refine wpAny_bind (wpAny_field hz rfl (x := .ref TO) rfl ?_)
  refine wpAny_bind (wpAny_setField_rec hz (by simp) fun h₁ hz₁ hs₁ => ?_)
  replace hz₁ : IsZip h₁ z TI TO .ellipsis := hz₁
  refine wpAny_bind ?_
  simp only [List.zipIdx_cons, List.zipIdx_nil, List.forIn_cons, List.forIn_nil]
  refine wpAny_bind (wpAny_bind (wpAny_onRaise ?_))
  show wpAny _ _ (Builtin.SmallTypes.nextOf (.ref i1) >>= _) _ _ _
  refine wpAny_bind (D1.item k _ _ _ l1 (dr_but D1 h1 hs₁ D.zf1) fun x h₂ tk₂ p1 h1₂ hs₂ => wpAny_pure ?_)
  have hTO₂ : IsPair h₂ TO a b := hs₂.extBut _ _ D.TOi1 (hs₁.extBut _ _ D.TOz hTO)
  refine wpAny_bind (wpAny_seqItems hTO₂ rfl ?_)
  refine wpAny_bind (wpAny_updateSeq_pair hTO₂ fun h₃ hTO₃ hs₃ => ?_)
  replace hTO₃ : IsPair h₃ TO x b := hTO₃
  refine wpAny_bind (wpAny_letGo (wpAny_pure ?_))
  refine wpAny_bind (wpAny_bind (wpAny_onRaise ?_))
  show wpAny _ _ (Builtin.SmallTypes.nextOf (.ref i2) >>= _) _ _ _
  refine wpAny_bind (D2.item k _ _ _ l2 (dr_but D2 (dr_but D2 (dr_but D2 h2 hs₁ D.zf2) hs₂ D.jf2) hs₃ D.Tf2) fun y h₄ tk₄ p2 h2₄ hs₄ => wpAny_pure ?_)
  have hTO₄ : IsPair h₄ TO x b := hs₄.extBut _ _ D.TOi2 hTO₃
  refine wpAny_bind (wpAny_seqItems hTO₄ rfl ?_)
  refine wpAny_bind (wpAny_updateSeq_pair hTO₄ fun h₅ hTO₅ hs₅ => ?_)
  replace hTO₅ : IsPair h₅ TO x y := hTO₅
  refine wpAny_bind (wpAny_letGo (wpAny_pure (wpAny_pure ?_)))
  refine wpAny_bind (wpAny_seqItems hTO₅ rfl ?_)
  refine wpAny_bind (wpAny_newTuple ?_)
  have hsz : h₅.objs.size = s.heap.objs.size := by rw [hs₅.1, hs₄.1, hs₃.1, hs₂.1, hs₁.1]
  have hz₅ : IsZip h₅ z TI TO .ellipsis := hs₅.extBut _ _ D.TOz.symm (hs₄.extBut _ _ D.i2z.symm (hs₃.extBut _ _ D.TOz.symm (hs₂.extBut _ _ D.i1z.symm hz₁)))
  have hk₅ : ∀ c o, c ≠ z → c ≠ TO → c ≠ i1 → c ≠ i2 → s.heap.get? c = some o → h₅.get? c = some o := fun c o c1 c2 c3 c4 e =>
    hs₅.extBut _ _ c2 (hs₄.extBut _ _ c4 (hs₃.extBut _ _ c2 (hs₂.extBut _ _ c3 (hs₁.extBut _ _ c1 e))))
  have h1₅ : S1 (k + 1) h₅ := dr_but D1 (dr_but D1 (dr_but D1 h1₂ hs₃ D.Tf1) hs₄ D.jf1) hs₅ D.Tf1
  have h2₅ : S2 (k + 1) h₅ := dr_but D2 h2₄ hs₅ D.Tf2
  have hzlt : z < h₅.objs.size := Heap.lt_size hz₅
  show wpAny _ _ (Builtin.SmallTypes.ownedTupleHandOut (.ref z) (.ref h₅.objs.size) >>= _) _ _ _
  refine wpAny_bind ?_
  unfold Builtin.SmallTypes.ownedTupleHandOut
  have hz₆ : IsZip (h₅.push { cls := .type "tuple", data := .seq #[x, y] }) z TI TO .ellipsis := Heap.get?_push_of_some _ hz₅
  refine wpAny_bind (wpAny_setField_rec hz₆ (by simp) fun h₇ hz₇ hs₇ => ?_)
  replace hz₇ : IsZip h₇ z TI TO (rawInt h₅.objs.size) := hz₇
  refine wpAny_setField_rec hz₇ (by simp) fun h₈ hz₈ hs₈ => ?_
  replace hz₈ : IsZip h₈ z TI TO (rawInt h₅.objs.size) := hz₈
  have up : ∀ c o, c ≠ z → h₅.get? c = some o → h₈.get? c = some o := fun c o c1 e => hs₈.extBut _ _ c1 (hs₇.extBut _ _ c1 (Heap.get?_push_of_some _ e))
  have hT₈ : IsPair h₈ h₅.objs.size x y := hs₈.extBut _ _ (Nat.ne_of_gt hzlt) (hs₇.extBut _ _ (Nat.ne_of_gt hzlt) (Heap.get?_push_size _ rfl))
  have hz8 : h₈.objs.size = h₅.objs.size + 1 := by rw [hs₈.1, hs₇.1, Heap.size_push]
  have h1₈ : S1 (k + 1) h₈ := D1.frame _ _ _ h1₅ fun c hc o e => up c o (fun q => D.zf1 (q ▸ hc)) e
  have h2₈ : S2 (k + 1) h₈ := D2.frame _ _ _ h2₅ fun c hc o e => up c o (fun q => D.zf2 (q ▸ hc)) e
  have hk₈ : ∀ c o, c ≠ z → c ≠ TO → c ≠ i1 → c ≠ i2 → s.heap.get? c = some o → h₈.get? c = some o := fun c o c1 c2 c3 c4 e => up c o c1 (hk₅ c o c1 c2 c3 c4 e)
  rw [hsz] at hz₈ hT₈ hz8
  refine wpAny_pure ⟨_, rfl, ?_⟩
  show Q (.ref h₅.objs.size) _
  rw [hsz]
  exact hQ x y h₈ _ p1 p2 hz₈ (up _ _ D.TOz hTO₅) h1₈ h2₈ hT₈ hz8 hk₈
theorem zipD_end {z TI TO : Addr} {k : Nat} {a b : Value} {Q : Fin → Shared → Prop} (D1 : Draws prog w A i1 f1 n1 P1 S1) (D2 : Draws prog w A i2 f2 n2 P2 S2) (D : ZA z TI TO i1 i2 f1 f2)
    (hz : IsZip s.heap z TI TO .none) (hTI : IsPair s.heap TI (.ref i1) (.ref i2)) (hTO : IsPair s.heap TO a b) (h1 : S1 k s.heap) (h2 : S2 k s.heap) (hend : k = n1 ∨ k < n1 ∧ k = n2)
    (hE : ∀ h' tk e, (∀ c o, c ≠ z → c ≠ TO → c ≠ i1 → c ≠ i2 → s.heap.get? c = some o → h'.get? c = some o) → (∃ o, h'.get? e = some o ∧ o.cls = .type "StopIteration") → E (.ref e) { s with heap := h', toks := tk }) :
    wpAny (model prog w) A (Builtin.«zip.__next__» ⟨[.ref z], []⟩) Q E s := by
  show wpAny _ _ (field (.ref z) 2 >>= _) _ _ _
  refine wpAny_bind (wpAny_field hz rfl (x := .bool false) rfl ?_)
  show wpAny _ _ (field (.ref z) 3 >>= _) _ _ _
  refine wpAny_bind (wpAny_field hz rfl (x := .ref TI) rfl ?_)
  refine wpAny_bind (wpAny_seqItems hTI rfl ?_)
  show wpAny _ _ (Builtin.SmallTypes.ownedTupleIsFree (.ref z) >>= _) _ _ _
  refine wpAny_bind ?_
  unfold Builtin.SmallTypes.ownedTupleIsFree
  refine wpAny_bind (wpAny_field hz rfl (x := .none) rfl (wpAny_pure ?_))
  simp only [if_true]
  refine wpAny_bind (wpAny_rule ?_)
  refine wpAny_bind (wpAny_field hz rfl (x := .ref TO) rfl ?_)
  refine wpAny_bind (wpAny_setField_rec hz (by simp) fun h₁ hz₁ hs₁ => ?_)
  replace hz₁ : IsZip h₁ z TI TO .ellipsis := hz₁
  refine wpAny_bind ?_
  simp only [List.zipIdx_cons, List.zipIdx_nil, List.forIn_cons, List.forIn_nil]
  refine wpAny_bind (wpAny_bind (wpAny_onRaise ?_))
  show wpAny _ _ (Builtin.SmallTypes.nextOf (.ref i1) >>= _) _ _ _
  rcases hend with e | ⟨lt, e⟩
  · subst e
    refine wpAny_bind (D1.done _ _ _ (dr_but D1 h1 hs₁ D.zf1) fun h₂ e hs₂ he => ?_)
    obtain ⟨oe, hoe, hce⟩ := he
    have hz₂ : IsZip h₂ z TI TO .ellipsis := hs₂ _ _ D.i1z.symm hz₁
    have hez : e ≠ z := fun x => by subst x; rw [hz₂] at hoe; cases hoe; simp at hce
    refine wpAny_setField_rec hz₂ (by simp) fun h₃ _ hs₃ => hE h₃ _ e (fun c o c1 _ c3 _ x => hs₃.extBut _ _ c1 (hs₂ _ _ c3 (hs₁.extBut _ _ c1 x))) ⟨oe, hs₃.extBut _ _ hez hoe, hce⟩
  · subst e
    refine wpAny_bind (D1.item k _ _ _ lt (dr_but D1 h1 hs₁ D.zf1) fun x h₂ tk₂ p1 h1₂ hs₂ => wpAny_pure ?_)
    have hTO₂ : IsPair h₂ TO a b := hs₂.extBut _ _ D.TOi1 (hs₁.extBut _ _ D.TOz hTO)
    refine wpAny_bind (wpAny_seqItems hTO₂ rfl ?_)
    refine wpAny_bind (wpAny_updateSeq_pair hTO₂ fun h₃ hTO₃ hs₃ => ?_)
    refine wpAny_bind (wpAny_letGo (wpAny_pure ?_))
    refine wpAny_bind (wpAny_bind (wpAny_onRaise ?_))
    show wpAny _ _ (Builtin.SmallTypes.nextOf (.ref i2) >>= _) _ _ _
    refine wpAny_bind (D2.done _ _ _ (dr_but D2 (dr_but D2 (dr_but D2 h2 hs₁ D.zf2) hs₂ D.jf2) hs₃ D.Tf2) fun h₄ e hs₄ he => ?_)
    obtain ⟨oe, hoe, hce⟩ := he
    have hz₄ : IsZip h₄ z TI TO .ellipsis := hs₄ _ _ D.i2z.symm (hs₃.extBut _ _ D.TOz.symm (hs₂.extBut _ _ D.i1z.symm hz₁))
    have hez : e ≠ z := fun x => by subst x; rw [hz₄] at hoe; cases hoe; simp at hce
    refine wpAny_setField_rec hz₄ (by simp) fun h₅ _ hs₅ => hE h₅ _ e (fun c o c1 c2 c3 c4 x => hs₅.extBut _ _ c1 (hs₄ _ _ c4 (hs₃.extBut _ _ c2 (hs₂.extBut _ _ c3 (hs₁.extBut _ _ c1 x))))) ⟨oe, hs₅.extBut _ _ hez hoe, hce⟩
theorem next_zipD_item {z TI TO : Addr} {k : Nat} {a b : Value} {Q : Option Value → Shared → Prop} (D1 : Draws prog w A.in1 i1 f1 n1 P1 S1) (D2 : Draws prog w A.in1 i2 f2 n2 P2 S2) (D : ZA z TI TO i1 i2 f1 f2)
    (hz : IsZip s.heap z TI TO .none) (hTI : IsPair s.heap TI (.ref i1) (.ref i2)) (hTO : IsPair s.heap TO a b) (h1 : S1 k s.heap) (h2 : S2 k s.heap) (l1 : k < n1) (l2 : k < n2)
    (hQ : ∀ x y h' tk, P1 k x → P2 k y → IsZip h' z TI TO (rawInt s.heap.objs.size) → IsPair h' TO x y → S1 (k + 1) h' → S2 (k + 1) h' → IsPair h' s.heap.objs.size x y → h'.objs.size = s.heap.objs.size + 1 →
      (∀ c o, c ≠ z → c ≠ TO → c ≠ i1 → c ≠ i2 → s.heap.get? c = some o → h'.get? c = some o) → Q (some (.ref s.heap.objs.size)) { s with heap := h', toks := tk }) :
    wpAny (model prog w) A (pyNext (.ref z)) Q E s := by
  have hT : s.TypeIs (.ref z) "zip" := ⟨_, hz, rfl⟩
  unfold pyNext
  exact wpAny_bind (wpAny_attempt (wpAny_callSpecial?_slot (name := Str.ofString "__next__") hT PySem.F.slot_zip_next
    (wpAny_call_entry PySem.F.slot_zip_next hT PySem.F.entry_zip_next
      (zipD_item D1 D2 D hz hTI hTO h1 h2 l1 l2 fun x y h' tk p1 p2 a1 a2 a3 a4 a5 a6 a7 => wpAny_pure (hQ x y h' tk p1 p2 a1 a2 a3 a4 a5 a6 a7)) (PySem.F.args_zip_next_1 _))))
theorem next_zipD_end {z TI TO : Addr} {k : Nat} {a b : Value} {Q : Option Value → Shared → Prop} (D1 : Draws prog w A.in1 i1 f1 n1 P1 S1) (D2 : Draws prog w A.in1 i2 f2 n2 P2 S2) (D : ZA z TI TO i1 i2 f1 f2)
    (hz : IsZip s.heap z TI TO .none) (hTI : IsPair s.heap TI (.ref i1) (.ref i2)) (hTO : IsPair s.heap TO a b) (h1 : S1 k s.heap) (h2 : S2 k s.heap) (hend : k = n1 ∨ k < n1 ∧ k = n2)
    (hQ : ∀ h' tk, (∀ c o, c ≠ z → c ≠ TO → c ≠ i1 → c ≠ i2 → s.heap.get? c = some o → h'.get? c = some o) → Q none { s with heap := h', toks := tk }) : wpAny (model prog w) A (pyNext (.ref z)) Q E s := by
  have hT : s.TypeIs (.ref z) "zip" := ⟨_, hz, rfl⟩
  unfold pyNext
  refine wpAny_bind (wpAny_attempt (wpAny_callSpecial?_slot (name := Str.ofString "__next__") hT PySem.F.slot_zip_next
    (wpAny_call_entry PySem.F.slot_zip_next hT PySem.F.entry_zip_next (zipD_end D1 D2 D hz hTI hTO h1 h2 hend fun h' tk e hk he => ?_) (PySem.F.args_zip_next_1 _))))
  obtain ⟨o, ho, hc⟩ := he
  refine wpAny_bind (wpAny_isInstance (T := "StopIteration") (b := true) ⟨o, ho, hc⟩ isSubtype_stop ?_)
  exact wpAny_pure (hQ _ _ hk)
theorem walks_zipD {z TI TO : Addr} (D1 : Draws prog w A.in1 i1 f1 n1 P1 S1) (D2 : Draws prog w A.in1 i2 f2 n2 P2 S2) (D : ZA z TI TO i1 i2 f1 f2) :
    WalksT prog w A z ([z, TI, TO, i1, i2] ++ f1 ++ f2) [z, TO, i1, i2] (min n1 n2) (fun i vals => ∃ x y, P1 i x ∧ P2 i y ∧ vals = #[x, y])
      (fun i h => IsZip h z TI TO .none ∧ IsPair h TI (.ref i1) (.ref i2) ∧ (∃ a b, IsPair h TO a b) ∧ S1 i h ∧ S2 i h)
      (fun i T h => IsZip h z TI TO (rawInt T) ∧ IsPair h TI (.ref i1) (.ref i2) ∧ (∃ a b, IsPair h TO a b) ∧ S1 (i + 1) h ∧ S2 (i + 1) h ∧ T ≠ z ∧ T ≠ TO ∧ T ≠ i1 ∧ T ≠ i2) where
  sub := fun c hc => by simp at hc ⊢; rcases hc with rfl | rfl | rfl | rfl <;> simp
  frame := fun i h h' hst hk => by
    obtain ⟨hz, hTI, ⟨a, b, hTO⟩, h1, h2⟩ := hst
    exact ⟨hk z (by simp) _ hz, hk TI (by simp) _ hTI, ⟨a, b, hk TO (by simp) _ hTO⟩, D1.frame _ _ _ h1 fun b hb o e => hk b (by simp [hb]) o e, D2.frame _ _ _ h2 fun b hb o e => hk b (by simp [hb]) o e⟩
  item := fun i s Q E hi hst hQ => by
    obtain ⟨hz, hTI, ⟨a, b, hTO⟩, h1, h2⟩ := hst
    refine next_zipD_item D1 D2 D hz hTI hTO h1 h2 (Nat.lt_of_lt_of_le hi (Nat.min_le_left ..)) (Nat.lt_of_lt_of_le hi (Nat.min_le_right ..)) fun x y h' tk p1 p2 a1 a2 a3 a4 a5 a6 hk => ?_
    have lt : ∀ {c o}, s.heap.get? c = some o → s.heap.objs.size ≠ c := fun e => Nat.ne_of_gt (Heap.lt_size e)
    obtain ⟨o1, e1⟩ := D1.live _ _ h1
    obtain ⟨o2, e2⟩ := D2.live _ _ h2
    exact hQ s.heap.objs.size #[x, y] h' tk ⟨x, y, p1, p2, rfl⟩ (Nat.le_refl _) ⟨_, a5, rfl, _, rfl⟩
      ⟨a1, hk _ _ D.TIz D.TITO D.TIi1 D.TIi2 hTI, ⟨_, _, a2⟩, a3, a4, lt hz, lt hTO, lt e1, lt e2⟩
      fun c o hc e => hk c o (fun x => hc (by simp [x])) (fun x => hc (by simp [x])) (fun x => hc (by simp [x])) (fun x => hc (by simp [x])) e
  go := fun elts k pos i T s Q E hm hQ => by
    obtain ⟨hz, hTI, ⟨a, b, hTO⟩, h1, h2, _⟩ := hm
    refine wpAny_letOwnedTupleGo_zip hz fun h' hz' hs' => hQ h' ⟨hz', hs'.extBut _ _ D.TIz hTI, ⟨a, b, hs'.extBut _ _ D.TOz hTO⟩, dr_but D1 h1 hs' D.zf1, dr_but D2 h2 hs' D.zf2⟩ fun c o hc e => hs'.extBut _ _ (fun x => hc (by simp [x])) e
  apart := fun i T h hm hT => by
    obtain ⟨_, _, _, _, _, t1, t2, t3, t4⟩ := hm
    simp at hT
    rcases hT with rfl | rfl | rfl | rfl
    · exact t1 rfl
    · exact t2 rfl
    · exact t3 rfl
    · exact t4 rfl
  done := fun s Q E hst hQ => by
    obtain ⟨hz, hTI, ⟨a, b, hTO⟩, h1, h2⟩ := hst
    exact next_zipD_end D1 D2 D hz hTI hTO h1 h2 (by omega) fun h' tk hk => hQ h' tk fun c o hc e =>
      hk c o (fun x => hc (by simp [x])) (fun x => hc (by simp [x])) (fun x => hc (by simp [x])) (fun x => hc (by simp [x])) e
  self := fun i s Q E hst hQ => wpAny_pyIter_zip hst.1 hQ
end
/-- zip of two texts is made -/
abbrev zsO (x : Str) (t : Tok) : Obj := { cls := .type (strIterType x), data := .fields #[.str x t, .int 0 0] }
abbrev zsH2 (h : Heap) (x y : Str) (t u : Tok) : Heap := (h.push (zsO x t)).push (zsO y u)
abbrev zsH3 (h : Heap) (x y : Str) (t u : Tok) : Heap := (zsH2 h x y t u).push { cls := .type "tuple", data := .seq #[.ref h.objs.size, .ref (h.push (zsO x t)).objs.size] }
abbrev zsH4 (h : Heap) (x y : Str) (t u : Tok) : Heap := (zsH3 h x y t u).push { cls := .type "tuple", data := .seq #[.none, .none] }
abbrev zsH5 (h : Heap) (x y : Str) (t u : Tok) : Heap := (zsH4 h x y t u).push { cls := .type "zip", data := .fields #[.none, .bool false, .bool false, .ref (zsH2 h x y t u).objs.size, .ref (zsH3 h x y t u).objs.size] }
theorem meets_zip_strs (x y : Str) (t u : Tok) :
    Meets (Builtin.«zip.__new__» ⟨[.type "zip", .str x t, .str y u], []⟩) (fun _ R s => R (.ok (.ret (.ref (zsH4 s.heap x y t u).objs.size))) { s with heap := zsH5 s.heap x y t u }) :=
  .of_wp fun prog w A R s h => by
    obtain ⟨hp, g, d, tk, os⟩ := s
    have hsub := sub_zip
    wp_walk using wpAny_pyIter_strU
    exact ⟨_, rfl, h⟩
theorem call_zip_strs {prog : Program} {w : World} {A : Around} {E : Value → Shared → Prop} {s : Shared} {x y : Str} {t u : Tok} {Q : Value → Shared → Prop}
    (h : ∀ h', IsZip h' (s.heap.objs.size + 4) (s.heap.objs.size + 2) (s.heap.objs.size + 3) .none → IsPair h' (s.heap.objs.size + 2) (.ref s.heap.objs.size) (.ref (s.heap.objs.size + 1)) →
      IsPair h' (s.heap.objs.size + 3) .none .none → h'.IsStrIter s.heap.objs.size (strIterType x) x t 0 → h'.IsStrIter (s.heap.objs.size + 1) (strIterType y) y u 0 →
      (∀ c o, s.heap.get? c = some o → h'.get? c = some o) → Q (.ref (s.heap.objs.size + 4)) { s with heap := h' }) :
    wpAny (model prog w) A (call (.type "zip") [.str x t, .str y u]) Q E s := by
  refine callType_new PySem.F.called_zip (by decide) (PySem.F.typeCall_zip_2 _ _) (PySem.F.newCall_zip_2 _ _) (fun obj => PySem.F.args_object_init_3 obj _ _) PySem.F.entry_zip_new
    (meets_zip_strs x y t u) ?_
  have z1 : (s.heap.push (zsO x t)).objs.size = s.heap.objs.size + 1 := Heap.size_push ..
  have z2 : (zsH2 s.heap x y t u).objs.size = s.heap.objs.size + 2 := by rw [Heap.size_push, z1]
  have z3 : (zsH3 s.heap x y t u).objs.size = s.heap.objs.size + 3 := by rw [Heap.size_push, z2]
  have z4 : (zsH4 s.heap x y t u).objs.size = s.heap.objs.size + 4 := by rw [Heap.size_push, z3]
  have g5 : (zsH5 s.heap x y t u).get? (zsH4 s.heap x y t u).objs.size = some _ := Heap.get?_push_size _ rfl
  have g4 : (zsH5 s.heap x y t u).get? (zsH3 s.heap x y t u).objs.size = some _ := Heap.get?_push_of_some _ (Heap.get?_push_size _ rfl)
  have g3 : (zsH5 s.heap x y t u).get? (zsH2 s.heap x y t u).objs.size = some _ := Heap.get?_push_of_some _ (Heap.get?_push_of_some _ (Heap.get?_push_size _ rfl))
  have g2 : (zsH5 s.heap x y t u).get? (s.heap.push (zsO x t)).objs.size = some _ := Heap.get?_push_of_some _ (Heap.get?_push_of_some _ (Heap.get?_push_of_some _ (Heap.get?_push_size _ rfl)))
  have g1 : (zsH5 s.heap x y t u).get? s.heap.objs.size = some _ := Heap.get?_push_of_some _ (Heap.get?_push_of_some _ (Heap.get?_push_of_some _ (Heap.get?_push_of_some _ (Heap.get?_push_size _ rfl))))
  show _ ∧ _
  rw [z2, z3, z4] at g5
  rw [z1, z2] at g3
  rw [z3] at g4
  rw [z1] at g2
  rw [z4]
  exact ⟨⟨_, g5, rfl⟩, h _ g5 g3 g4 ⟨_, g1, rfl, rfl⟩ ⟨_, g2, rfl, rfl⟩ fun c o x =>
    Heap.get?_push_of_some _ (Heap.get?_push_of_some _ (Heap.get?_push_of_some _ (Heap.get?_push_of_some _ (Heap.get?_push_of_some _ x))))⟩
def zipV (x y : Str) (i : Nat) : List V := [.str ⟨#[x.cps.toList.getD i 0]⟩, .str ⟨#[y.cps.toList.getD i 0]⟩]
section
variable {X : Cx}
theorem drS {P : Program} {w : World} {A : Around} (hA : A.handled = none) (it : Addr) (z : Str) (t : Tok) : Draws P w A.in1 it [it] z.cps.size (fun i v => ∃ c u, z.cps[i]? = some c ∧ v = .str ⟨#[c]⟩ u) (fun i h => h.IsStrIter it (strIterType z) z t i) := by
  unfold strIterType
  split
  · exact Draws.strAscii (A := A.in1) (show A.in1.handled = none from hA) it z t
  · exact Draws.strWide (A := A.in1) (show A.in1.handled = none from hA) it z t
def iZipS (ta : TA) : TI := fun σ H R => ta σ H fun vs H1 => ∃ x y, vs = [.str x, .str y] ∧ R (ItT (min x.length y.length) (zipV x y)) H1
theorem turn_zipS {P : Program} {w : World} {K : PySem.W.Frag} {elts : List Expr} {kk : Nat} {pos : Pos} (x y : Str) (t u : Tok) (z TI TO i1 i2 : Addr) (D : ZA z TI TO i1 i2 [i1] [i2]) :
    Turn P w K (.Tuple elts kk pos) (ItT (min x.length y.length) (zipV x y)) ([z, TI, TO, i1, i2] ++ [i1] ++ [i2]) z (fun i h => IsZip h z TI TO .none ∧ IsPair h TI (.ref i1) (.ref i2) ∧ (∃ a b, IsPair h TO a b) ∧ h.IsStrIter i1 (strIterType x) x t i ∧ h.IsStrIter i2 (strIterType y) y u i) := by
  refine turn_WT (wr := [z, TO, i1, i2]) (fun A hA => walks_zipD (drS hA i1 x t) (drS hA i2 y u) D) (by simp) (fun i h st b hb => ?_) (fun A i s Q E st q => wpAny_pyIter_zip st.1 q) (fun i vs hp => ?_) (fun i => by show 2 ≤ sizeLine; decide)
  · obtain ⟨hz, hTI, ⟨a, c, hTO⟩, ⟨o1, e1, _, d1⟩, ⟨o2, e2, _, d2⟩⟩ := st
    simp at hb
    have hb : b = z ∨ b = TI ∨ b = TO ∨ b = i1 ∨ b = i2 := by
      rcases hb with q | q | q | q | q | q | q
      · exact .inl q
      · exact .inr (.inl q)
      · exact .inr (.inr (.inl q))
      · exact .inr (.inr (.inr (.inl q)))
      · exact .inr (.inr (.inr (.inr q)))
      · exact .inr (.inr (.inr (.inl q)))
      · exact .inr (.inr (.inr (.inr q)))
    rcases hb with rfl | rfl | rfl | rfl | rfl
    · exact ⟨_, hz, fun v q => by cases q⟩
    · exact ⟨_, hTI, fun v q => by cases q⟩
    · exact ⟨_, hTO, fun v q => by cases q⟩
    · exact ⟨o1, e1, fun v q => by rw [d1] at q; cases q⟩
    · exact ⟨o2, e2, fun v q => by rw [d2] at q; cases q⟩
  · obtain ⟨_, _, ⟨c, q, hc, rfl⟩, ⟨c', q', hc', rfl⟩, rfl⟩ := hp
    have e1 : x.cps.toList.getD i 0 = c := by
      have : x.cps.toList[i]? = some c := by simpa using hc
      rw [List.getD_eq_getElem?_getD, this]; rfl
    have e2 : y.cps.toList.getD i 0 = c' := by
      have : y.cps.toList[i]? = some c' := by simpa using hc'
      rw [List.getD_eq_getElem?_getD, this]; rfl
    refine .cons ⟨q, ?_⟩ (.cons ⟨q', ?_⟩ .nil)
    · rw [e1]
    · rw [e2]
theorem pi_zip {a b : Expr} {ta : TA} {p pos tpos : Pos} {elts : List Expr} {kk : Nat} (hg : Gl X "zip") (hm : X.mg "zip" = none) (ha : PA X [a, b] ta) (hs : starEach [a, b] X.env = [(false, eval a X.env), (false, eval b X.env)] := by rfl) (hs2 : starEach [b] X.env = [(false, eval b X.env)] := by rfl) :
    PI X (.Tuple elts kk tpos) (.Call (.Name "zip" p) [a, b] [] pos) (iZipS ta) := by
  intro pins s σ H R I h
  refine Call_ (ld_blt I hg hm bt_zip (PyProof.Rows.callWith_type1 (thn (ha pos pins s σ H _ I h) fun us s1 ⟨vs, H1, I1, r1, q1⟩ => ?_) (by rw [hs, hs2]) (by rw [hs2]; rfl)))
  obtain ⟨x, y, e, q⟩ := q1
  subst e
  obtain ⟨u1, u2, rfl, ⟨t, rfl⟩, ⟨t', rfl⟩⟩ := vals2 r1
  refine call_zip_strs fun h' hz hTI hTO h1 h2 hk => ?_
  have I2 : Inv X pins σ H1 { s1 with heap := h' } := I1.kept (t' := s1.toks) hk
  have D : ZA (s1.heap.objs.size + 4) (s1.heap.objs.size + 2) (s1.heap.objs.size + 3) s1.heap.objs.size (s1.heap.objs.size + 1) [s1.heap.objs.size] [s1.heap.objs.size + 1] := by
    constructor <;> simp <;> omega
  refine wpAny_pyIter_zip hz ⟨s1.heap.objs.size + 4, _, _, _, H1, rfl, I2, turn_zipS x y t t' _ _ _ _ _ D, ⟨hz, hTI, ⟨_, _, hTO⟩, h1, h2⟩, fun b hb => ?_, q⟩
  have hb' : s1.heap.objs.size ≤ b := by
    simp at hb
    rcases hb with rfl | rfl | rfl | rfl | rfl | rfl | rfl <;> first | exact Nat.le_refl _ | exact Nat.le_add_right _ _
  obtain ⟨f0, f1, f2, f3, f4, f5⟩ := I1.fpOk (H' := H1) hb' (I1.hok.fresh hb')
  exact ⟨f0, f1, f2, f3, f4, f5⟩
theorem qpi_zip {a b : Expr} {ta : TA} {p pos tpos : Pos} {elts : List Expr} {kk : Nat} (hg : Gl X "zip") (hm : X.mg "zip" = none) (ha : QA X [a, b] ta) (hs : starEach [a, b] X.env = [(false, eval a X.env), (false, eval b X.env)] := by rfl) (hs2 : starEach [b] X.env = [(false, eval b X.env)] := by rfl) :
    QI X (.Tuple elts kk tpos) (.Call (.Name "zip" p) [a, b] [] pos) (iZipS ta) := ⟨pi_zip hg hm ha.h hs hs2⟩
end
end L2


/-! part L3t -/
set_option Elab.async false
set_option linter.all false
set_option maxRecDepth 100000
set_option maxHeartbeats 4000000
namespace L2
open PySem PySem.Spec PyProof.Rows
/-! ### find and index of one sign in a text, text * int, < of lists of ints -/
/-- the place of a sign in a text, -1 where it isn't there -/
def plc (l : List Nat) (c : Nat) : Int := if c ∈ l then (l.idxOf c : Int) else -1
theorem occ_plc (x : Str) (c : Nat) : (match Builtin.Str.occurrences x ⟨#[c]⟩ 0 x.length 1 with | i :: _ => (i : Int) | [] => -1) = plc x.cps.toList c := by
  rcases StrLaws.occ_head x ⟨#[c]⟩ 1 (Nat.le_refl _) with ⟨e, hn⟩ | ⟨i, r, e, hi, hk⟩
  · rw [e]
    unfold plc
    rw [if_neg]
    intro hm
    obtain ⟨i, hi⟩ := List.mem_iff_getElem?.mp hm
    exact hn i ((StrLaws.subAt_one x c i).mpr hi)
  · rw [e]
    have h1 := (StrLaws.subAt_one x c i).mp hi
    have hm : c ∈ x.cps.toList := List.mem_iff_getElem?.mpr ⟨i, h1⟩
    unfold plc
    rw [if_pos hm]
    have hlt : x.cps.toList.idxOf c < x.cps.toList.length := List.idxOf_lt_length_of_mem hm
    have h2 : x.cps.toList[x.cps.toList.idxOf c]? = some c := by rw [List.getElem?_eq_getElem hlt, List.getElem_idxOf]
    have a1 : ¬ x.cps.toList.idxOf c < i := fun h => hk _ h ((StrLaws.subAt_one x c _).mpr h2)
    have a2 : ¬ i < x.cps.toList.idxOf c := fun h => by
      have h3 := List.not_of_lt_findIdx (p := (· == c)) (xs := x.cps.toList) (i := i) h
      obtain ⟨hl, h4⟩ := List.getElem?_eq_some_iff.mp h1
      simp [h4] at h3
    show (i : Int) = _
    omega
theorem occ_idx (x : Str) (c : Nat) (hm : c ∈ x.cps.toList) : ∃ i r, Builtin.Str.occurrences x ⟨#[c]⟩ 0 x.length 1 = i :: r ∧ (i : Int) = plc x.cps.toList c := by
  have h := occ_plc x c
  cases e : Builtin.Str.occurrences x ⟨#[c]⟩ 0 x.length 1 with
  | nil =>
    rw [e] at h
    unfold plc at h
    rw [if_pos hm] at h
    simp at h
    try omega
  | cons i r => rw [e] at h; exact ⟨i, r, rfl, h⟩
section
variable {X : Cx}
def rFindU : V → List V → Hp → VK → Prop := fun x vs H Q => match x, vs with
  | .str z, [.str y] => ∃ c, y = ⟨#[c]⟩ ∧ Q (.int (plc z.cps.toList c)) H
  | _, _ => False
theorem rFindU_str (z y : Str) (H : Hp) (Q : VK) : rFindU (.str z) [.str y] H Q = (∃ c, y = ⟨#[c]⟩ ∧ Q (.int (plc z.cps.toList c)) H) := rfl
theorem mt_findU : MtM X "str.find" rFindU := by
  intro pins s σ H x vs v us Q I rx rv h
  unfold rFindU at h
  split at h
  · rename_i z y
    obtain ⟨c, rfl, q⟩ := h
    obtain ⟨t, rfl⟩ := rx
    obtain ⟨u, rfl, ⟨t', rfl⟩⟩ := rv.one
    refine call_gives PySem.F.slot_str_find (typeIs_str s z t) PySem.F.entry_str_find (PySem.F.args_str_find_2 _ _) (gives_str_find z _ t t') ?_
    refine (congrArg (fun j => (Made.int j).post (EP X pins σ Q) s) (occ_plc z c)).mpr ?_
    exact ⟨.int _, H, I.tok _, ⟨_, rfl⟩, q⟩
  · exact h.elim
def rIndexU : V → List V → Hp → VK → Prop := fun x vs H Q => match x, vs with
  | .str z, [.str y] => ∃ c, y = ⟨#[c]⟩ ∧ c ∈ z.cps.toList ∧ Q (.int (plc z.cps.toList c)) H
  | _, _ => False
theorem rIndexU_str (z y : Str) (H : Hp) (Q : VK) : rIndexU (.str z) [.str y] H Q = (∃ c, y = ⟨#[c]⟩ ∧ c ∈ z.cps.toList ∧ Q (.int (plc z.cps.toList c)) H) := rfl
theorem mt_indexU : MtM X "str.index" rIndexU := by
  intro pins s σ H x vs v us Q I rx rv h
  unfold rIndexU at h
  split at h
  · rename_i z y
    obtain ⟨c, rfl, hm, q⟩ := h
    obtain ⟨t, rfl⟩ := rx
    obtain ⟨u, rfl, ⟨t', rfl⟩⟩ := rv.one
    obtain ⟨i, r, e, ei⟩ := occ_idx z c hm
    refine call_gives PySem.F.slot_str_index (typeIs_str s z t) PySem.F.entry_str_index (PySem.F.args_str_index_2 _ _) (gives_str_index z _ t t' i r e) ?_
    rw [ei]
    exact ⟨.int _, H, I.tok _, ⟨_, rfl⟩, q⟩
  · exact h.elim
/-- text * int, the int at least two -/
def rMulS : R2 := fun x y H Q => match x, y with
  | .str z, .int n => 2 ≤ n ∧ z.length ≠ 0 ∧ (z.length : Int) * n ≤ 1000000 ∧ Str.length ⟨(List.replicate n.toNat z.cps).foldl (· ++ ·) #[]⟩ ≤ sizeLine ∧ Q (.str ⟨(List.replicate n.toNat z.cps).foldl (· ++ ·) #[]⟩) H
  | _, _ => False
theorem rMulS_str (z : Str) (n : Int) (H : Hp) (Q : VK) : rMulS (.str z) (.int n) H Q = (2 ≤ n ∧ z.length ≠ 0 ∧ (z.length : Int) * n ≤ 1000000 ∧ Str.length ⟨(List.replicate n.toNat z.cps).foldl (· ++ ·) #[]⟩ ≤ sizeLine ∧ Q (.str ⟨(List.replicate n.toNat z.cps).foldl (· ++ ·) #[]⟩) H) := rfl
theorem op_mulS : OpR X (binaryOp .Mult) rMulS := by
  intro pins s σ H x y v u Q I rx ry h
  unfold rMulS at h
  split at h
  · rename_i z n
    obtain ⟨h1, h2, h3, h5, q⟩ := h
    obtain ⟨t, rfl⟩ := rx
    obtain ⟨t', rfl⟩ := ry
    have hn : (n == 1 || z.length == 0) = false := by simp; omega
    have hle : n ≤ 1000000 := by
      have : (1 : Int) ≤ z.length := by omega
      have := Int.mul_le_mul_of_nonneg_right this (show 0 ≤ n by omega)
      omega
    refine PySem.P.mul_str (by simp; omega) (fun _ _ => ?_) (fun _ _ => ?_) ?_
    · have : (9 : Int) * 1000000 ≤ (2 ^ 63 - 1) / n := by
        refine (Int.le_ediv_iff_mul_le (by omega)).mpr ?_
        have := Int.mul_le_mul_of_nonneg_left hle (show (0 : Int) ≤ 9 * 1000000 by omega)
        omega
      have h4 : (z.length : Int) ≤ 1000000 := by
        have := Int.mul_le_mul_of_nonneg_left (show (1 : Int) ≤ n by omega) (show (0 : Int) ≤ z.length by omega)
        omega
      omega
    · unfold Builtin.Str.tooLong
      have : z.length * n.toNat ≤ 1000000 := by
        have e : ((z.length * n.toNat : Nat) : Int) = z.length * n := by rw [Int.natCast_mul, Int.toNat_of_nonneg (by omega)]
        omega
      have hz : 1000000 ≤ sizeLine := by decide
      simp
      omega
    · rw [if_neg (by omega), if_neg (by rw [hn]; decide)]
      exact ⟨h5, .str _, H, I.tok _, ⟨_, rfl⟩, q⟩
  · exact h.elim
end
end L2


/-! part L3u -/
set_option Elab.async false
set_option linter.all false
set_option maxRecDepth 100000
set_option maxHeartbeats 4000000
namespace HT
open PySem PyProof.Rows
section
open PySem.SeqAt
open PySem.AutoSeq1 (wpAny_loadPart')
open PySem.MeetsSeq PySem.MeetsSeq2 PySem.MeetsSeq3
theorem drop_cons_getD {ns : List Int} {i : Nat} (h : i < ns.length) : ns.drop i = ns.getD i 0 :: ns.drop (i + 1) := by
  rw [List.drop_eq_getElem_cons h, List.getD_eq_getElem?_getD, List.getElem?_eq_getElem h]; rfl
theorem lt_loopI (l b : Addr) (items items2 : Array Value) (n n2 : Nat) (dd dd2 : Option Addr) (sl sl2 : Array (Option Value)) (hsz : items.size = items2.size) (ns ms : List Int) (hi : IntsAre items.toList ns) (hj : IntsAre items2.toList ms) (k : Nat) :
    ∀ i : Nat, items.size - i = k → i ≤ items.size → Meets (Builtin.«list.__eq__.loop» ⟨[.ref l, .ref b, rawInt i, rawInt 0], []⟩)
      (fun A R s => s.heap.get? l = some { cls := .type "list", dict := dd, data := .seq items n, slots := sl } ∧ s.heap.get? b = some { cls := .type "list", dict := dd2, data := .seq items2 n2, slots := sl2 } ∧
        R (.ok (.ret (.bool (lexLt (ns.drop i) (ms.drop i))))) s) := by
  have z1 : items.size = ns.length := by rw [← hi.length]; simp
  have z2 : items2.size = ms.length := by rw [← hj.length]; simp
  induction k with
  | zero =>
    intro i hk hle prog w A R s h
    obtain ⟨hp, g, d, tk, os⟩ := s; obtain ⟨hl, hb, h⟩ := h
    wp_walk using wpAny_loadPart' hl, wpAny_loadPart' hb
    have hi1 : items[((i : Nat) : Int).toNat]? = none := by simp; omega
    have hi2 : items2[((i : Nat) : Int).toNat]? = none := by simp; omega
    have hd : ns.drop i = [] := by simp; omega
    have hd2 : ms.drop i = [] := by simp; omega
    rw [hd, hd2, lexLt_nil_nil] at h
    rw [hi1, hi2]
    wp_walk using wpAny_loadPart' hl, wpAny_loadPart' hb
    show R (.ok (.ret (.bool (decide (items.size < items2.size))))) _
    rw [hsz]
    simpa using h
  | succ k ih =>
    intro i hk hle prog w A R s h
    obtain ⟨hp, g, d, tk, os⟩ := s; obtain ⟨hl, hb, h⟩ := h
    wp_walk using wpAny_loadPart' hl, wpAny_loadPart' hb
    have hlt : i < items.size := by omega
    have hlt2 : i < items2.size := by omega
    obtain ⟨t, e1⟩ := IntsAre.int_at hi i items[i] (by simp [hlt])
    obtain ⟨u, e2⟩ := IntsAre.int_at hj i items2[i] (by simp [hlt2])
    have hi1 : items[((i : Nat) : Int).toNat]? = some (.int (ns.getD i 0) t) := by rw [← e1]; simp [hlt]
    have hi2 : items2[((i : Nat) : Int).toNat]? = some (.int (ms.getD i 0) u) := by rw [← e2]; simp [hlt2]
    have hc : ((i : Int) + 1) = ((i + 1 : Nat) : Int) := by push_cast; rfl
    rw [drop_cons_getD (by omega), drop_cons_getD (ns := ms) (by omega), lexLt_cons] at h
    rw [hi1, hi2]
    generalize ns.getD i 0 = a at *
    generalize ms.getD i 0 = c at *
    obtain ⟨e, he, hiff⟩ := eqAt_int A.in1 ⟨hp, g, d, tk, os⟩ a t c u
    refine wpAny_bind (he prog w _ _ ?_)
    cases e with
    | true =>
      rw [if_pos (hiff.mp rfl)] at h
      wp_walk
      rw [hc]
      exact ⟨plainId_quiet plain_eq_loop _, codeAny_builtin entry_eq_loop (by
        rw [Around.under_plainId plain_eq_loop _]
        exact ih (i + 1) (by omega) (by omega) prog w A R _ ⟨hl, hb, h⟩)⟩
    | false =>
      rw [if_neg (fun q => absurd (hiff.mpr q) Bool.false_ne_true)] at h
      have hri := rcLt_int A.in1 ⟨hp, g, d, tk, os⟩ a t c u prog w
      wp_walk using wpAny_loadPart' hl, wpAny_loadPart' hb
      rw [hi1, hi2]
      wp_walk using hri
      simpa using h
theorem list_lt_ints (l b : Addr) (items items2 : Array Value) (n n2 : Nat) (dd dd2 : Option Addr) (sl sl2 : Array (Option Value)) (hsz : items.size = items2.size) (ns ms : List Int) (hi : IntsAre items.toList ns) (hj : IntsAre items2.toList ms) :
    Meets (Builtin.«list.__lt__» ⟨[.ref l, .ref b], []⟩)
      (fun A R s => s.heap.get? l = some { cls := .type "list", dict := dd, data := .seq items n, slots := sl } ∧ s.heap.get? b = some { cls := .type "list", dict := dd2, data := .seq items2 n2, slots := sl2 } ∧
        R (.ok (.ret (.bool (lexLt ns ms)))) s) := by
  intro prog w A R s h
  obtain ⟨hp, g, d, tk, os⟩ := s; obtain ⟨hl, hb, h⟩ := h
  have f3 := AutoSeq1.sub_list_list
  wp_walk using wpAny_loadPart' hl, wpAny_loadPart' hb
  exact ⟨plainId_quiet plain_eq_loop _, codeAny_builtin entry_eq_loop (by
    rw [Around.under_plainId plain_eq_loop _]
    exact lt_loopI l b items items2 n n2 dd dd2 sl sl2 hsz ns ms hi hj _ 0 rfl (Nat.zero_le _) prog w A R _ ⟨hl, hb, by simpa using h⟩)⟩
end
section
variable {prog : Program} {w : World} {A : Around} {E : Value → Shared → Prop} {s : Shared}
theorem lt_listInts {l b : Addr} {items items2 : Array Value} {ns ms : List Int} {Q : Value → Shared → Prop} (hl : s.heap.IsList l items) (hb : s.heap.IsList b items2) (hi : IntsAre items.toList ns) (hj : IntsAre items2.toList ms)
    (hsz : items.size = items2.size) (hu : A.units < cLine) (h : Q (.bool (lexLt ns ms)) s) : wpAny (model prog w) A (compareOp .Lt (.ref l) (.ref b)) Q E s := by
  obtain ⟨⟨cls, dd, data, sl⟩, ho, hc, n, hd⟩ := id hl
  obtain ⟨⟨cls2, dd2, data2, sl2⟩, ho2, hc2, n2, hd2⟩ := id hb
  simp only at hc hd hc2 hd2
  subst hc hd hc2 hd2
  exact richCompare_meets_room (op := .Lt) ⟨_, ho, rfl⟩ ⟨_, ho2, rfl⟩ PySem.F.slot_list_lt PySem.F.entry_list_lt (PySem.F.args_list_lt_2 _ _) (list_lt_ints l b items items2 n n2 dd dd2 sl sl2 hsz ns ms hi hj)
    ⟨ho, ho2, show Value.bool (lexLt ns ms) ≠ Value.notImplemented ∧ Q (.bool (lexLt ns ms)) s from ⟨(fun x => nomatch x), h⟩⟩ hu
end
end HT
namespace L2
open PySem PySem.Spec PyProof.Rows
section
variable {X : Cx}
/-- < of two lists of ints of one length -/
def rLtL : R2 := fun x y H Q => ∃ a b ns ms, x = .ref a ∧ y = .ref b ∧ H a = some (.lst (ns.map V.int)) ∧ H b = some (.lst (ms.map V.int)) ∧ ns.length = ms.length ∧ Q (.bl (HT.lexLt ns ms)) H
theorem op_ltL (hu : X.A.units < cLine) : OpR X (compareOp .Lt) rLtL := by
  intro pins s σ H x y v u Q I rx ry h
  obtain ⟨a, b, ns, ms, rfl, rfl, ha, hb, hz, q⟩ := h
  cases rx
  cases ry
  obtain ⟨its, r1, p1, _⟩ := I.list (SqL.of ha)
  obtain ⟨its2, r2, p2, _⟩ := I.list (SqL.of hb)
  have i1 : IntsAre its.toArray.toList ns := intsAre_of r1
  have i2 : IntsAre its2.toArray.toList ms := intsAre_of r2
  have z1 := r1.length
  have z2 := r2.length
  exact HT.lt_listInts p1.isList p2.isList i1 i2 (by simp at z1 z2 ⊢; omega) hu ⟨.bl (HT.lexLt ns ms), H, I, rfl, q⟩
end
end L2


/-! part L3v -/
set_option Elab.async false
set_option linter.all false
set_option maxRecDepth 100000
set_option maxHeartbeats 4000000
namespace L2
open PySem PySem.Spec PyProof.Rows
/-! ### len(set(text)) -/
def stpS (σ : List Str) (v : Str) : List Str := if σ.any (· == v) then σ else σ ++ [v]
def fmS (val : Nat → Str) (i : Nat) : List Str := ((List.range i).map val).foldl stpS []
theorem fmS_succ (val : Nat → Str) (i : Nat) : fmS val (i + 1) = stpS (fmS val i) (val i) := by
  unfold fmS; rw [List.range_succ, List.map_append, List.foldl_append]; rfl
theorem fmS_mem (val : Nat → Str) : ∀ (i : Nat) (k : Str), k ∈ fmS val i ↔ ∃ j, j < i ∧ val j = k
  | 0, k => by simp [fmS]
  | i + 1, k => by
    rw [fmS_succ]
    unfold stpS
    have ih := fmS_mem val i
    split
    · rename_i h
      rw [List.any_eq_true] at h
      obtain ⟨y, hy, e⟩ := h
      have e : y = val i := by simpa using e
      subst e
      rw [ih]
      constructor
      · rintro ⟨j, hj, e⟩
        exact ⟨j, by omega, e⟩
      · rintro ⟨j, hj, e'⟩
        by_cases hji : j = i
        · rw [hji] at e'
          rw [← e']
          exact (ih _).mp hy
        · exact ⟨j, by omega, e'⟩
    · rw [List.mem_append, ih, List.mem_singleton]
      constructor
      · rintro (⟨j, hj, e⟩ | e)
        · exact ⟨j, by omega, e⟩
        · exact ⟨i, by omega, e.symm⟩
      · rintro ⟨j, hj, e⟩
        by_cases hji : j = i
        · subst hji
          exact .inr e.symm
        · exact .inl ⟨j, by omega, e⟩
theorem fmS_le (val : Nat → Str) : ∀ i, (fmS val i).length ≤ i
  | 0 => by simp [fmS]
  | i + 1 => by
    rw [fmS_succ]
    unfold stpS
    have := fmS_le val i
    split
    · omega
    · simp; omega
theorem fmS_full (val : Nat → Str) : ∀ i, ((fmS val i).length < i ↔ ∃ j k, j < k ∧ k < i ∧ val j = val k)
  | 0 => by simp [fmS]
  | i + 1 => by
    have ih := fmS_full val i
    have hm := fmS_mem val i (val i)
    have hle := fmS_le val i
    rw [fmS_succ]
    unfold stpS
    split
    · rename_i h
      rw [List.any_eq_true] at h
      obtain ⟨y, hy, e⟩ := h
      have e : y = val i := by simpa using e
      subst e
      obtain ⟨j, hj, e⟩ := hm.mp hy
      constructor
      · intro _
        exact ⟨j, i, hj, by omega, e⟩
      · intro _
        omega
    · rename_i h
      have hn : val i ∉ fmS val i := fun q => h (by rw [List.any_eq_true]; exact ⟨_, q, by simp⟩)
      rw [List.length_append, List.length_singleton]
      constructor
      · intro q
        obtain ⟨j, k, a, b, c⟩ := ih.mp (by omega)
        exact ⟨j, k, a, by omega, c⟩
      · rintro ⟨j, k, a, b, c⟩
        by_cases hk : k = i
        · subst hk
          exact absurd (hm.mpr ⟨j, a, c⟩) hn
        · have := ih.mpr ⟨j, k, a, by omega, c⟩
          omega
theorem stp_any (σ : List Str) (v k : Str) : (stpS σ v).any (· == k) = (σ.any (· == k) || decide (k = v)) := by
  unfold stpS
  by_cases h : σ.any (· == v) = true
  · rw [if_pos h]
    by_cases e : k = v
    · subst e; rw [h]; simp
    · simp [e]
  · rw [if_neg h, List.any_append]
    by_cases e : k = v
    · subst e; simp
    · have hb : (v == k) = false := by simpa [beq_iff_eq] using (fun h' : v = k => e h'.symm)
      simp [hb, e]
theorem stp_length (σ : List Str) (v : Str) : (stpS σ v).length = if σ.any (· == v) then σ.length else σ.length + 1 := by
  unfold stpS; split <;> simp
section
variable {prog : Program} {w : World} {A : Around} {R : Result → Shared → Prop} {I : Addr} {fp wr : List Addr} {G : Array GenState → Array GenState → Prop} {n : Nat} {P : Nat → Value → Prop} {St : Nat → Shared → Prop}
theorem isStr_is (x : Str) (t : Tok) : (strKind prog w).is x (.str x t) = true := by
  show Value.isStrOf x (.str x t) = true
  simp [Value.isStrOf]
theorem set_loopStr (W : WalksS prog w A.in1 I fp wr G n P St) (S : Addr) (hSf : S ∉ fp)
    (val : Nat → Str) (hval : ∀ i v, P i v → ∃ t, v = .str (val i) t) (hb : n + 1 < scanBound) :
    ∀ (k i : Nat) (s : Shared), n - i = k → i ≤ n → St i s →
      s.heap.SetOf (strKind prog w) S (fun k' => (fmS val i).any (· == k')) (fmS val i).length →
      (∀ s', Moved (S :: wr) G s s' → s'.heap.SetOf (strKind prog w) S (fun k' => (fmS val n).any (· == k')) (fmS val n).length → R (.ok (.ret .none)) s') →
      codeAny (model prog w) A (.builtin "set.update.loop" ⟨[.ref S, .ref I], []⟩) R s := by
  have hSw : S ∉ wr := fun h => hSf (W.sub _ h)
  have hsub : ∀ b ∈ wr, b ∈ S :: wr := fun b hb => List.mem_cons_of_mem _ hb
  intro k
  induction k with
  | zero =>
    intro i s hk hi hst hS hR
    have hin : i = n := by omega
    subst hin
    refine codeAny_builtin PyProof.Rows.F.entry_set_update_loop ?_
    rw [Around.under_plainId PyProof.Rows.F.plain_set_update_loop _]
    show wpAny _ A.in1 (pyNext (.ref I) >>= _) _ _ s
    refine wpAny_bind (W.done s _ _ hst fun s' hm => ?_)
    show wpAny _ A.in1 (ret Value.none) _ _ s'
    exact wpAny_pure (hR s' (hm.mono hsub) (by
      obtain ⟨o, es, ep, t, ho, rest⟩ := hS
      exact ⟨o, es, ep, t, hm.heap S _ hSw ho, rest⟩))
  | succ k ih =>
    intro i s hk hi hst hS hR
    have hlt : i < n := by omega
    refine codeAny_builtin PyProof.Rows.F.entry_set_update_loop ?_
    rw [Around.under_plainId PyProof.Rows.F.plain_set_update_loop _]
    show wpAny _ A.in1 (pyNext (.ref I) >>= _) _ _ s
    refine wpAny_bind (W.item i s _ _ hlt hst fun v s' hP hst' hm => ?_)
    obtain ⟨t, rfl⟩ := hval i v hP
    have hS' : s'.heap.SetOf (strKind prog w) S (fun k' => (fmS val i).any (· == k')) (fmS val i).length := by
      obtain ⟨o, es, ep, tb, ho, rest⟩ := hS
      exact ⟨o, es, ep, tb, hm.heap S _ hSw ho, rest⟩
    show wpAny _ A.in1 (holding [Value.str (val i) t] (setAdd S (.str (val i) t)) >>= _) _ _ s'
    refine wpAny_bind (wpAny_holding ?_)
    unfold setAdd
    refine wpAny_holding ?_
    refine wpAny_bind ((strKind prog w).pyHash (k := val i) (isStr_is _ _) ?_)
    have hroom : (fmS val i).length + 1 < scanBound := by have := fmS_le val i; omega
    refine wpAny_setAddHashed_of (knd := strKind prog w) (s := { s' with toks := s'.toks + 1 }) (isStr_is _ _) rfl hS' hroom fun h' hsb hS2 => ?_
    have hSi : h'.SetOf (strKind prog w) S (fun k' => (fmS val (i + 1)).any (· == k')) (fmS val (i + 1)).length :=
      SetOf_congr hS2 (fun k' => by rw [fmS_succ, stp_any]) (by rw [fmS_succ, stp_length])
    refine wpAny_pure ⟨plainId_quiet PyProof.Rows.F.plain_set_update_loop _, ih (i + 1) _ (by omega) hlt (W.frame _ s' _ _ hst' (Nat.le_succ _) fun b hb o e => ?_) hSi fun s'' hm'' hS'' => ?_⟩
    · rw [hsb.2 b (fun h : b = S => hSf (by rw [← h]; exact hb))]; exact e
    · refine hR s'' (Moved.trans W.gtrans ((hm.mono hsub).then_heap (Nat.le_succ _) fun b o hb e => ?_) hm'') hS''
      rw [hsb.2 b (fun h : b = S => hb (by rw [h]; exact List.mem_cons_self))]; exact e
end
def sgnV (x : Str) (i : Nat) : Str := ⟨#[x.cps.toList.getD i 0]⟩
section
variable {prog : Program} {w : World} {A : Around} {E : Value → Shared → Prop} {s : Shared}
theorem wkS (hh : A.handled = none) (I : Addr) (x : Str) (t : Tok) : Walks prog w A I [I] [I] x.cps.size (SignAt x) (fun i h => h.IsStrIter I (strIterType x) x t i) := by
  unfold strIterType
  split
  · exact Walks.strAscii hh I x t
  · exact Walks.strWide hh I x t
theorem call_set_str {x : Str} {t : Tok} {Q : Value → Shared → Prop} (hh : A.handled = none) (hb : x.length + 1 < scanBound)
    (h : ∀ (h' : Heap) (tk : Nat), h'.SetOf (strKind prog w) s.heap.objs.size (fun k' => (fmS (sgnV x) x.length).any (· == k')) (fmS (sgnV x) x.length).length →
      (∀ b o, b < s.heap.objs.size → s.heap.get? b = some o → h'.get? b = some o) → Q (.ref s.heap.objs.size) { s with heap := h', toks := tk }) :
    wpAny (model prog w) A (call (.type "set") [.str x t]) Q E s := by
  obtain ⟨c, tl, hmro⟩ := PySem.F.called_set.mro
  have hmade := PySem.F.called_set.made
  have hsub := PySem.F.called_set.sub
  refine wpAny_call (codeAny_of_tree ?_)
  show wpAny _ _ (callAny (.type "set") _) _ _ _
  refine wpAny_pure ⟨Code.quiet_builtin _ (by decide +kernel), codeAny_builtin PySem.F.entry_type_call ?_⟩
  rw [Around.under_plain (weight_type_call_type "set" [.str x t] []) rfl]
  have h1 := PySem.F.called_set.notType
  have h2 := PySem.F.called_set.canCreate
  have hct := PySem.F.typeCall_set_1 (.str x t)
  repeat (any_goals (first | assumption | wp_step))
  refine codeAny_mono (code_set_new_1 (.str x t) (E := E) (Q₁ := fun obj s₁ => ∃ led : Bool, obj = .ref s.heap.objs.size ∧ s₁ = { s with heap := s.heap.push { cls := .type "set", dict := none, data := .set #[] 0 (.fresh 0 0 led) } }) fun led => ⟨led, rfl, rfl⟩) fun r s₁ hr => ?_
  cases r with
  | error e => exact hr
  | ok fl =>
    cases fl with
    | ret obj =>
      obtain ⟨led, rfl, rfl⟩ := hr
      have hS : (s.heap.push { cls := .type "set", dict := none, data := .set #[] 0 (.fresh 0 0 led) }).get? s.heap.objs.size = some { cls := .type "set", dict := none, data := .set #[] 0 (.fresh 0 0 led) } := Heap.get?_push_size _ rfl
      have hT : Shared.TypeIs { s with heap := s.heap.push { cls := .type "set", dict := none, data := .set #[] 0 (.fresh 0 0 led) } } (.ref s.heap.objs.size) "set" := ⟨_, hS, rfl⟩
      have hli := PySem.F.called_set.init.lookup
      have hbi := PySem.F.called_set.init.bind (.ref s.heap.objs.size)
      repeat (any_goals (first | assumption | wp_step))
      refine codeAny_mono (codeAny_call_builtin (R := wants (fun r s₂ => r = .none ∧ ∃ h' tk, s₂ = { s with heap := h', toks := tk } ∧
          h'.SetOf (strKind prog w) s.heap.objs.size (fun k' => (fmS (sgnV x) x.length).any (· == k')) (fmS (sgnV x) x.length).length ∧
          (∀ b o, b < s.heap.objs.size → s.heap.get? b = some o → h'.get? b = some o)) E) PySem.F.called_set.init.plain PySem.F.entry_set_init (check_set_init_1 hT ?_)) fun r₂ s₂ hr₂ => ?_
      · have hsls := PySem.F.sub_str_set
        have hslf := PySem.F.sub_str_frozenset
        have hne : (Value.type "str" == Value.type "dict") = false := by decide
        unfold Builtin.«set.__init__» noKeywords Builtin.Frozenset.updateFrom
        generalize hPI : pyIter = PI
        wp_walk
        subst hPI
        refine wpAny_pyIter_strU ?_
        refine wpAny_bind (wpAny_runValue ?_)
        have hh3 : A.in1.in1.in1.handled = none := by simp [hh]
        have hSf : s.heap.objs.size ∉ [(s.heap.push { cls := .type "set", dict := none, data := .set #[] 0 (.fresh 0 0 led) }).objs.size] := by
          rw [Heap.size_push]; simp only [List.mem_singleton]
          exact Nat.ne_of_lt (Nat.lt_succ_self _)
        have hval : ∀ (i : Nat) (v : Value), SignAt x i v → ∃ t, v = .str (sgnV x i) t := by
          rintro i v ⟨c, u, hc, rfl⟩
          refine ⟨u, ?_⟩
          have e1 : x.cps.toList.getD i 0 = c := by
            have : x.cps.toList[i]? = some c := by simpa using hc
            rw [List.getD_eq_getElem?_getD, this]; rfl
          unfold sgnV
          rw [e1]
        refine set_loopStr ((wkS hh3 _ x t).toS) s.heap.objs.size
          hSf (sgnV x) hval hb (x.length - 0) 0 _ (by rfl) (Nat.zero_le _)
          ⟨_, Heap.get?_push_size _ rfl, rfl, rfl⟩ ?hS0 ?hR
        case hS0 =>
          have hget : ((s.heap.push { cls := .type "set", dict := none, data := .set #[] 0 (.fresh 0 0 led) }).push { cls := .type (strIterType x), data := .fields #[.str x t, .int 0 0] }).get? s.heap.objs.size
              = some { cls := .type "set", dict := none, data := .set #[] 0 (.fresh 0 0 led) } := Heap.get?_push_of_some _ hS
          exact SetOf_congr ((setObjOf_fresh (knd := strKind prog w) led).setOf hget (by unfold scanBound; omega)) (fun _ => rfl) rfl
        case hR =>
          intro s' hm hS'
          obtain ⟨h', g', d', tk', os'⟩ := s'
          have eg : g' = s.gens := hm.gens
          have ed : d' = s.drawn := hm.drawn
          have eo : os' = s.os := hm.os
          subst eg; subst ed; subst eo
          show wpAny _ _ _ _ _ _
          refine wpAny_pure ?_
          show wpAny _ _ (ret Value.none) _ _ _
          refine wpAny_pure ⟨rfl, h', tk', rfl, hS', fun b o hb e => ?_⟩
          have hb1 : b ≠ s.heap.objs.size := Nat.ne_of_lt hb
          have hb2 : b ≠ (s.heap.push { cls := .type "set", dict := none, data := .set #[] 0 (.fresh 0 0 led) }).objs.size := by
            rw [Heap.size_push]; exact Nat.ne_of_lt (Nat.lt_succ_of_lt hb)
          exact hm.heap b o (by simp only [List.mem_cons, List.mem_singleton, List.not_mem_nil, or_false, not_or]; exact ⟨hb1, hb2⟩) (Heap.get?_push_of_some _ (Heap.get?_push_of_some _ e))
      · cases r₂ with
        | error e => exact hr₂
        | ok fl₂ =>
          cases fl₂ with
          | ret r =>
            obtain ⟨rfl, h', tk, rfl, hS', hk'⟩ := hr₂
            repeat (any_goals (first | assumption | wp_step))
            exact h _ _ hS' hk'
          | _ => exact hr₂.elim
    | _ => exact hr.elim
end
section
variable {X : Cx}
def rLenSet : List V → Hp → VK → Prop := fun vs H Q => match vs with
  | [.str z] => z.length + 1 < scanBound ∧ Q (.int ((fmS (sgnV z) z.length).length : Nat)) H
  | _ => False
theorem rLenSet_str (z : Str) (H : Hp) (Q : VK) : rLenSet [.str z] H Q = (z.length + 1 < scanBound ∧ Q (.int ((fmS (sgnV z) z.length).length : Nat)) H) := rfl
def tLenSet (ta : TE) : TE := tCB rLenSet (tCons ta tNil)
theorem pe_lenSet {a : Expr} {ta : TE} {p1 p2 q1 q2 : Pos} (hc : X.calm = true) (hg : Gl X "len") (hm : X.mg "len" = none) (hg2 : Gl X "set") (hm2 : X.mg "set" = none) (ha : PE X a ta)
    (hs : starEach [(.Call (.Name "set" p2) [a] [] q2)] X.env = [(false, eval (.Call (.Name "set" p2) [a] [] q2) X.env)] := by rfl) (hs2 : starEach [a] X.env = [(false, eval a X.env)] := by rfl) :
    PE X (.Call (.Name "len" p1) [.Call (.Name "set" p2) [a] [] q2] [] q1) (tLenSet ta) := by
  intro pins s σ H Q I h
  refine wpAny_Call_Name_kw (ld_blt I hg hm bt_len ?_)
  refine PyProof.Rows.callWith_builtin1 ?_ hs rfl
  rw [hs]
  show wpAny _ _ (spliced ((false, eval (.Call (.Name "set" p2) [a] [] q2) X.env) :: [])) _ _ s
  refine Calls.spliced_cons ?_
  refine wpAny_Call_Name_kw (ld_blt I hg2 hm2 bt_set ?_)
  have hA : PA X [a] (tCons ta tNil) := pa_cons ha pa_nil hs2
  refine PyProof.Rows.callWith_type1 (thn (hA q2 pins s σ H (fun vs H1 => rLenSet vs H1 Q) I h) fun us s1 ⟨vs, H1, I1, r1, q1⟩ => ?_) hs2 rfl
  replace q1 : rLenSet vs H1 Q := q1
  unfold rLenSet at q1
  split at q1
  · rename_i z
    obtain ⟨hz, q⟩ := q1
    obtain ⟨u, rfl, ⟨t, rfl⟩⟩ := vals1 r1
    refine call_set_str (I1.ok.hd hc) hz fun h' tk hS hk => Calls.spliced_nil ?_
    obtain ⟨o, es, ep, tb, ho, hex, hd, hel, hmem, hbb, hf, hn⟩ := hS
    refine call_len_set ho hex hd hf (by have := fmS_le (sgnV z) z.length; unfold scanBound at hz; omega) ?_
    have I2 : Inv X pins σ H1 { s1 with heap := h', toks := tk + 1 + 1 } := I1.kept (t' := tk + 1 + 1) fun b o e => hk b o (Heap.lt_size e) e
    rw [hn]
    exact ⟨.int _, H1, I2, ⟨_, rfl⟩, q⟩
  · exact q1.elim
theorem qpe_lenSet {a : Expr} {ta : TE} {p1 p2 q1 q2 : Pos} (hc : X.calm = true) (hg : Gl X "len") (hm : X.mg "len" = none) (hg2 : Gl X "set") (hm2 : X.mg "set" = none) (ha : QE X a ta)
    (hs : starEach [(.Call (.Name "set" p2) [a] [] q2)] X.env = [(false, eval (.Call (.Name "set" p2) [a] [] q2) X.env)] := by rfl) (hs2 : starEach [a] X.env = [(false, eval a X.env)] := by rfl) :
    QE X (.Call (.Name "len" p1) [.Call (.Name "set" p2) [a] [] q2] [] q1) (tLenSet ta) := ⟨pe_lenSet hc hg hm hg2 hm2 ha.h hs hs2⟩
end
end L2


/-! part L4a -/
set_option Elab.async false
set_option linter.all false
set_option maxRecDepth 100000
set_option maxHeartbeats 4000000
namespace L2
open PySem PySem.Spec PyProof.Rows
/-! ### errors: the making of one whose class has its own __init__ -/
section
variable {prog : Program} {w : World} {A : Around} {E : Value → Shared → Prop} {h : Heap} {g : Array GenState} {d : Drawn} {t : Nat} {os : OsState}
variable {nm q : Str} {C N : Addr} {bs bm bmB : List Value} {hdct : Bool} {sn : List Str} {sub : List Value} {ab : Bool} {col : Option Bool} {dd : Option Addr} {k0 k1 k2 k3 k5 : Option Value} {B newId initId : String}
theorem exc_initT (F : ExcBaseFacts B newId initId bmB) (T : OwnTail h bmB bm) {mN : Str → Option Value} {rest : List Value} {fI : Addr} {oI : Obj} {Q : Fin → Shared → Prop}
    (hC : h.get? C = some (excClassObj nm q C N bs bm hdct sn sub ab col dd k0 k1 k2 k3 k5 newId)) (hn : h.Ns N mN) (hi : mN "__init__" = some (.ref fI)) (hfI : h.get? fI = some oI) (hfc : oI.cls = .type "function")
    (hq : wpAny (model prog w) A (call (.ref fI) (.ref (h.objs.size + 1) :: rest)) (fun r s' => r = .none ∧ Q (.done (.ret (.ref (h.objs.size + 1)))) s') E
      ⟨(h.push { cls := .type "tuple", data := .seq rest.toArray }).push { cls := .ref C, data := .fields #[.ref h.objs.size, .none, .none, .none, .bool false, .none] }, g, d, t, os⟩) (hrest : rest.length ≤ sizeLine) :
    wpAny (model prog w) A (Builtin.«type.__call__» ⟨.ref C :: rest, []⟩) Q E ⟨h, g, d, t, os⟩ := by
  repeat (first | with_reducible refine wpAny_loadPart_at hC ?_ | with_reducible refine wpAny_madeBy_exc hC ?_ | wp_step)
  refine codeAny_call_builtin_code (Code.quiet_builtin _ F.quiet) (wpAny_check_new_subT F T hC ?_)
  refine codeAny_exc_new_subT F T hC ?_ hrest
  show wpAny _ _ _ _ _ _
  have kp : ∀ b o, h.get? b = some o → ((h.push { cls := .type "tuple", data := .seq rest.toArray }).push { cls := .ref C, data := .fields #[.ref h.objs.size, .none, .none, .none, .bool false, .none] }).get? b = some o := fun b o e => Heap.get?_push_of_some _ (Heap.get?_push_of_some _ e)
  have hget : ((h.push { cls := .type "tuple", data := .seq rest.toArray }).push
      { cls := .ref C, data := .fields #[.ref h.objs.size, .none, .none, .none, .bool false, .none] }).get? (h.objs.size + 1) = some
      { cls := .ref C, data := .fields #[.ref h.objs.size, .none, .none, .none, .bool false, .none] } := by heap_get
  have hcC : (Value.ref C :: bm).contains (.ref C) = true := by simp
  unfold isInstance
  repeat (first | with_reducible refine wpAny_loadPart_at hget ?_ | (with_reducible refine wpAny_isSubtype_exc (kp _ _ hC) ?_; rw [hcC]) | wp_step)
  show wpAny _ _ (typeLookup (.ref C) _) _ _ _
  refine wpAny_typeLookup_tail (kp _ _ hC) (hn.keeps kp) (T.keeps kp) F.mroIs F.init.lookup ?_
  rw [hi]
  refine wpAny_holding (wpAny_bind ?_)
  unfold bindSpecial
  refine wpAny_bind (wpAny_typeOf (T := "function") ⟨_, kp _ _ hfI, hfc⟩ ?_)
  rw [if_pos (by decide)]
  refine wpAny_pure (wpAny_bind (wpAny_mono hq (fun r s' hr => ?_) fun _ _ x => x))
  obtain ⟨rfl, hQ⟩ := hr
  wp_walk
  exact hQ
theorem call_exc_initT (F : ExcBaseFacts B newId initId bmB) (T : OwnTail h bmB bm) {mN : Str → Option Value} {rest : List Value} {fI : Addr} {oI : Obj} {Q : Value → Shared → Prop}
    (hC : h.get? C = some (excClassObj nm q C N bs bm hdct sn sub ab col dd k0 k1 k2 k3 k5 newId)) (hn : h.Ns N mN) (hi : mN "__init__" = some (.ref fI)) (hfI : h.get? fI = some oI) (hfc : oI.cls = .type "function")
    (hq : wpAny (model prog w) (A.under (.builtin "type.__call__" ⟨.ref C :: rest, []⟩)) (call (.ref fI) (.ref (h.objs.size + 1) :: rest)) (fun r s' => r = .none ∧ Q (.ref (h.objs.size + 1)) s') E
      ⟨(h.push { cls := .type "tuple", data := .seq rest.toArray }).push { cls := .ref C, data := .fields #[.ref h.objs.size, .none, .none, .none, .bool false, .none] }, g, d, t, os⟩) (hrest : rest.length ≤ sizeLine) :
    wpAny (model prog w) A (call (.ref C) rest) Q E ⟨h, g, d, t, os⟩ := by
  have f1 := tc_lookup
  have f2 := tc_bind (.ref C)
  have hT : (⟨h, g, d, t, os⟩ : Shared).TypeIs (.ref C) "type" := ⟨_, hC, rfl⟩
  refine wpAny_call (codeAny_of_tree ?_)
  show wpAny _ _ (callAny (.ref C) _) _ _ _
  repeat (any_goals (first | assumption | with_reducible refine wpAny_loadPart_at hC ?_ | wp_step))
  refine ⟨rfl, ?_⟩
  exact codeAny_call_builtin_at (Code.quiet_builtin _ (by decide +kernel)) entry_typeCall (wpAny_check_type_call_sub hC (exc_initT F T hC hn hi hfI hfc hq hrest))
end
end L2


/-! part L4b -/
set_option Elab.async false
set_option linter.all false
set_option maxRecDepth 100000
set_option maxHeartbeats 4000000
namespace L2
open PySem PySem.Spec PyProof.Rows
open Builtin Builtin.ObjectAttr
/-! ### errors: a field set on one -/
section
variable {prog : Program} {w : World} {A : Around} {E : Value → Shared → Prop} {h : Heap} {g : Array GenState} {d : Drawn} {t : Nat} {os : OsState}
variable {nm q : Str} {C D N x : Addr} {bs bmB : List Value} {sn : List Str} {sub : List Value} {ab : Bool} {col : Option Bool} {dd : Option Addr} {k0 k1 k2 k3 k5 : Option Value} {newId name : Str} {nid sa owner B : String} {v : Value}
/-- what the class and those above it have by the name -/
def Finds (M : Model) (h : Heap) (C : Addr) (name : Str) (r : Option Value) : Prop := ∀ (A : Around) (E : Value → Shared → Prop) (g : Array GenState) (d : Drawn) (t : Nat) (os : OsState) (Q : Option Value → Shared → Prop), Q r ⟨h, g, d, t, os⟩ → wpAny M A (typeLookup (.ref C) name) Q E ⟨h, g, d, t, os⟩
theorem Finds.go {M : Model} {r : Option Value} {Q : Option Value → Shared → Prop} (f : Finds M h C name r) (q : Q r ⟨h, g, d, t, os⟩) : wpAny M A (typeLookup (.ref C) name) Q E ⟨h, g, d, t, os⟩ := f _ _ _ _ _ _ _ q
theorem Finds.of {M : Model} {K : PySem.W.Frag} {r : Option Value} (X : K.In h) (e : PySem.W.findIn K (.ref C) name = some r) : Finds M h C name r := fun A E g d t os Q q => (PySem.W.looks_findIn X e).at q
theorem exc_store {tk : Tok} {o : Obj} {Q : Fin → Shared → Prop} (SF : StoreFacts B bmB sa owner) (hC : h.get? C = some (excClassObj nm q C N bs (.ref D :: bmB) true sn sub ab col dd k0 k1 k2 k3 k5 nid))
    (hl : Finds (model prog w) h C name none) (hx : h.get? x = some o) (hc : o.cls = .ref C) (hnc : ∀ c, o.data ≠ .cls c) (hdn : o.dict = none)
    (hq : ∀ h' tk', h'.get? x = some { o with dict := some h.objs.size } → h'.Ns1 h.objs.size (fun y => if y = name then some v else none) → (∀ b u, b ≠ x → h.get? b = some u → h'.get? b = some u) → Q (.done (.ret .none)) ⟨h', g, d, tk', os⟩) :
    wpAny (model prog w) A (Builtin.«object.__setattr__» ⟨[.ref x, .str name tk, v], []⟩) Q E ⟨h, g, d, t, os⟩ := by
  have hpass := SF.passes (.ref x)
  unfold Builtin.«object.__setattr__»
  repeat (first | rw [refuse_eq] | (rw [refuseLoop_ref, refuseLoop_ref, hpass]) | (with_reducible refine wpAny_loadPart_at hx ?_; rw [hc]) | with_reducible refine wpAny_mroOf_exc hC ?_ | (with_reducible refine Finds.go hl ?_) | wp_step)
  rw [hdn, if_neg (by simp [typeHasDict])]
  split
  · rename_i hcd
    cases hcd
  split
  · rename_i c hcd
    exact absurd hcd (hnc c)
  · have hx₁ : (h.push { cls := .type "dict", data := .dict #[] }).get? x = some o := Heap.get?_push_of_some _ hx
    have hxs : x ≠ h.objs.size := Nat.ne_of_lt (Heap.lt_size hx)
    refine wpAny_bind (wpAny_alloc' ?_)
    refine wpAny_bind (wpAny_update' hx₁ ?_)
    refine wpAny_pure ?_
    have hgd : ((h.push { cls := .type "dict", data := .dict #[] }).update x fun o => { cls := o.cls, dict := some h.objs.size, data := o.data, slots := o.slots }).get? h.objs.size
        = some { cls := .type "dict", data := .dict #[] } :=
      (Heap.get?_update_ne _ _ _ _ hxs.symm).trans (Heap.get?_push_at rfl rfl)
    have hnd : ((h.push { cls := .type "dict", data := .dict #[] }).update x fun o => { cls := o.cls, dict := some h.objs.size, data := o.data, slots := o.slots }).Ns h.objs.size (fun _ => none) :=
      ⟨_, #[], _, hgd, rfl, fun e he => absurd he (by simp), fun _ => rfl⟩
    show wpAny _ _ (storeInDict h.objs.size (.str name tk) name v) _ _ _
    unfold storeInDict newKeyGuard
    refine wpAny_bind (wpAny_pure (wpAny_bind (wpAny_nsSet1 (Heap.Ns1.of_empty hnd) fun h' hn' hs => ?_)))
    obtain ⟨oD, esD, epD, hoD, hdD, hcD⟩ := hn'.count (Within.cons name v Within.nil)
    refine wpAny_bind (wpAny_lookBehind hoD (by rw [hdD]; exact pastItsLine_dict (Nat.le_trans hcD (by rw [List.length_cons, List.length_nil, sizeLine_eq]; omega))) ?_)
    wp_walk
    refine hq h' _ ?_ hn' fun b ob hbx hb => ?_
    · refine (hs.2 x hxs).trans (Heap.get?_update_self _ hx₁ ?_)
      have hfr := (Heap.get?_some_iff.mp hx).2
      obtain ⟨oc, od, odt, osl⟩ := o
      cases odt <;> first | rfl | exact hfr
    · exact (hs.2 b (Nat.ne_of_lt (Heap.lt_size hb))).trans ((Heap.get?_update_ne _ _ _ _ hbx).trans (Heap.get?_push_of_some _ hb))
theorem exc_check_sa {M : Model} {o : Obj} {nameV : Value} {Q : Unit → Shared → Prop} (SF : StoreFacts B bmB sa owner)
    (hC : h.get? C = some (excClassObj nm q C N bs (.ref D :: bmB) true sn sub ab col dd k0 k1 k2 k3 k5 nid)) (hx : h.get? x = some o) (hc : o.cls = .ref C) (hq : Q () ⟨h, g, d, t, os⟩) :
    wpAny M A (checkBuiltinCall sa ⟨[.ref x, nameV, v], []⟩) Q E ⟨h, g, d, t, os⟩ := by
  have hcB : (Value.ref C :: .ref D :: bmB).contains (.type owner) = true := by rw [List.contains_cons, List.contains_cons, SF.hasOwner, Bool.or_true, Bool.or_true]
  have ha := SF.args (.ref x) nameV v
  simp only [checkBuiltinCall, SF.kind, SF.split]
  refine wpAny_bind ?_
  · unfold isInstance
    repeat (first | (with_reducible refine wpAny_loadPart_at hx ?_; rw [hc]) | (with_reducible refine wpAny_isSubtype_exc hC ?_; rw [hcB]) | wp_step)
    cases hsig : Manifest.signature? sa with
    | none => exact wpAny_pure hq
    | some sig =>
      simp only [argsOk, hsig] at ha
      have h2 : Bind.checkArgs sa sig ⟨[.ref x, nameV, v], []⟩ = pure () := ha
      show wpAny M A (Bind.checkArgs sa sig ⟨[.ref x, nameV, v], []⟩) Q E _
      rw [h2]; exact wpAny_pure hq
/-- x.name = v, x an error without fields yet -/
theorem exc_setAttr {o : Obj} {Q : Unit → Shared → Prop} (SF : StoreFacts B bmB sa owner) (hC : h.get? C = some (excClassObj nm q C N bs (.ref D :: bmB) true sn sub ab col dd k0 k1 k2 k3 k5 nid))
    (hs : Finds (model prog w) h C "__setattr__" (some (.builtin sa))) (hl : Finds (model prog w) h C name none) (hx : h.get? x = some o) (hc : o.cls = .ref C) (hnc : ∀ c, o.data ≠ .cls c) (hdn : o.dict = none)
    (hq : ∀ h' tk', h'.get? x = some { o with dict := some h.objs.size } → h'.Ns1 h.objs.size (fun y => if y = name then some v else none) → (∀ b u, b ≠ x → h.get? b = some u → h'.get? b = some u) → Q () ⟨h', g, d, tk', os⟩) :
    wpAny (model prog w) A (setAttr (.ref x) name v) Q E ⟨h, g, d, t, os⟩ := by
  have f3 := SF.slot.bind (.ref x)
  unfold setAttr callSpecial? specialOf
  repeat (any_goals (first | assumption | (with_reducible refine wpAny_loadPart_at hx ?_; rw [hc]) | (with_reducible refine Finds.go hs ?_) | wp_step))
  refine codeAny_call_builtin SF.slot.plain SF.entry (exc_check_sa SF hC hx hc (exc_store SF hC hl hx hc hnc hdn fun h' tk' a1 a2 a3 => ?_))
  repeat (any_goals (first | assumption | wp_step))
  exact hq h' tk' a1 a2 a3
end
end L2


/-! part L4c -/
set_option Elab.async false
set_option linter.all false
set_option maxRecDepth 100000
set_option maxHeartbeats 4000000
namespace L2
open PySem PySem.Spec PyProof.Rows
open Builtin Builtin.ObjectAttr
/-! ### errors: a field read -/
section
variable {prog : Program} {w : World} {A : Around} {E : Value → Shared → Prop} {h : Heap} {g : Array GenState} {d : Drawn} {t : Nat} {os : OsState}
variable {nm q : Str} {C D N x dx : Addr} {bs bmB : List Value} {sn : List Str} {sub : List Value} {ab : Bool} {col : Option Bool} {dd : Option Addr} {k0 k1 k2 k3 k5 : Option Value} {name : Str} {nid B : String} {v : Value} {mA : Str → Option Value}
theorem exc_load_entry {tk : Tok} {o : Obj} {Q : Fin → Shared → Prop} (hC : h.get? C = some (excClassObj nm q C N bs (.ref D :: bmB) true sn sub ab col dd k0 k1 k2 k3 k5 nid))
    (hl : Finds (model prog w) h C name none) (hx : h.get? x = some o) (hc : o.cls = .ref C) (hnc : ∀ c, o.data ≠ .cls c) (hdx : o.dict = some dx) (hns : h.Ns1 dx mA) (hv : mA name = some v) (hq : Q (.done (.ret v)) ⟨h, g, d, t, os⟩) :
    wpAny (model prog w) A (Builtin.«object.__getattribute__» ⟨[.ref x, .str name tk], []⟩) Q E ⟨h, g, d, t, os⟩ := by
  unfold Builtin.«object.__getattribute__»
  repeat (first | (with_reducible refine wpAny_loadPart_at hx ?_; rw [hc]) | (with_reducible refine Finds.go hl ?_) | wp_step)
  split
  · rename_i c hcd
    exact absurd hcd (hnc c)
  unfold instanceDict
  repeat (first | (with_reducible refine wpAny_loadPart_at hx ?_; rw [hc]) | with_reducible refine wpAny_loadPart_at hC ?_ | wp_step)
  rw [hdx]
  repeat (first | (with_reducible refine wpAny_nsGet hns.ns ?_; rw [hv]) | wp_step)
  exact hq
theorem exc_check_ga {M : Model} {o : Obj} {nameV : Value} {Q : Unit → Shared → Prop} (hB : bmB.contains (.type "BaseException") = true) (hC : h.get? C = some (excClassObj nm q C N bs (.ref D :: bmB) true sn sub ab col dd k0 k1 k2 k3 k5 nid))
    (hx : h.get? x = some o) (hc : o.cls = .ref C) (hq : Q () ⟨h, g, d, t, os⟩) : wpAny M A (checkBuiltinCall "BaseException.__getattribute__" ⟨[.ref x, nameV], []⟩) Q E ⟨h, g, d, t, os⟩ := by
  have hk : builtinKind "BaseException.__getattribute__" = some .slot := by decide +kernel
  have hsplit : splitId "BaseException.__getattribute__" = some ("BaseException", "__getattribute__") := by decide +kernel
  have hcB : (Value.ref C :: .ref D :: bmB).contains (.type "BaseException") = true := by rw [List.contains_cons, List.contains_cons, hB, Bool.or_true, Bool.or_true]
  have ha := PySem.F.args_bexc_ga (.ref x) nameV
  simp only [checkBuiltinCall, hk, hsplit]
  refine wpAny_bind ?_
  · unfold isInstance
    repeat (first | (with_reducible refine wpAny_loadPart_at hx ?_; rw [hc]) | (with_reducible refine wpAny_isSubtype_exc hC ?_; rw [hcB]) | wp_step)
    exact hq
theorem exc_getAttr {o : Obj} {expr : Bool} {Q : Value → Shared → Prop} (hB : bmB.contains (.type "BaseException") = true) (hC : h.get? C = some (excClassObj nm q C N bs (.ref D :: bmB) true sn sub ab col dd k0 k1 k2 k3 k5 nid))
    (hg : Finds (model prog w) h C "__getattribute__" (some (.builtin "BaseException.__getattribute__"))) (hh : Finds (model prog w) h C "__getattr__" none)
    (hl : Finds (model prog w) h C name none) (hx : h.get? x = some o) (hc : o.cls = .ref C) (hnc : ∀ c, o.data ≠ .cls c) (hdx : o.dict = some dx) (hns : h.Ns1 dx mA) (hv : mA name = some v) (ho : handedOut v = pure v)
    (hq : ∀ tk, Q v ⟨h, g, d, tk, os⟩) : wpAny (model prog w) A (getAttr (.ref x) name expr) Q E ⟨h, g, d, t, os⟩ := by
  have f3 := PySem.F.attrBase_ValueError.ga.bind (.ref x)
  have hx0 : (expr && onTheHeap (Value.builtin "BaseException.__getattribute__")) = false := by cases expr <;> rfl
  have hx2 : (Value.builtin "BaseException.__getattribute__" == Value.builtin "object.__getattribute__") = false := by decide +kernel
  have hx1 : (onTheHeap (Value.ref C) && Value.builtin "BaseException.__getattribute__" == Value.builtin "object.__getattribute__") = false := by rw [hx2]; rfl
  unfold getAttr getAttrBy
  repeat (any_goals (first | assumption | (with_reducible refine wpAny_loadPart_at hx ?_; rw [hc]) | (with_reducible refine Finds.go hg ?_) | (with_reducible refine Finds.go hh ?_) | wp_step))
  refine codeAny_call_builtin PySem.F.attrBase_ValueError.ga.plain PySem.F.entry_bexc_ga (exc_check_ga hB hC hx hc (exc_load_entry hC hl hx hc hnc hdx hns hv ?_))
  show wpAny _ _ (handedOut v) _ _ _
  rw [ho]
  exact wpAny_pure (hq _)
end
end L2


/-! part L4d -/
set_option Elab.async false
set_option linter.all false
set_option maxRecDepth 100000
set_option maxHeartbeats 4000000
namespace L2
open PySem PySem.Spec PyProof.Rows
section
variable {prog : Program} {w : World} {A : Around} {E : Value → Shared → Prop} {h : Heap} {g : Array GenState} {d : Drawn} {t : Nat} {os : OsState}
variable {nm q : Str} {C N : Addr} {bs bm bmB : List Value} {hdct : Bool} {sn : List Str} {sub : List Value} {ab : Bool} {col : Option Bool} {dd : Option Addr} {k0 k1 k2 k3 k5 : Option Value} {B newId initId : String}
/-! ### errors: the making of one whose class has no __init__ -/
theorem exc_make0 (F : ExcBaseFacts B newId initId bmB) (T : OwnTail h bmB bm) {mN : Str → Option Value} {rest : List Value} {Q : Fin → Shared → Prop}
    (hC : h.get? C = some (excClassObj nm q C N bs bm hdct sn sub ab col dd k0 k1 k2 k3 k5 newId)) (hn : h.Ns N mN) (hni : mN "__init__" = none)
    (hq : ∀ h', (∀ b o, h.get? b = some o → h'.get? b = some o) → h'.get? (h.objs.size + 1) = some { cls := .ref C, data := .fields #[.ref (h.objs.size + 2), .none, .none, .none, .bool false, .none] } → Q (.done (.ret (.ref (h.objs.size + 1)))) ⟨h', g, d, t, os⟩) (hrest : rest.length ≤ sizeLine) :
    wpAny (model prog w) A (Builtin.«type.__call__» ⟨.ref C :: rest, []⟩) Q E ⟨h, g, d, t, os⟩ := by
  repeat (first | with_reducible refine wpAny_loadPart_at hC ?_ | with_reducible refine wpAny_madeBy_exc hC ?_ | wp_step)
  refine codeAny_call_builtin_code (Code.quiet_builtin _ F.quiet) (wpAny_check_new_subT F T hC ?_)
  refine codeAny_exc_new_subT F T hC ?_ hrest
  show wpAny _ _ _ _ _ _
  have kp : ∀ b o, h.get? b = some o → ((h.push { cls := .type "tuple", data := .seq rest.toArray }).push { cls := .ref C, data := .fields #[.ref h.objs.size, .none, .none, .none, .bool false, .none] }).get? b = some o := fun b o e => Heap.get?_push_of_some _ (Heap.get?_push_of_some _ e)
  have hget : ((h.push { cls := .type "tuple", data := .seq rest.toArray }).push
      { cls := .ref C, data := .fields #[.ref h.objs.size, .none, .none, .none, .bool false, .none] }).get? (h.objs.size + 1) = some
      { cls := .ref C, data := .fields #[.ref h.objs.size, .none, .none, .none, .bool false, .none] } := by heap_get
  have hcC : (Value.ref C :: bm).contains (.ref C) = true := by simp
  have hC₁ := kp _ _ hC
  have T₁ := T.keeps kp
  unfold isInstance
  repeat (first | with_reducible refine wpAny_loadPart_at hget ?_ | (with_reducible refine wpAny_isSubtype_exc hC₁ ?_; rw [hcC]) | wp_step)
  show wpAny _ _ (typeLookup (.ref C) _) _ _ _
  refine wpAny_typeLookup_tail hC₁ (hn.keeps kp) T₁ F.mroIs F.init.lookup ?_
  rw [hni]
  refine wpAny_holding (wpAny_bind (wpAny_of_eq (F.init.bind _) ?_))
  refine wpAny_bind (wpAny_call (codeAny_call_builtin F.init.plain F.initEntry (wpAny_check_init_subT F T₁ hC₁ hget rfl ?_)))
  wp_walk
  refine hq _ (fun b o hb => ?_) ?_
  · rw [Heap.get?_update_other _ _ (Nat.ne_of_gt (Nat.lt_succ_of_lt (Heap.lt_size hb)))]
    exact Heap.get?_push_of_some _ (Heap.get?_push_of_some _ (Heap.get?_push_of_some _ hb))
  · rw [Heap.get?_update_self _ (Heap.get?_push_of_some _ hget) rfl]
    simp only [Heap.size_push]
    rfl
theorem call_exc_make0 (F : ExcBaseFacts B newId initId bmB) (T : OwnTail h bmB bm) {mN : Str → Option Value} {rest : List Value} {Q : Value → Shared → Prop}
    (hC : h.get? C = some (excClassObj nm q C N bs bm hdct sn sub ab col dd k0 k1 k2 k3 k5 newId)) (hn : h.Ns N mN) (hni : mN "__init__" = none)
    (hq : ∀ h', (∀ b o, h.get? b = some o → h'.get? b = some o) → h'.get? (h.objs.size + 1) = some { cls := .ref C, data := .fields #[.ref (h.objs.size + 2), .none, .none, .none, .bool false, .none] } → Q (.ref (h.objs.size + 1)) ⟨h', g, d, t, os⟩) (hrest : rest.length ≤ sizeLine) :
    wpAny (model prog w) A (call (.ref C) rest) Q E ⟨h, g, d, t, os⟩ := by
  have f1 := tc_lookup
  have f2 := tc_bind (.ref C)
  have hT : (⟨h, g, d, t, os⟩ : Shared).TypeIs (.ref C) "type" := ⟨_, hC, rfl⟩
  refine wpAny_call (codeAny_of_tree ?_)
  show wpAny _ _ (callAny (.ref C) _) _ _ _
  repeat (any_goals (first | assumption | with_reducible refine wpAny_loadPart_at hC ?_ | wp_step))
  refine ⟨rfl, ?_⟩
  exact codeAny_call_builtin_at (Code.quiet_builtin _ (by decide +kernel)) entry_typeCall (wpAny_check_type_call_sub hC (exc_make0 F T hC hn hni hq hrest))
/-- B.__init__(self, ..), self an error of a class under B -/
theorem call_exc_init (F : ExcBaseFacts B newId initId bmB) (T : OwnTail h bmB bm) {rest : List Value} {e : Addr} {oe : Obj} {vs : Array Value} {Q : Value → Shared → Prop}
    (hC : h.get? C = some (excClassObj nm q C N bs bm hdct sn sub ab col dd k0 k1 k2 k3 k5 newId)) (he : h.get? e = some oe) (hcls : oe.cls = .ref C) (hd : oe.data = .fields vs) (hs : 0 < vs.size)
    (hq : ∀ h', (∀ b o, b ≠ e → h.get? b = some o → h'.get? b = some o) → h'.get? e = some { oe with data := .fields (vs.setIfInBounds 0 (.ref h.objs.size)) } → Q .none ⟨h', g, d, t, os⟩) (hrest : rest.length ≤ sizeLine) :
    wpAny (model prog w) A (call (.builtin initId) (.ref e :: rest)) Q E ⟨h, g, d, t, os⟩ := by
  refine wpAny_call (codeAny_call_builtin F.init.plain F.initEntry (wpAny_check_init_subT F T hC he hcls ?_))
  have h0 : vs[0]? = some vs[0] := by simp [hs]
  have he1 : (h.push { cls := .type "tuple", data := .seq rest.toArray }).get? e = some oe := Heap.get?_push_of_some _ he
  show wpAny _ _ (newTuple rest >>= fun v => Builtin.BaseException.bexcPut (.ref e) 0 v >>= fun _ => ret .none) _ _ _
  refine wpAny_bind (wpAny_newTuple ?_)
  show wpAny _ _ (Builtin.BaseException.bexcPut (.ref e) 0 (.ref h.objs.size) >>= fun _ => ret .none) _ _ _
  refine wpAny_bind ?_
  unfold Builtin.BaseException.bexcPut
  refine wpAny_bind (wpAny_field he1 hd h0 (wpAny_bind (wpAny_setField he1 hd hs ?_)))
  have hd3 := Obj.data_mapFields hd (·.setIfInBounds 0 (Value.ref h.objs.size))
  have he3 := Heap.get?_update_self (Obj.mapFields (·.setIfInBounds 0 (Value.ref h.objs.size))) he1 (Obj.isFreed_of_fields hd3)
  have fin : wpAny (model prog w) A.in1 (ret Value.none) (fun fin s' => match fin with
      | .done f => (match (Except.ok f : Result) with | .ok (.ret v) => Q v s' | .ok a => False | .error e => E e s')
      | .again c' => c'.quiet = true ∧ codeAny (model prog w) A c' (fun r s' => match r with | .ok (.ret v) => Q v s' | .ok a => False | .error e => E e s') s') (fun e s' => E e s')
      { heap := (h.push { cls := .type "tuple", data := .seq rest.toArray }).update e (Obj.mapFields (·.setIfInBounds 0 (Value.ref h.objs.size))), gens := g, drawn := d, toks := t, os := os } := by
    refine wpAny_pure (hq _ (fun b o hb ho => ?_) ?_)
    · rw [Heap.get?_update_other _ _ (Ne.symm hb)]
      exact Heap.get?_push_of_some _ ho
    · rw [he3]
      obtain ⟨oc, od, odt, osl⟩ := oe
      dsimp only at hd
      subst hd
      rfl
  split
  · exact wpAny_letGo fin
  · exact wpAny_pure fin
end
end L2


/-! part L4e -/
set_option Elab.async false
set_option linter.all false
set_option maxRecDepth 100000
set_option maxHeartbeats 4000000
namespace L2
open PySem PySem.Spec PyProof.Rows
/-! ### errors of the program's own classes, in the abstract heap: the classes stand under one (D) that stands under ValueError -/
abbrev bmVE : List Value := [.type "ValueError", .type "Exception", .type "BaseException", .type "object"]
def excφ (a C : Addr) (dx : Option Addr) (h : Heap) : Prop := ∃ t, h.get? a = some { cls := .ref C, dict := dx, data := .fields #[.ref t, .none, .none, .none, .bool false, .none] }
/-- an error of class C that was not raised, with its dict at dx (none while it has no field) -/
def ExO (a C : Addr) (dx : Option Addr) : HO := .ext (excφ a C dx)
theorem exO_ok {P : Program} {w : World} {H : Hp} {h : Heap} {a C : Addr} {dx : Option Addr} {t : Addr} (e : h.get? a = some { cls := .ref C, dict := dx, data := .fields #[.ref t, .none, .none, .none, .bool false, .none] }) : ObjOk P w H h a (ExO a C dx) :=
  ⟨⟨t, e⟩, ⟨_, e⟩, fun h1 h2 ⟨t', e1⟩ k => ⟨t', k _ e1⟩⟩
structure XC (K : PySem.W.Frag) (C D N : Addr) : Prop where
  sh : ∃ nm q bs sn sub ab col dd k0 k1 k2 k3 k5, K.lookup C = some (excClassObj nm q C N bs (.ref D :: bmVE) true sn sub ab col dd k0 k1 k2 k3 k5 "ValueError.__new__")
  tl : PySem.W.tailIn K bmVE (.ref D :: bmVE) = true
  ns : PySem.W.nsOkIn K N = true
  sa : PySem.W.findIn K (.ref C) "__setattr__" = some (some (.builtin "object.__setattr__"))
  ga : PySem.W.findIn K (.ref C) "__getattribute__" = some (some (.builtin "BaseException.__getattribute__"))
  gx : PySem.W.findIn K (.ref C) "__getattr__" = some none
  kp : PySem.W.keepIn K (.ref C) = true
theorem ns_some {K : PySem.W.Frag} {h : Heap} {N : Addr} {mg : Str → Option Value} {n : Str} {v : Value} (X : K.In h) (G : h.Ns N mg) (e : PySem.W.nsIn K N n = some (some v)) : mg n = some v := by
  obtain ⟨o, es, ep, ho, hd, _, hf⟩ := G
  unfold PySem.W.nsIn at e
  split at e
  · rename_i c d es' n' sl q
    have := X _ _ q
    rw [ho] at this
    cases this
    cases hd
    split at e
    · rename_i en he
      rw [← hf]
      unfold nsFind findBy
      rw [← Array.find?_toList, he]
      simpa using e
    · split at e <;> cases e
  · cases e
section
variable {X : Cx} {pins : List (Addr × Obj)} {σ : St} {H : Hp} {s : Shared} {C D N : Addr}
theorem Inv.rewrite {a : Addr} {o : HO} (e : H a = some o) : upd H a o = H := by
  funext b
  by_cases h : b = a
  · subst h; rw [upd_same, e]
  · rw [upd_ne h]
/-- C(), C without an __init__ -/
def tExc0 (C : Addr) : TE := fun σ H Q => ∀ e, H e = none → Q (.ref e) (upd H e (ExO e C none))
theorem pe_exc0 {x : Str} {p pos : Pos} (c : XC X.K C D N) (ni : PySem.W.nsIn X.K N "__init__" = some none) (hg : Gl X x) (hm : X.mg x = some (.ref C)) (hdb : (x == ("__debug__" : Str)) = false := by decide) :
    PE X (.Call (.Name x p) [] [] pos) (tExc0 C) := by
  intro pins s σ H Q I h
  refine wpAny_Call_Name_kw (ld_glob I hg hm ?_ hdb)
  refine PySem.W.callWith_K0 I.kIn c.kp ?_
  obtain ⟨nm, q, bs, sn, sub, ab, col, dd, k0, k1, k2, k3, k5, lk⟩ := c.sh
  have hC := I.kIn _ _ lk
  have hn := Heap.Ns.of_isNs (PySem.W.isNs_of_in I.kIn c.ns)
  have hni := PySem.W.nsMap_none_of_in I.kIn c.ns ni
  have T := PySem.W.tail_of_in I.kIn c.tl
  obtain ⟨hh, g, d, t, os⟩ := s
  refine call_exc_make0 PySem.F.excBase_ValueError T hC hn hni (fun h' k e => ?_) (Nat.zero_le _)
  exact ⟨.ref _, _, I.laid (t' := t) k (Nat.le_succ _) (exO_ok e), rfl, h _ (I.hok.fresh (Nat.le_succ _))⟩
/-- C(..), C with its own __init__ -/
def tExcI (C : Addr) (sp : Sp) (t : TA) : TE := fun σ H Q => t σ H fun vs H1 => ∀ e, H1 e = none → sp (.ref e :: vs) (upd H1 e (ExO e C none)) (fun v H2 => v = .non ∧ Q (.ref e) H2) E0
theorem pe_excI {x : Str} {p pos : Pos} {k : Nat} {f : Addr} {fd : FuncData} {ps : List Str} {sp : Sp} {e : Expr} {es : List Expr} {t : TA} (c : XC X.K C D N) (hi : PySem.W.nsIn X.K N "__init__" = some (some (.ref f))) (hf : ∃ o, X.K.lookup f = some o ∧ o.cls = .type "function")
    (F : FnOk X.prog X.w X.K X.mg X.base CX0 k f fd ps sp) (hr : Room (k + 1) X.A) (hb : Binds X.K fd ps []) (hg : Gl X x) (hm : X.mg x = some (.ref C)) (ha : PA X (e :: es) t) (hps : ps.length ≤ sizeLine := by decide)
    (hdb : (x == ("__debug__" : Str)) = false := by decide) (he : starEach (e :: es) X.env = (false, eval e X.env) :: starEach es X.env := by rfl) (hpl : (backTo pos (starEach es X.env)).any (·.1) = false := by rfl) :
    PE X (.Call (.Name x p) (e :: es) [] pos) (tExcI C sp t) := by
  intro pins s σ H Q I h
  refine wpAny_Call_Name_kw (ld_glob I hg hm ?_ hdb)
  refine PySem.W.callWith_K (h₀ := X.base) I.ok.mod.kin c.kp (thn (ha pos pins s σ H _ I h) fun us s1 ⟨vs, H1, I1, r, q1⟩ => ⟨I1.kIn, ?_⟩) he hpl
  obtain ⟨nm, q, bs, sn, sub, ab, col, dd, k0, k1, k2, k3, k5, lk⟩ := c.sh
  obtain ⟨oI, lkf, hfc⟩ := hf
  have hC := I1.kIn _ _ lk
  have hn := Heap.Ns.of_isNs (PySem.W.isNs_of_in I1.kIn c.ns)
  have hin := ns_some I1.kIn hn hi
  have T := PySem.W.tail_of_in I1.kIn c.tl
  have hz : s1.heap.objs.size ≤ s1.heap.objs.size + 1 := Nat.le_succ _
  have q2 := q1 (s1.heap.objs.size + 1) (I1.hok.fresh hz)
  have r2 : Vals (V.ref (s1.heap.objs.size + 1) :: vs) (Value.ref (s1.heap.objs.size + 1) :: us) := .cons rfl r
  have hl : (Value.ref (s1.heap.objs.size + 1) :: us ++ []).length = ps.length := by
    have e := r2.length
    rw [F.len _ _ _ _ q2] at e
    rw [List.append_nil]
    exact e.symm
  obtain ⟨hh, g, d, tk, os⟩ := s1
  have hrest : us.length ≤ sizeLine := by
    simp only [List.append_nil, List.length_cons] at hl
    omega
  refine call_exc_initT PySem.F.excBase_ValueError T hC hn hin (I1.kIn _ _ lkf) hfc ?_ hrest
  have I2 : Inv X pins σ (upd H1 (hh.objs.size + 1) (ExO (hh.objs.size + 1) C none)) ⟨(hh.push { cls := .type "tuple", data := .seq us.toArray }).push { cls := .ref C, data := .fields #[.ref hh.objs.size, .none, .none, .none, .bool false, .none] }, g, d, tk, os⟩ :=
    I1.laid (t' := tk) (fun b o e => Heap.get?_push_of_some _ (Heap.get?_push_of_some _ e)) hz (exO_ok (t := hh.objs.size) (by heap_get))
  refine wpAny_call (codeAny_mono (F.run _ X.stack _ _ ⟨Value.ref (hh.objs.size + 1) :: us, []⟩ (Value.ref (hh.objs.size + 1) :: us) _ _ E0 (hr.make C us []) (I2.env0.make C us []) (by
    have := hb _ (Value.ref (hh.objs.size + 1) :: us) I2.kIn hl
    rwa [List.append_nil] at this) r2 q2) fun r s' hq' => ?_)
  cases r with
  | error e => exact False.elim hq'
  | ok fl =>
    cases fl with
    | ret u =>
      obtain ⟨v, H', I3, rv, ev, q3⟩ := I2.after hq'
      subst ev
      exact ⟨rv, ⟨V.ref (hh.objs.size + 1), H', I3, rfl, q3⟩⟩
    | next => exact False.elim hq'
    | brk => exact False.elim hq'
    | cont => exact False.elim hq'
/-! ### D.__init__(self, text) -/
structure XD (K : PySem.W.Frag) (D : Addr) : Prop where
  sp : PySem.W.specialIn K (.ref D) "__getattribute__" = some (some (.builtin "type.__getattribute__"))
  rd : PySem.W.readsIn K D (.type "type") = true
  fc : PySem.W.findCls K (.ref D) (.type "type") "__init__" = some (.val (.builtin "ValueError.__init__"))
def tExcInit (K : PySem.W.Frag) (t : TA) : TE := fun σ H Q => t σ H fun vs H1 => ∃ e y C D N, vs = [.ref e, y] ∧ H1 e = some (ExO e C none) ∧ XC K C D N ∧ Q .non H1
theorem pe_excInit {x : Str} {p pos apos : Pos} {e : Expr} {es : List Expr} {t : TA} (xd : XD X.K D) (hg : Gl X x) (hm : X.mg x = some (.ref D)) (ha : PA X (e :: es) t) (hdb : (x == ("__debug__" : Str)) = false := by decide)
    (he : starEach (e :: es) X.env = (false, eval e X.env) :: starEach es X.env := by rfl) (hpl : (backTo pos (starEach es X.env)).any (·.1) = false := by rfl) {pl : Sem Bool}
    (ht : eval (.Call (.Attribute (.Name x p) "__init__" apos) (e :: es) [] pos) X.env = (do
      let ov ← eval (.Name x p) X.env
      standAt apos.atName
      let (f, first) ← holding [ov] (getMethod ov "__init__" pl)
      callWith pos f first (backTo pos (starEach (e :: es) X.env)) (backToKw pos (keywordEach [] X.env))) := by rfl) :
    PE X (.Call (.Attribute (.Name x p) "__init__" apos) (e :: es) [] pos) (tExcInit X.K t) := by
  intro pins s σ H Q I h
  refine PySem.W.methodCall_KW (pl := pl) (ld_glob I hg hm ?_ hdb) ht
  refine PySem.W.method_cls I.kIn xd.sp (PySem.W.cls_value I.kIn xd.rd xd.fc rfl ?_)
  have I' : Inv X pins σ H { s with toks := s.toks + 1 } := I.tok _
  refine PyProof.Rows.callWith_builtin1 (thn (ha pos pins _ σ H _ I' h) fun us s1 ⟨vs, H1, I1, r1, a, y, C, D', N, ev, ea, c, q1⟩ => ?_) he hpl
  subst ev
  obtain ⟨u1, u2, rfl, ru1, ru2⟩ := vals2 r1
  cases ru1
  obtain ⟨nm, q, bs, sn, sub, ab, col, dd, k0, k1, k2, k3, k5, lk⟩ := c.sh
  have hC := I1.kIn _ _ lk
  have T := PySem.W.tail_of_in I1.kIn c.tl
  obtain ⟨⟨t0, eo⟩, _, _⟩ := (show ObjOk X.prog X.w H1 s1.heap a (ExO a C none) from I1.hok a _ ea)
  obtain ⟨hh, g, d, tk, os⟩ := s1
  refine call_exc_init PySem.F.excBase_ValueError T hC eo rfl rfl (by simp) (fun h' k e' => ?_) (by show 1 ≤ sizeLine; decide)
  have I3 := I1.write (t' := tk) (x := a) (e := a) (o := ExO a C none) (h' := h') (by rw [ea]; exact True.intro) (.inl rfl) k ⟨_, e'⟩ (exO_ok (t := hh.objs.size) (by simpa using e'))
  rw [Inv.rewrite ea] at I3
  exact ⟨.non, H1, I3, rfl, q1⟩
/-! ### self.f = v -/
def sExcSet (K : PySem.W.Frag) (ta tv : TE) (f : Str) : TS := fun D σ H => tv σ H fun y H1 => ta σ H1 fun x H2 => ∃ a C D' N, x = .ref a ∧ H2 a = some (ExO a C none) ∧ XC K C D' N ∧ PySem.W.findIn K (.ref C) f = some none ∧
  ∀ dx, H2 dx = none → D.nx σ (upd (upd H2 dx (.xd [(f, y)])) a (ExO a C (some dx)))
theorem ps_excSet {o value : Expr} {f : Str} {pos pos' : Pos} {ta tv : TE} (ha : PE X o ta) (hv : PE X value tv) (hs : swapsWith value (some (.Attribute o f pos')) pos.line X.env = pure false) : PS X (.Assign [.Attribute o f pos'] value pos) (sExcSet X.K ta tv f) := by
  intro pins s σ H En I h
  refine plainObj_wpAny_Assign_Attribute (thn (hv pins s σ H _ I h) fun u s1 ⟨y, H1, I1, ry, q⟩ => thn (ha pins s1 σ H1 _ I1 q) fun ov s2 ⟨x, H2, I2, rx, a, C, D', N, ex, ea, c, nf, q2⟩ => ?_) hs
  subst ex
  obtain rfl : ov = Value.ref a := rx
  obtain ⟨nm, qn, bs, sn, sub, ab, col, dd, k0, k1, k2, k3, k5, lk⟩ := c.sh
  have hC := I2.kIn _ _ lk
  obtain ⟨⟨t0, eo⟩, _, _⟩ := (show ObjOk X.prog X.w H2 s2.heap a (ExO a C none) from I2.hok a _ ea)
  have F1 := Finds.of (M := model X.prog X.w) I2.kIn c.sa
  have F2 := Finds.of (M := model X.prog X.w) I2.kIn nf
  obtain ⟨hh, g, d, tk, os⟩ := s2
  refine exc_setAttr PySem.F.store_ValueError hC F1 F2 eo rfl (fun c e => by cases e) rfl fun h' tk' a1 a2 a3 => ?_
  have hdx : H2 hh.objs.size = none := I2.hok.fresh (Nat.le_refl _)
  have lta : a < hh.objs.size := Heap.lt_size eo
  have nda : hh.objs.size ≠ a := Nat.ne_of_gt lta
  have hok : HOk X.prog X.w (upd (upd H2 hh.objs.size (.xd [(f, y)])) a (ExO a C (some hh.objs.size))) h' := by
    intro b u e
    by_cases hb : b = a
    · subst hb
      rw [upd_same] at e
      cases e
      exact exO_ok a1
    · rw [upd_ne hb] at e
      by_cases hb2 : b = hh.objs.size
      · subst hb2
        rw [upd_same] at e
        cases e
        refine ⟨_, a2, fun f' => ?_⟩
        by_cases hf : f' = f
        · subst hf
          simpa [List.lookup, RelO] using ry
        · have : (f' == f) = false := by simpa using hf
          simp [List.lookup, this, hf, RelO]
      · rw [upd_ne hb2] at e
        refine (I2.hok b u e).stay (fun d' v' hd q' => a3 d' v' ?_ q') (fun d' q' => ?_) fun d' ys q' => ?_
        · rcases hd with rfl | hd
          · exact hb
          · exact fun z => by subst z; rw [ea] at hd; cases hd
        · rw [upd_ne (fun z => by subst z; rw [ea] at q'; cases q'), upd_ne (fun z => by subst z; rw [hdx] at q'; cases q')]; exact q'
        · rw [upd_ne (fun z => by subst z; rw [ea] at q'; cases q'), upd_ne (fun z => by subst z; rw [hdx] at q'; cases q')]; exact q'
  have ne : ∀ b v', H2 b = v' → v' ≠ some (ExO a C none) → b ≠ a := fun b v' e1 e2 z => by subst z; rw [ea] at e1; exact e2 e1.symm
  have un : Un X.fs [] H2 (upd (upd H2 hh.objs.size (.xd [(f, y)])) a (ExO a C (some hh.objs.size))) hh h' := by
    refine ⟨fun b o e n _ _ => a3 b o (ne b _ n (by simp)) e, fun b o e n _ _ => ⟨o.slots, a3 b o (ne b _ n (by simp)) e⟩, fun b o e n _ => ?_, fun b o e _ => ?_, fun b xs e => ?_, fun b o u e => ?_, fun b ps e => ⟨#[], ?_⟩⟩
    · rw [upd_ne (ne b _ n (by simp)), upd_ne (Nat.ne_of_lt (Heap.lt_size e))]; exact n
    · by_cases hb : b = a
      · subst hb; exact ⟨_, a1⟩
      · exact ⟨_, a3 b o hb e⟩
    · rw [upd_ne (ne b _ e (by simp [ExO])), upd_ne (ne_of_none e hdx)]; exact e
    · rw [upd_ne (ne b _ e (by simp [ExO])), upd_ne (ne_of_none e hdx)]; exact e
    · rw [upd_ne (ne b _ e (by simp [ExO])), upd_ne (ne_of_none e hdx), e]; simp
  exact ⟨σ, _, I2.un (t' := tk') un hok, q2 _ hdx⟩
/-! ### e.f -/
def tExcFld (K : PySem.W.Frag) (ta : TE) (f : Str) : TE := fun σ H Q => ta σ H fun x H1 => ∃ a C D N dx fs v, x = .ref a ∧ H1 a = some (ExO a C (some dx)) ∧ H1 dx = some (.xd fs) ∧ XC K C D N ∧ PySem.W.findIn K (.ref C) f = some none ∧ fs.lookup f = some v ∧ Q v H1
theorem pe_excFld {e : Expr} {f : Str} {pos : Pos} {ta : TE} (he : PE X e ta) (hb : attributeBase e f X.env (eval e X.env) = eval e X.env) : PE X (.Attribute e f pos) (tExcFld X.K ta f) := by
  intro pins s σ H Q I h
  refine attr_of hb (thn (he pins s σ H _ I h) fun u s1 ⟨x, H1, I1, rx, a, C, D, N, dx, fs, v, ex, ea, ed, c, nf, l, q⟩ => ?_)
  subst ex
  obtain rfl : u = Value.ref a := rx
  obtain ⟨nm, qn, bs, sn, sub, ab, col, dd, k0, k1, k2, k3, k5, lk⟩ := c.sh
  have hC := I1.kIn _ _ lk
  obtain ⟨⟨t0, eo⟩, _, _⟩ := (show ObjOk X.prog X.w H1 s1.heap a (ExO a C (some dx)) from I1.hok a _ ea)
  obtain ⟨mA, hns, hr⟩ := (show ObjOk X.prog X.w H1 s1.heap dx (.xd fs) from I1.hok dx _ ed)
  obtain ⟨u', hu, ru⟩ := RelO.some_of (v := v) (o := mA f) (by rw [← l]; exact hr f)
  have F1 := Finds.of (M := model X.prog X.w) I1.kIn c.ga
  have F2 := Finds.of (M := model X.prog X.w) I1.kIn c.gx
  have F3 := Finds.of (M := model X.prog X.w) I1.kIn nf
  have ho := PySem.W.handedOut_of (handed_of ru)
  obtain ⟨hh, g, d, tk, os⟩ := s1
  exact exc_getAttr (by decide) hC F1 F2 F3 eo rfl (fun c e => by cases e) rfl hns hu ho fun tk' => ⟨v, H1, I1.tok _, ru, q⟩
end
end L2


/-! part L4f -/
set_option Elab.async false
set_option linter.all false
set_option maxRecDepth 100000
set_option maxHeartbeats 4000000
namespace L2
open PySem PySem.Spec PyProof.Rows
open Builtin Builtin.ObjectAttr
/-! ### errors: isinstance -/
section
variable {prog : Program} {w : World} {A : Around} {E : Value → Shared → Prop} {h : Heap} {g : Array GenState} {d : Drawn} {t : Nat} {os : OsState}
variable {nm q : Str} {C D N x : Addr} {bs bmB : List Value} {sn : List Str} {sub : List Value} {ab : Bool} {col : Option Bool} {dd : Option Addr} {k0 k1 k2 k3 k5 : Option Value} {nid : String} {K : PySem.W.Frag}
theorem exc_class_entry {tk : Tok} {o : Obj} {od : Option Obj} {Q : Fin → Shared → Prop} (X : K.In h) (hC : h.get? C = some (excClassObj nm q C N bs (.ref D :: bmB) true sn sub ab col dd k0 k1 k2 k3 k5 nid))
    (hl : Finds (model prog w) h C "__class__" (some (.builtin "object.__class__"))) (I : PySem.W.InstAt h x o C od) (hm : PySem.W.mroIn K C (.type "object") = some true) (hq : Q (.done (.ret (.ref C))) ⟨h, g, d, t, os⟩) :
    wpAny (model prog w) A (Builtin.«object.__getattribute__» ⟨[.ref x, .str "__class__" tk], []⟩) Q E ⟨h, g, d, t, os⟩ := by
  have hx := I.at_
  have hc : o.cls = .ref C := I.cls
  have f5 := PySem.F.typeOf_object_class
  have f6 := PySem.F.slot_gs_get.lookup
  have f7 := PySem.F.slot_gs_set.lookup
  have hT5 : (⟨h, g, d, t, os⟩ : Shared).TypeIs (.builtin "object.__class__") "getset_descriptor" := f5
  unfold Builtin.«object.__getattribute__»
  repeat (any_goals (first | assumption | (with_reducible refine wpAny_loadPart_at hx ?_; rw [hc]) | (with_reducible refine Finds.go hl ?_) | wp_step))
  refine PySem.W.class_get (K := K) (s := ⟨h, g, d, t, os⟩) X I hm ?_
  repeat (any_goals (first | assumption | wp_step))
theorem exc_class_attr {o : Obj} {od : Option Obj} {Q : Option Value → Shared → Prop} (X : K.In h) (hB : bmB.contains (.type "BaseException") = true) (hC : h.get? C = some (excClassObj nm q C N bs (.ref D :: bmB) true sn sub ab col dd k0 k1 k2 k3 k5 nid))
    (hg : Finds (model prog w) h C "__getattribute__" (some (.builtin "BaseException.__getattribute__"))) (hh : Finds (model prog w) h C "__getattr__" none)
    (hl : Finds (model prog w) h C "__class__" (some (.builtin "object.__class__"))) (I : PySem.W.InstAt h x o C od) (hm : PySem.W.mroIn K C (.type "object") = some true)
    (hq : Q (some (.ref C)) ⟨h, g, d, t + 1, os⟩) : wpAny (model prog w) A (getAttr? (.ref x) "__class__") Q E ⟨h, g, d, t, os⟩ := by
  have hx := I.at_
  have hc : o.cls = .ref C := I.cls
  have f3 := PySem.F.attrBase_ValueError.ga.bind (.ref x)
  have hx2 : (Value.builtin "BaseException.__getattribute__" == Value.builtin "object.__getattribute__") = false := by decide +kernel
  have hx1 : (onTheHeap (Value.ref C) && Value.builtin "BaseException.__getattribute__" == Value.builtin "object.__getattribute__") = false := by rw [hx2]; rfl
  unfold getAttr? getAttrBy? getAttrBy
  repeat (any_goals (first | assumption | (with_reducible refine wpAny_loadPart_at hx ?_; rw [hc]) | (with_reducible refine Finds.go hg ?_) | (with_reducible refine Finds.go hh ?_) | wp_step))
  refine codeAny_call_builtin PySem.F.attrBase_ValueError.ga.plain PySem.F.entry_bexc_ga (exc_check_ga hB hC hx hc (exc_class_entry X hC hl I hm ?_))
  show wpAny _ _ (handedOut (.ref C)) _ _ _
  rw [PySem.W.handedOut_of rfl]
  exact wpAny_pure (wpAny_pure hq)
end
end L2


/-! part L4g -/
set_option Elab.async false
set_option linter.all false
set_option maxRecDepth 100000
set_option maxHeartbeats 4000000
namespace L2
open PySem PySem.Spec PyProof.Rows
structure XI (K : PySem.W.Frag) (C : Addr) : Prop where
  cl : PySem.W.findIn K (.ref C) "__class__" = some (some (.builtin "object.__class__"))
  ob : PySem.W.mroIn K C (.type "object") = some true
theorem kitx_exc {K : PySem.W.Frag} {C D N x : Addr} (c : XC K C D N) (xi : XI K C) : PySem.W.KitX K (.ref x) (.ref C) (fun h => ∃ o od, PySem.W.InstAt h x o C od) where
  ty := fun M h X ⟨o, od, I⟩ => I.type
  it := fun M h X _ => by
    obtain ⟨nm, q, bs, sn, sub, ab, col, dd, k0, k1, k2, k3, k5, lk⟩ := c.sh
    intro A' Q' E' s' k q
    unfold isType loadHead
    exact wpAny_bind (wpAny_loadPart (k _ _ (X _ _ lk)) (wpAny_pure q))
  ne := fun h tp dd its n sl X htp => by
    obtain ⟨nm, q, bs, sn, sub, ab, col, dd, k0, k1, k2, k3, k5, lk⟩ := c.sh
    refine Bool.eq_false_iff.mpr fun q => ?_
    have e : C = tp := Value.ref.inj (beq_iff_eq.mp q)
    subst e
    have z := (X _ _ lk).symm.trans htp
    simp at z
  ca := fun {prog w A E Q s} X ⟨o, od, I⟩ k => by
    obtain ⟨nm, q, bs, sn, sub, ab, col, dd, k0, k1, k2, k3, k5, lk⟩ := c.sh
    obtain ⟨hh, g, d, tk, os⟩ := s
    exact exc_class_attr X (by decide) (X _ _ lk) (Finds.of X c.ga) (Finds.of X c.gx) (Finds.of X xi.cl) I xi.ob k
section
variable {X : Cx}
/-- an error in the abstract heap, with its dict -/
def ExAt (H : Hp) (a C : Addr) : Prop := ∃ dx, H a = some (ExO a C dx) ∧ ∀ d, dx = some d → ∃ fs, H d = some (.xd fs)
def rIsX (K : PySem.W.Frag) : List V → Hp → VK → Prop := fun xs H Q => match xs with
  | [.ref a, .ty n] => ∃ C D N b, ExAt H a C ∧ XC K C D N ∧ XI K C ∧ PySem.W.kitOne K (.ref C) (.type n) = some b ∧ Q (.bl b) H
  | [.ref a, .ref c] => ∃ C D N b, ExAt H a C ∧ XC K C D N ∧ XI K C ∧ PySem.W.kitOne K (.ref C) (.ref c) = some b ∧ Q (.bl b) H
  | _ => False
theorem rIsX_ty (K : PySem.W.Frag) (a : Addr) (n : String) (H : Hp) (Q : VK) : rIsX K [.ref a, .ty n] H Q = (∃ C D N b, ExAt H a C ∧ XC K C D N ∧ XI K C ∧ PySem.W.kitOne K (.ref C) (.type n) = some b ∧ Q (.bl b) H) := rfl
theorem rIsX_ref (K : PySem.W.Frag) (a c : Addr) (H : Hp) (Q : VK) : rIsX K [.ref a, .ref c] H Q = (∃ C D N b, ExAt H a C ∧ XC K C D N ∧ XI K C ∧ PySem.W.kitOne K (.ref C) (.ref c) = some b ∧ Q (.bl b) H) := rfl
theorem ExAt.inst {pins : List (Addr × Obj)} {σ : St} {H : Hp} {s : Shared} {a C : Addr} (I : Inv X pins σ H s) (e : ExAt H a C) : ∃ o od, PySem.W.InstAt s.heap a o C od := by
  obtain ⟨dx, ea, ed⟩ := e
  obtain ⟨⟨t0, eo⟩, _, _⟩ := (show ObjOk X.prog X.w H s.heap a (ExO a C dx) from I.hok a _ ea)
  cases dx with
  | none => exact ⟨_, none, eo, rfl, rfl, True.intro⟩
  | some d =>
    obtain ⟨fs, e⟩ := ed d rfl
    obtain ⟨mA, ⟨od, es, ep, h1, _⟩, _⟩ := (show ObjOk X.prog X.w H s.heap d (.xd fs) from I.hok d _ e)
    exact ⟨_, some od, eo, rfl, rfl, h1⟩
theorem call_isX {K : PySem.W.Frag} (hK : X.K = K) : CallR X (.builtin "isinstance") (rIsX K) := by
  subst hK
  intro pins s σ H xs us Q I r h
  unfold rIsX at h
  split at h
  · rename_i a n
    obtain ⟨C, D, N, b, ea, c, xi, e, q⟩ := h
    obtain ⟨u, w', rfl, rx, rc⟩ := vals2 r
    cases rx
    cases rc
    exact PySem.W.kia_one (kitx_exc c xi) I.kIn (ea.inst I) e (fun z => nomatch z) fun tk => ⟨.bl b, H, I.tok tk, rfl, q⟩
  · rename_i a n
    obtain ⟨C, D, N, b, ea, c, xi, e, q⟩ := h
    obtain ⟨u, w', rfl, rx, rc⟩ := vals2 r
    cases rx
    cases rc
    exact PySem.W.kia_one (kitx_exc c xi) I.kIn (ea.inst I) e (fun z => nomatch z) fun tk => ⟨.bl b, H, I.tok tk, rfl, q⟩
  · exact h.elim
end
end L2


/-! part L4h -/
set_option Elab.async false
set_option linter.all false
set_option maxRecDepth 100000
set_option maxHeartbeats 4000000
namespace L2
open PySem PySem.Spec PyProof.Rows
section
variable {X : Cx}
/-! ### f-strings of ints, and by repr -/
def tFmtI (te : TE) : TE := fun σ H Q => te σ H fun x H1 => ∃ i : Int, x = .int i ∧ i.natAbs < 10 ^ 20 ∧ ∀ z : Str, z.length ≤ 21 → Q (.str z) H1
theorem pe_fmtI {a : Expr} {te : TE} {pos : Pos} (ha : PE X a te) : PE X (.FormattedValue a (-1) none pos) (tFmtI te) := by
  intro pins s σ H Q I h
  refine FormattedValue_plain (thn (ha pins s σ H _ I h) fun v s1 ⟨x, H1, I1, r1, i, ex, hi, q1⟩ => ?_)
  subst ex
  obtain ⟨t, rfl⟩ := r1
  have hl : i.natAbs.log2 < 1920 := by
    by_cases h0 : i.natAbs = 0
    · rw [h0]; decide
    · have h1 : (10 : Nat) ^ 20 < 2 ^ 70 := by decide
      have := (Nat.log2_lt h0).mpr (Nat.lt_trans hi h1)
      omega
  have hz : (Str.ofString (toString i)).length ≤ 21 := by
    have e := int_text_length_le10 (a := i) (k := 20) (by decide) hi
    rw [PySem.ofString_length]
    omega
  exact formatField_int_small hl ⟨.str _, H1, I1.tok _, ⟨_, rfl⟩, q1 _ hz⟩
/-- {x!r} of a text or of data -/
def tFmtR (te : TE) : TE := fun σ H Q => te σ H fun x H1 => ∃ d, Rep H1 x d ∧ d.showable = true ∧ d.hasDict = false ∧ d.depth ≤ 60 ∧ d.shown.length ≤ sizeLine ∧ ((∃ z, d = .str z) ∨ ∃ ds, d = .tuple ds) ∧ Q (.str d.shown) H1
theorem pe_fmtR {a : Expr} {te : TE} {pos : Pos} (hg : X.A.guards = some []) (hu : X.A.units + 64 < cLine) (ha : PE X a te) : PE X (.FormattedValue a 114 none pos) (tFmtR te) := by
  intro pins s σ H Q I h
  show wpAny _ _ (do let v ← eval a X.env; standAt pos; formatted pos (← holding [v] (converted 114 v)) none) _ _ s
  refine wpAny_bind (thn (ha pins s σ H _ I h) fun v s1 ⟨x, H1, I1, r1, d, hr, hs, hd, hp, hz, hk, q1⟩ => ?_)
  refine wpAny_bind (wpAny_standAt ?_)
  show wpAny _ _ (do let v' ← holding [v] (pyReprObj v); formatField v' Str.empty) _ _ s1
  refine wpAny_bind (wpAny_holding ?_)
  rcases hk with ⟨z, rfl⟩ | ⟨ds, rfl⟩
  · simp only [Rep] at hr
    subst hr
    obtain ⟨t, rfl⟩ := r1
    refine pyReprObj_str ?_ hz
    exact formatField_str (fun t' tk => ⟨.str _, H1, I1.tok tk, ⟨t', rfl⟩, q1⟩) hz
  · obtain ⟨as, rd⟩ := hr.reads I1 r1
    simp only [Rep] at hr
    obtain ⟨a', vs, rfl, _⟩ := hr
    cases r1
    refine pyReprObj_of_reads rd hs (PyData.noDict_hsm hd) hg (by omega) (fun _ _ e => e) (fun h' u tk hk => ?_) hz
    exact formatField_str (fun t' tk' => ⟨.str _, H1, I1.kept hk, ⟨t', rfl⟩, q1⟩) hz
/-! ### list.count(True) -/
def rCountU : V → List V → Hp → VK → Prop := fun x vs H Q => match x, vs with
  | .ref l, [.bl b] => ∃ bs : List Bool, H l = some (.lst (bs.map V.bl)) ∧ Q (.int (bs.countP (· == b) : Nat)) H
  | _, _ => False
theorem rCountU_ref (l : Addr) (b : Bool) (H : Hp) (Q : VK) : rCountU (.ref l) [.bl b] H Q = (∃ bs : List Bool, H l = some (.lst (bs.map V.bl)) ∧ Q (.int (bs.countP (· == b) : Nat)) H) := rfl
theorem count_bools (b : Bool) : ∀ {bs : List Bool} {us : List Value}, Vals (bs.map V.bl) us → (∀ u ∈ us, ∃ c, u = .bool c) ∧ us.countP (fun u => u == .bool b) = bs.countP (· == b)
  | [], us, r => by rw [List.map_nil] at r; cases r; simp
  | c :: bs, us, r => by
    rw [List.map_cons] at r
    cases r with
    | cons r1 r2 =>
      cases r1
      obtain ⟨h1, h2⟩ := count_bools b r2
      refine ⟨fun u hu => ?_, ?_⟩
      · rcases List.mem_cons.mp hu with rfl | h
        · exact ⟨c, rfl⟩
        · exact h1 u h
      · rw [List.countP_cons, List.countP_cons, h2]
        cases b <;> cases c <;> rfl
theorem mt_countU : MtM X "list.count" rCountU := by
  intro pins s σ H x vs v us Q I rx rv h
  unfold rCountU at h
  split at h
  · rename_i l b
    obtain ⟨bs, e, q⟩ := h
    cases rx
    obtain ⟨u, rfl, ru⟩ := rv.one
    cases ru
    obtain ⟨its, rr, pl, _⟩ := I.list (SqL.of e)
    obtain ⟨h1, h2⟩ := count_bools b rr
    obtain ⟨⟨oc, od, odt, osl⟩, ho, hc, n, hd⟩ := pl.isList
    dsimp only at hc hd
    subst hc hd
    refine call_meets PySem.F.slot_list_count ⟨_, ho, rfl⟩ PySem.F.entry_list_count (PySem.F.args_list_count_2 _ _) (PySem.SeqAt.list_countAt l its.toArray n od osl (.bool b) (fun u => u == .bool b)) ⟨ho, fun y hy => ?_, ?_⟩
    · obtain ⟨c, rfl⟩ := h1 y (by simpa using hy)
      have e : (Value.bool c == Value.bool b) = (c == b) := by cases b <;> cases c <;> rfl
      rw [e]
      exact PySem.SeqAt.EqAt.bool_bool c b
    · have e : (its.toArray.toList.countP fun u => u == .bool b) = bs.countP (· == b) := by simpa using h2
      rw [e]
      exact ⟨.int _, H, I.tok _, ⟨_, rfl⟩, q⟩
  · exact h.elim
end
end L2


/-! part L4i -/
set_option Elab.async false
set_option linter.all false
set_option maxRecDepth 100000
set_option maxHeartbeats 4000000
set_option autoImplicit true
set_option relaxedAutoImplicit true
namespace L2
open PySem PySem.Spec PyProof.Rows
/-! ### the rules for errors, closed -/
section
variable {X : Cx} {K : PySem.W.Frag}
theorem bt_ValueError : bootBuiltins "ValueError" = some (.type "ValueError") := by decide +kernel
theorem qpe_exc0 {x : Str} {p pos : Pos} {C D N : Addr} (hK : X.K = K) (c : XC K C D N) (ni : PySem.W.nsIn K N "__init__" = some none) (hg : Gl X x) (hm : X.mg x = some (.ref C)) (hdb : (x == ("__debug__" : Str)) = false := by decide) :
    QE X (.Call (.Name x p) [] [] pos) (tExc0 C) := by subst hK; exact ⟨pe_exc0 c ni hg hm hdb⟩
theorem qpe_excI {x : Str} {p pos : Pos} {k : Nat} {f C D N : Addr} {fd : FuncData} {ps : List Str} {sp : Sp} {e : Expr} {es : List Expr} {t : TA} (hK : X.K = K) (c : XC K C D N) (hi : PySem.W.nsIn K N "__init__" = some (some (.ref f))) (hf : ∃ o, K.lookup f = some o ∧ o.cls = .type "function")
    (F : FnOk X.prog X.w K X.mg X.base CX0 k f fd ps sp) (hr : Room (k + 1) X.A) (hb : Binds K fd ps []) (hg : Gl X x) (hm : X.mg x = some (.ref C)) (ha : QA X (e :: es) t) (hps : ps.length ≤ sizeLine := by decide)
    (hdb : (x == ("__debug__" : Str)) = false := by decide) (he : starEach (e :: es) X.env = (false, eval e X.env) :: starEach es X.env := by rfl) (hpl : (backTo pos (starEach es X.env)).any (·.1) = false := by rfl) :
    QE X (.Call (.Name x p) (e :: es) [] pos) (tExcI C sp t) := by subst hK; exact ⟨pe_excI c hi hf F hr hb hg hm ha.h hps hdb he hpl⟩
theorem qpe_excInit {x : Str} {p pos apos : Pos} {e : Expr} {es : List Expr} {t : TA} {D : Addr} (hK : X.K = K) (xd : XD K D) (hg : Gl X x) (hm : X.mg x = some (.ref D)) (ha : QA X (e :: es) t) (hdb : (x == ("__debug__" : Str)) = false := by decide)
    (he : starEach (e :: es) X.env = (false, eval e X.env) :: starEach es X.env := by rfl) (hpl : (backTo pos (starEach es X.env)).any (·.1) = false := by rfl) {pl : Sem Bool}
    (ht : eval (.Call (.Attribute (.Name x p) "__init__" apos) (e :: es) [] pos) X.env = (do
      let ov ← eval (.Name x p) X.env
      standAt apos.atName
      let (f, first) ← holding [ov] (getMethod ov "__init__" pl)
      callWith pos f first (backTo pos (starEach (e :: es) X.env)) (backToKw pos (keywordEach [] X.env))) := by rfl) :
    QE X (.Call (.Attribute (.Name x p) "__init__" apos) (e :: es) [] pos) (tExcInit K t) := by subst hK; exact ⟨pe_excInit xd hg hm ha.h hdb he hpl ht⟩
theorem qps_excSet {o value : Expr} {f : Str} {pos pos' : Pos} {ta tv : TE} (hK : X.K = K) (ha : QE X o ta) (hv : QE X value tv) (hs : swapsWith value (some (.Attribute o f pos')) pos.line X.env = pure false) : QS X (.Assign [.Attribute o f pos'] value pos) (sExcSet K ta tv f) := by
  subst hK; exact ⟨ps_excSet ha.h hv.h hs⟩
theorem qpe_excFld {e : Expr} {f : Str} {pos : Pos} {ta : TE} (hK : X.K = K) (he : QE X e ta) (hb : attributeBase e f X.env (eval e X.env) = eval e X.env) : QE X (.Attribute e f pos) (tExcFld K ta f) := by subst hK; exact ⟨pe_excFld he.h hb⟩
theorem qpe_fmtI {a : Expr} {te : TE} {pos : Pos} (ha : QE X a te) : QE X (.FormattedValue a (-1) none pos) (tFmtI te) := ⟨pe_fmtI ha.h⟩
theorem qpe_fmtR {a : Expr} {te : TE} {pos : Pos} (hg : X.A.guards = some []) (hu : X.A.units + 64 < cLine) (ha : QE X a te) : QE X (.FormattedValue a 114 none pos) (tFmtR te) := ⟨pe_fmtR hg hu ha.h⟩
end
/-! ### one class against another -/
theorem kit_self {K : PySem.W.Frag} {C : Addr} : PySem.W.kitOne K (.ref C) (.ref C) = some true := if_pos (by simp)
end L2


/-! part L4j -/
set_option Elab.async false
set_option linter.all false
set_option maxRecDepth 100000
set_option maxHeartbeats 4000000
namespace HT
open PySem PyProof.Rows
section
open PySem.AutoSeq1 (wpAny_loadPart')
open PySem.MeetsSeq PySem.MeetsSeq2 PySem.MeetsSeq3
theorem tuple_add0 (l b : Addr) (items2 : Array Value) (n n2 : Nat) (dd dd2 : Option Addr) (sl sl2 : Array (Option Value)) :
    Meets (Builtin.«tuple.__add__» ⟨[.ref l, .ref b], []⟩)
      (fun _ R s => s.heap.get? l = some { cls := .type "tuple", dict := dd, data := .seq #[] n, slots := sl } ∧ s.heap.get? b = some { cls := .type "tuple", dict := dd2, data := .seq items2 n2, slots := sl2 } ∧ R (.ok (.ret (.ref b))) s) :=
  .of_wp fun prog w A R s h => by
    obtain ⟨hp, g, d, tk, os⟩ := s; obtain ⟨hl, hb, h⟩ := h
    have f2 := AutoSeq1.sub_tuple_tuple
    wp_walk using wpAny_loadPart' hl, wpAny_loadPart' hb
    exact ⟨_, rfl, h⟩
end
end HT
namespace L2
open PySem PySem.Spec PyProof.Rows
section
variable {X : Cx}
/-- t + u, u not empty -/
def rAddT : R2 := fun x y H Q => ∃ a b xs ys, x = .ref a ∧ y = .ref b ∧ H a = some (.tup xs) ∧ H b = some (.tup ys) ∧ ys ≠ [] ∧ xs.length + ys.length ≤ sizeLine ∧ (xs = [] → Q (.ref b) H) ∧ (xs ≠ [] → ∀ p, H p = none → Q (.ref p) (upd H p (.tup (xs ++ ys))))
theorem op_addT : OpR X (binaryOp .Add) rAddT := by
  intro pins s σ H x y v u Q I rx ry h
  obtain ⟨a, b, xs, ys, rfl, rfl, ha, hb, hy, hz, q0, q1⟩ := h
  by_cases hx : xs = []
  · subst hx
    cases rx
    cases ry
    obtain ⟨its, r1, p1, _⟩ := I.tuple (SqT.of ha)
    obtain ⟨its2, r2, p2, _⟩ := I.tuple (SqT.of hb)
    cases r1
    obtain ⟨⟨cls, dd, data, sl⟩, ho, hc, n, hd⟩ := id p1
    obtain ⟨⟨cls2, dd2, data2, sl2⟩, ho2, hc2, n2, hd2⟩ := id p2
    simp only at hc hd hc2 hd2
    subst hc hd hc2 hd2
    exact concat_meets ⟨_, ho, rfl⟩ ⟨_, ho2, rfl⟩ noFill_tuple_add seq_tuple_add PySem.F.slot_tuple_add PySem.F.entry_tuple_add (PySem.F.args_tuple_add_2 _ _)
      (HT.tuple_add0 a b its2.toArray n n2 dd dd2 sl sl2) ⟨ho, ho2, .ref b, H, I, rfl, q0 rfl⟩
  · exact op_addW pins s σ H _ _ v u Q I rx ry (.inr ⟨xs, ys, by rw [ha]; rfl, by rw [hb]; rfl, hx, hy, hz, q1 hx⟩)
end
end L2


/-! part L4k -/
set_option Elab.async false
set_option linter.all false
set_option maxRecDepth 100000
set_option maxHeartbeats 4000000
set_option autoImplicit true
set_option relaxedAutoImplicit true
namespace L2
open PySem PySem.Spec PyProof.Rows
theorem ns_ok {K : PySem.W.Frag} {N : Addr} {no : Value} {nd : Option Addr} {es : Array DictEntry} {en : Nat} {nl : Array (Option Value)} (l : K.lookup N = some ⟨no, nd, .dict es en, nl⟩) (e : (es.all fun e => match e.key with | .str _ _ => true | _ => false) = true) : PySem.W.nsOkIn K N = true := by
  unfold PySem.W.nsOkIn
  rw [l]
  exact e
section
variable {K : PySem.W.Frag} {C C' D N N' : Addr} {nm q nm' q' : Str} {bs bm bs' bm' : List Value} {sn sn' : List Str} {sub sub' : List Value} {ab ab' hd hd' : Bool} {col col' : Option Bool} {dd dd' : Option Addr} {k0 k1 k2 k3 k5 j0 j1 j2 j3 j5 : Option Value} {nid nid' : String}
theorem tail_ok (l : K.lookup D = some (excClassObj nm q D N bs bm hd sn sub ab col dd k0 k1 k2 k3 k5 nid)) (ns : PySem.W.nsOkIn K N = true) (i : PySem.W.nsIn K N "__init__" = some none) : PySem.W.tailIn K bmVE (.ref D :: bmVE) = true := by
  unfold PySem.W.tailIn
  dsimp only
  rw [l]
  dsimp only
  rw [ns, i]
  have : PySem.W.tailIn K bmVE bmVE = true := by
    unfold PySem.W.tailIn
    simp
  rw [this]
  simp
theorem kit_sub {c : Value} (l : K.lookup C = some (excClassObj nm q C N bs bm hd sn sub ab col dd k0 k1 k2 k3 k5 nid)) : PySem.W.subIn K (.ref C) c = some ((Value.ref C :: bm).contains c) := by
  unfold PySem.W.subIn PySem.W.mroIn PySem.W.clsIn
  dsimp only
  rw [l]
  rfl
theorem kit_ne (l : K.lookup C = some (excClassObj nm q C N bs (.ref D :: bmVE) hd sn sub ab col dd k0 k1 k2 k3 k5 nid)) (l' : K.lookup C' = some (excClassObj nm' q' C' N' bs' bm' hd' sn' sub' ab' col' dd' j0 j1 j2 j3 j5 nid')) (ty : PySem.W.typeIn K (.ref C') = some (.type "type")) (n : C ≠ C') (nD : C' ≠ D) :
    PySem.W.kitOne K (.ref C) (.ref C') = some false := by
  unfold PySem.W.kitOne
  rw [if_neg (by simpa using n)]
  unfold PySem.W.kitCls
  have : ((PySem.W.clsIn K C').isSome && PySem.W.typeIn K (.ref C') == some (.type "type")) = true := by
    rw [ty]
    unfold PySem.W.clsIn
    rw [l']
    rfl
  dsimp only
  rw [if_pos this, kit_sub l]
  simp [Ne.symm n, nD]
theorem kit_D (l : K.lookup C = some (excClassObj nm q C N bs (.ref D :: bmVE) hd sn sub ab col dd k0 k1 k2 k3 k5 nid)) (l' : K.lookup D = some (excClassObj nm' q' D N' bs' bm' hd' sn' sub' ab' col' dd' j0 j1 j2 j3 j5 nid')) (ty : PySem.W.typeIn K (.ref D) = some (.type "type")) (n : C ≠ D) :
    PySem.W.kitOne K (.ref C) (.ref D) = some true := by
  unfold PySem.W.kitOne
  rw [if_neg (by simpa using n)]
  unfold PySem.W.kitCls
  have : ((PySem.W.clsIn K D).isSome && PySem.W.typeIn K (.ref D) == some (.type "type")) = true := by
    rw [ty]
    unfold PySem.W.clsIn
    rw [l']
    rfl
  dsimp only
  rw [if_pos this, kit_sub l]
  simp
theorem kit_V (l : K.lookup C = some (excClassObj nm q C N bs (.ref D :: bmVE) hd sn sub ab col dd k0 k1 k2 k3 k5 nid)) : PySem.W.kitOne K (.ref C) (.type "ValueError") = some true := by
  unfold PySem.W.kitOne
  rw [if_neg (by simp)]
  unfold PySem.W.kitCls
  dsimp only
  rw [if_pos (by decide +kernel), kit_sub l]
  simp
end
end L2


/-! part M02 -/
set_option linter.all false
namespace My
open PySem
def toS (l : List Nat) : Str := ⟨l.toArray⟩
theorem toS_app (l : List Nat) (c : Nat) : toS l ++ (⟨#[c]⟩ : Str) = toS (l ++ [c]) := by
  show (⟨l.toArray ++ #[c]⟩ : Str) = ⟨(l ++ [c]).toArray⟩
  simp
theorem toS_pre (l : List Nat) (c : Nat) : (⟨#[c]⟩ : Str) ++ toS l = toS (c :: l) := by
  show (⟨#[c] ++ l.toArray⟩ : Str) = ⟨(c :: l).toArray⟩
  simp
theorem toS_len (l : List Nat) : (toS l).length = l.length := by simp [toS, Str.length]
theorem toS_self (z : Str) : toS z.cps.toList = z := by cases z; simp [toS]
def more (L : List Nat) (ts : List (List Nat)) : List (List Nat) := ts.flatMap fun t => L.map fun c => t ++ [c]
def lev (L : List Nat) : Nat → List (List Nat)
  | 0 => [[]]
  | n + 1 => more L (lev L n)
def allT (L : List Nat) : Nat → List (List Nat)
  | 0 => [[]]
  | n + 1 => allT L n ++ lev L (n + 1)
def dig (L : List Nat) : Nat → Nat → List Nat
  | 0, _ => []
  | s + 1, k => dig L s (k / L.length) ++ [L.getD (k % L.length) 0]
theorem range_mul (a m : Nat) : List.range (a * m) = (List.range a).flatMap fun q => (List.range m).map fun r => q * m + r := by
  induction a with
  | zero => simp
  | succ a ih =>
    rw [Nat.succ_mul, List.range_add, ih, List.range_succ, List.flatMap_append]
    simp
theorem map_range_getD (L : List Nat) {β : Type} (f : Nat → β) : L.map f = (List.range L.length).map fun r => f (L.getD r 0) := by
  apply List.ext_getElem?
  intro i
  by_cases h : i < L.length
  · simp [h]
  · simp [h]
theorem lev_dig (L : List Nat) : ∀ s, lev L s = (List.range (L.length ^ s)).map (dig L s)
  | 0 => by simp [lev, dig]
  | s + 1 => by
    rw [lev, lev_dig L s, more, Nat.pow_succ, range_mul, List.map_flatMap, List.flatMap_map]
    congr 1
    funext q
    rw [map_range_getD, List.map_map]
    apply List.map_congr_left
    intro r hr
    have hr' : r < L.length := List.mem_range.mp hr
    have hm : 0 < L.length := by omega
    have e1 : (q * L.length + r) / L.length = q := by
      rw [Nat.mul_comm, Nat.mul_add_div hm, Nat.div_eq_of_lt hr']; omega
    have e2 : (q * L.length + r) % L.length = r := by
      rw [Nat.mul_comm, Nat.mul_add_mod, Nat.mod_eq_of_lt hr']
    simp only [Function.comp, dig, e1, e2]
theorem lev_len (L : List Nat) (s : Nat) : (lev L s).length = L.length ^ s := by rw [lev_dig]; simp
theorem lev_word (L : List Nat) : ∀ s, ∀ t ∈ lev L s, t.length = s ∧ ∀ c ∈ t, c ∈ L
  | 0, t, h => by simp [lev] at h; subst h; simp
  | s + 1, t, h => by
    rw [lev, more] at h
    simp only [List.mem_flatMap, List.mem_map] at h
    obtain ⟨u, hu, c, hc, rfl⟩ := h
    obtain ⟨h1, h2⟩ := lev_word L s u hu
    refine ⟨by simp [h1], fun d hd => ?_⟩
    rcases List.mem_append.mp hd with hd | hd
    · exact h2 d hd
    · simp at hd; subst hd; exact hc
theorem allT_word (L : List Nat) : ∀ n, ∀ t ∈ allT L n, t.length ≤ n ∧ ∀ c ∈ t, c ∈ L
  | 0, t, h => by simp [allT] at h; subst h; simp
  | n + 1, t, h => by
    rw [allT] at h
    rcases List.mem_append.mp h with h | h
    · obtain ⟨h1, h2⟩ := allT_word L n t h; exact ⟨by omega, h2⟩
    · obtain ⟨h1, h2⟩ := lev_word L _ t h; exact ⟨by omega, h2⟩
/-- the texts told by numbers -/
def dueT (L : List Nat) : Nat → List (List Nat)
  | 0 => []
  | n + 1 => dueT L n ++ (List.range (L.length ^ n)).map (dig L n)
theorem due_all (L : List Nat) : ∀ n, dueT L (n + 1) = allT L n
  | 0 => by simp [dueT, allT, dig]
  | n + 1 => by rw [dueT, due_all L n, allT, lev_dig]
theorem pow_le {m n : Nat} (hm : m ≤ 4) (h1 : 1 ≤ m) (hn : n ≤ 7) : m ^ n ≤ 16384 :=
  Nat.le_trans (Nat.pow_le_pow_left hm n) (Nat.le_trans (Nat.pow_le_pow_right (by decide) hn) (by decide))
theorem allT_len {L : List Nat} (hm : L.length ≤ 4) (h1 : 1 ≤ L.length) : ∀ n, n ≤ 7 → (allT L n).length ≤ (n + 1) * 16384
  | 0, _ => by simp [allT]
  | n + 1, h => by
    rw [allT, List.length_append, lev_len]
    have := allT_len hm h1 n (by omega)
    have := pow_le hm h1 h
    omega
/-- the digits, taken from behind -/
theorem dig_step (L : List Nat) (s k : Nat) (t : List Nat) : dig L (s + 1) k ++ t = dig L s (k / L.length) ++ (L.getD (k % L.length) 0 :: t) := by simp [dig]
end My


/-! part M42 -/
set_option Elab.async false
set_option linter.all false
set_option maxRecDepth 100000
set_option maxHeartbeats 4000000
namespace My
open PySem L2 PyProof.Rows
/-! ### texts put together of pieces -/
def sg (z : Str) : List Nat := z.cps.toList
theorem sg_len (z : Str) : (sg z).length = z.length := by simp [sg, Str.length]
theorem sg_app (x y : Str) : sg (x ++ y) = sg x ++ sg y := by simp [sg, Str.cps_append]
theorem sg_inj {x y : Str} (h : sg x = sg y) : x = y := by
  cases x; cases y
  simp only [sg] at h
  rw [Array.toList_inj.mp h]
theorem sg_nil : sg (⟨#[]⟩ : Str) = [] := rfl
theorem join0 : ∀ l : List Str, sg (Str.join ⟨#[]⟩ l) = (l.map sg).flatten
  | [] => rfl
  | x :: l => by rw [join_nil_cons, sg_app, join0 l]; rfl
theorem joinT (l : List Str) : sg (Txt.join (Str.ofString "") l) = (l.map sg).flatten := by
  have e0 : (Str.ofString "") = (⟨#[]⟩ : Str) := by decide +kernel
  have e := eq_of_beq (join_plain_closes ⟨#[]⟩ l)
  rw [e0, e, join0]
def tx (T : List Str) (i : Nat) : Str := (T[i]?).getD ⟨#[]⟩
def pcL (T : List Str) : V → List Nat
  | .str s => sg s
  | .int i => sg (tx T i.toNat)
  | _ => []
def pw (T : List Str) : V → Nat
  | .str _ => 1
  | .int i => 2 * (tx T i.toNat).length
  | _ => 0
def cat (T : List Str) (l : List V) : List Nat := (l.map (pcL T)).flatten
def wsum (T : List Str) (l : List V) : Nat := (l.map (pw T)).sum
theorem cat_app (T : List Str) (a b : List V) : cat T (a ++ b) = cat T a ++ cat T b := by simp [cat]
theorem wsum_app (T : List Str) (a b : List V) : wsum T (a ++ b) = wsum T a + wsum T b := by simp [wsum]
theorem wsum_rev (T : List Str) : ∀ l : List V, wsum T l.reverse = wsum T l
  | [] => rfl
  | x :: l => by
    rw [List.reverse_cons, wsum_app, wsum_rev T l]
    simp [wsum]
    omega
def isPc (n : Nat) (x : V) : Prop := (∃ s, x = .str s) ∨ ∃ i : Nat, x = .int (i : Int) ∧ i < n
structure Wr (n : Nat) (pc : Nat → List V) (T : List Str) : Prop where
  pos : 0 < n
  few : n ≤ 1000
  len : T.length = n
  ok : ∀ k, k < n → ∀ x ∈ pc k, isPc k x
  sz : ∀ k, k < n → (pc k).length ≤ 100
  eq : ∀ k, k < n → sg (tx T k) = cat T (pc k)
  bd : ∀ k, (tx T k).length ≤ 50000
  wt : ∀ k, k < n → wsum T (pc k) < 2 * (tx T k).length
theorem wsum_ge (T : List Str) {n : Nat} (h1 : ∀ i, i < n → 1 ≤ (tx T i).length) : ∀ l : List V, (∀ x ∈ l, isPc n x) → l.length ≤ wsum T l
  | [], _ => Nat.zero_le _
  | x :: l, h => by
    have ih := wsum_ge T h1 l fun y hy => h y (.tail _ hy)
    have e : wsum T (x :: l) = pw T x + wsum T l := by simp [wsum]
    have : 1 ≤ pw T x := by
      rcases h x (.head _) with ⟨s, rfl⟩ | ⟨i, rfl, hi⟩
      · exact Nat.le_refl _
      · have := h1 i hi
        simp [pw]
        omega
    rw [e, List.length_cons]
    omega
theorem Wr.one {n : Nat} {pc : Nat → List V} {T : List Str} (W : Wr n pc T) {i : Nat} (h : i < n) : 1 ≤ (tx T i).length := by have := W.wt i h; omega
theorem len_flat (T : List Str) (l : List V) : (cat T l).length = (l.map fun x => (pcL T x).length).sum := by
  simp [cat, List.length_flatten, List.map_map]
  rfl
theorem isPc.mono {m n : Nat} {x : V} (h : isPc m x) (k : m ≤ n) : isPc n x := by
  rcases h with h | ⟨i, e, hi⟩
  · exact .inl h
  · exact .inr ⟨i, e, by omega⟩
theorem last_of {α : Type} {xs : List α} {x : α} (h : xs[xs.length - 1]? = some x) : xs = xs.dropLast ++ [x] := by
  have hne : xs ≠ [] := by rintro rfl; simp at h
  have e := List.dropLast_concat_getLast hne
  have e2 : xs.getLast hne = x := by
    rw [List.getLast_eq_getElem hne]
    have := (List.getElem?_eq_some_iff.mp h).2
    exact this
  rw [← e2, e]
theorem atI_m1 {α : Type} {xs : List α} {v : α} (h : xs[xs.length - 1]? = some v) : atI xs (-1) = some v := by
  rw [last_of h]
  exact atI_last _ _
theorem cat_mem (T : List Str) : ∀ (l : List V) (x : V), x ∈ l → (pcL T x).length ≤ (cat T l).length
  | [], x, h => nomatch h
  | y :: l, x, h => by
    have e : cat T (y :: l) = pcL T y ++ cat T l := by simp [cat]
    rw [e, List.length_append]
    rcases List.mem_cons.mp h with rfl | h
    · omega
    · have := cat_mem T l x h
      omega
theorem Wr.pc_le {n : Nat} {pc : Nat → List V} {T : List Str} (W : Wr n pc T) {i : Nat} (h : i < n) {x : V} (hx : x ∈ pc i) : (pcL T x).length ≤ 50000 := by
  have h1 := cat_mem T (pc i) x hx
  rw [← W.eq i h, sg_len] at h1
  have := W.bd i
  omega
theorem Wr.sum {n : Nat} {pc : Nat → List V} {T : List Str} (W : Wr n pc T) {i : Nat} (h : i < n) : ((pc i).map fun x => (pcL T x).length).sum = (tx T i).length := by
  rw [← len_flat, ← W.eq i h, sg_len]
theorem sum_nat : ∀ l : List Nat, (l.map fun n : Nat => (n : Int)).sum = ((l.sum : Nat) : Int)
  | [] => rfl
  | x :: l => by simp [sum_nat l]
end My


/-! part H99 -/
set_option Elab.async false
set_option linter.all false
set_option maxRecDepth 100000
set_option maxHeartbeats 4000000
namespace My
open PySem L2
local macro_rules
  | `(tactic| simp!) => `(tactic| simp only [tSeq, tIfS, tCut, tTest, tOp, tVar, tC, tAsg, gName, gSub, tRet, tRetN, tNext, tCont, tBreak, tDrop, tAnd, tOr, tNot, tAndV, tOrV, tNotV, tB, tIf, tChain, tCall, rI0, rI, rAddW_int, rAddW_str, rMulW_int, rMulW_ref, rLtU_int, rLtU_str, rLeU_int, rLeU_str, rIxU_str, rIxU_ref, rLenU_str, rLenU_ref, rMinU_int, rMaxU_int, rIntU_int, rIntU_bl, rListU_str, rListU_ref, rPopU_ref, rAppendU_ref, rExtendU_ref, rClearU_ref, rEqU_int, rEqU_bl, rEqU_str, rEqU_ref, rNeU_int, rNeU_bl, rNeU_str, rNeU_ref, rIsU_ty, rSetU_ref, isL_ref, lstOf_lst, tupOf_tup, seqOf_lst, seqOf_tup, Option.isSome_some, tBML, tBML0, tCB, tCons, tNil, tLst, tTup, tRevS, tSl, tPart, tNoPart, rSlU_str, iAny, iRng1, iRng2, iEnumS, tDisp1, tDNotIn, tDIn, sDPut, tAug, ipI, tFor_eq, tComp, tCompIf, compSt, rDictT_ref, iDict, tUn, rU, tCallV, tTru, rTru_ref, rTru_bl, rTru_str, rPop0U_ref, rSumU_ref, rRev_ref, tListRev, rStrK_str, tFmt, tJnil, tJcons, tJoin, tBMS, isS_str, rInU_str, tExc0, tExcI, tExcInit, sExcSet, tExcFld, tFmtI, tFmtR, rIsX_ty, rIsX_ref, rCountU_ref, tLenSet, rLenSet_str, iZipS, rFindU_str, rIndexU_str, rMulS_str, rLtL, rAllU_ref, rAnyU_ref, Option.bind_some, Option.bind_none, Option.getD_some, L2.start, List.map_cons, List.map_nil, List.length_cons, List.length_nil, List.cons_append, List.nil_append, List.append_nil, List.cons.injEq, List.replicate, List.getElem?_cons_zero, List.getElem?_cons_succ, List.set_cons_zero, List.set_cons_succ, Nat.reduceSub, Nat.reduceAdd, Nat.reduceLeDiff, Option.some.injEq, V.int.injEq, V.bl.injEq, V.str.injEq, V.ref.injEq, HO.lst.injEq, HO.tup.injEq, exists_eq_left', exists_eq_left, exists_and_left, true_and, and_true, upd_same, upd_upd, atI_0, atI_1, atI_2, Bool.not_true, Bool.not_false, decide_eq_true_eq, Bool.false_eq_true, if_false, if_true, reduceIte, reduceCtorEq])
  | `(tactic| simp! [$ls,*]) => `(tactic| simp only [tSeq, tIfS, tCut, tTest, tOp, tVar, tC, tAsg, gName, gSub, tRet, tRetN, tNext, tCont, tBreak, tDrop, tAnd, tOr, tNot, tAndV, tOrV, tNotV, tB, tIf, tChain, tCall, rI0, rI, rAddW_int, rAddW_str, rMulW_int, rMulW_ref, rLtU_int, rLtU_str, rLeU_int, rLeU_str, rIxU_str, rIxU_ref, rLenU_str, rLenU_ref, rMinU_int, rMaxU_int, rIntU_int, rIntU_bl, rListU_str, rListU_ref, rPopU_ref, rAppendU_ref, rExtendU_ref, rClearU_ref, rEqU_int, rEqU_bl, rEqU_str, rEqU_ref, rNeU_int, rNeU_bl, rNeU_str, rNeU_ref, rIsU_ty, rSetU_ref, isL_ref, lstOf_lst, tupOf_tup, seqOf_lst, seqOf_tup, Option.isSome_some, tBML, tBML0, tCB, tCons, tNil, tLst, tTup, tRevS, tSl, tPart, tNoPart, rSlU_str, iAny, iRng1, iRng2, iEnumS, tDisp1, tDNotIn, tDIn, sDPut, tAug, ipI, tFor_eq, tComp, tCompIf, compSt, rDictT_ref, iDict, tUn, rU, tCallV, tTru, rTru_ref, rTru_bl, rTru_str, rPop0U_ref, rSumU_ref, rRev_ref, tListRev, rStrK_str, tFmt, tJnil, tJcons, tJoin, tBMS, isS_str, rInU_str, tExc0, tExcI, tExcInit, sExcSet, tExcFld, tFmtI, tFmtR, rIsX_ty, rIsX_ref, rCountU_ref, tLenSet, rLenSet_str, iZipS, rFindU_str, rIndexU_str, rMulS_str, rLtL, rAllU_ref, rAnyU_ref, Option.bind_some, Option.bind_none, Option.getD_some, L2.start, List.map_cons, List.map_nil, List.length_cons, List.length_nil, List.cons_append, List.nil_append, List.append_nil, List.cons.injEq, List.replicate, List.getElem?_cons_zero, List.getElem?_cons_succ, List.set_cons_zero, List.set_cons_succ, Nat.reduceSub, Nat.reduceAdd, Nat.reduceLeDiff, Option.some.injEq, V.int.injEq, V.bl.injEq, V.str.injEq, V.ref.injEq, HO.lst.injEq, HO.tup.injEq, exists_eq_left', exists_eq_left, exists_and_left, true_and, and_true, upd_same, upd_upd, atI_0, atI_1, atI_2, Bool.not_true, Bool.not_false, decide_eq_true_eq, Bool.false_eq_true, if_false, if_true, reduceIte, reduceCtorEq, $ls,*])
def top (i : Nat) : Stmt := PySem.Challenge.pw_calmword_k99_refusals_made.main.body.getD i (.Pass ⟨0, 0, 0, 0⟩)
def meth (st : Stmt) : Stmt := match st with
  | .ClassDef _ _ _ body _ _ _ _ _ _ _ => body.getD 0 (.Pass ⟨0, 0, 0, 0⟩)
  | s => s
/-! ### the drawing of inputs -/
def BoxO (o : HO) : Prop := ∃ c s, o = .lst [.int c, .int s] ∧ 1 ≤ s ∧ s ≤ 2147483629
def spTake : Sp := fun vs H Q _ => ∃ b w o, vs = [.ref b, .int w] ∧ H b = some o ∧ BoxO o ∧ 0 < w ∧ w < 1073741824 ∧ ∀ d o, 0 ≤ d → d < w → BoxO o → Q (.int d) (upd H b o)
def spBox (K : PySem.W.Frag) : Sp := fun vs H Q _ => ∃ (a : Addr) (k : Int) (ns : List Int), vs = [.ref a, .int k] ∧ SqL K H a (ns.map V.int) ∧ 0 ≤ k ∧ k ≤ 1000 ∧ ∀ b o, H b = none → BoxO o → Q (.ref b) (upd H b o)
section
variable {P : Program} {w : World} {K : PySem.W.Frag} {mg : Str → Option Value} {base : Heap}
abbrev s__law_take : Stmt := top 16
theorem sc__law_take : FnScope ["_law_box_here", "_law_wide", "_law_digit", "_law_one"] ["_law_box_here", "_law_wide"] (defScope s__law_take) := ⟨rfl, rfl, rfl, by decide +kernel, rfl, by decide +kernel, by decide +kernel⟩
theorem ok__law_take {f : Addr} {fd : FuncData} (F : Fun K "_law_take" "_law_take" s__law_take f fd) : FnOk P w K mg base CX0 1 f fd ["_law_box_here", "_law_wide"] spTake := by
  refine F.ok sc__law_take (fun vs H Q E h => ?_) (fun cdv A outer s H vs Q E hr h => ?_)
  · obtain ⟨b, w, o, rfl, _⟩ := h
    rfl
  · obtain ⟨b, w, o, rfl, hb, ⟨c, sd, rfl, s1, s2⟩, w0, w1, k⟩ := h
    refine ⟨_, (QSs.h (qpss_cons (qps_if (qpt_cmpR op_gt (qpe_ix ix_U (qpv 0) qpe_int (fun _ _ => rfl)) qpe_int (nomark _)) (qpss_cons (qps_set (i := 2) sc__law_take.nd rfl (by first | exact Or.inl rfl | exact Or.inr rfl) (qpe_op op_mod (qpe_ix ix_U (qpv 0) qpe_int (fun _ _ => rfl)) (qpv 1)))
    (qpss_cons (qps_asg (qpe_op op_fdiv (qpe_ix ix_U (qpv 0) qpe_int (fun _ _ => rfl)) (qpv 1)) (qpg_sub (qpv 0) qpe_int set_U))
    (qpss_one (qps_ret (qpv 2))))) qpss_nil)
    (qpss_cons (qps_set (i := 3) sc__law_take.nd rfl (by first | exact Or.inl rfl | exact Or.inr rfl) (qpe_op op_mod (qpe_op op_mulW (qpe_ix ix_U (qpv 0) qpe_int (fun _ _ => rfl)) qpe_int) qpe_int))
    (qpss_cons (qps_asg (qpe_op op_addW (qpe_op op_mod (qpe_op op_addW (qpe_op op_mulW (qpv 3) qpe_int) qpe_int) qpe_int) qpe_int) (qpg_sub (qpv 0) qpe_int set_U))
    (qpss_one (qps_ret (qpe_op op_mod (qpe_op op_fdiv (qpe_op op_addW (qpe_op op_mulW (qpv 3) qpe_int) (qpe_ix ix_U (qpv 0) qpe_int (fun _ _ => rfl))) qpe_int) (qpv 1)))))))), ?_⟩
    have m1 : ∀ z m : Int, 0 < m → 0 ≤ z % m ∧ z % m < m := fun z m h => ⟨Int.emod_nonneg z (by omega), Int.emod_lt_of_pos z h⟩
    simp! [hb]
    refine ite2 (fun hc => ?_) (fun _ => ?_)
    · refine ⟨w0, ⟨w0, w1⟩, 0, rfl, ?_⟩
      simp! [hb]
      exact k _ _ (m1 c w w0).1 (m1 c w w0).2 ⟨_, _, rfl, s1, s2⟩
    · have q1 := m1 (sd * 69623) 2147483647 (by decide)
      refine ⟨.inl ⟨by omega, by omega⟩, by decide, .inl ⟨by omega, by omega⟩, by decide, 1, rfl, ?_⟩
      simp! [hb]
      have q2 := m1 (sd * 69623 % 2147483647 * 48271 + 30103) 2147483629 (by decide)
      refine ⟨.inl ⟨by omega, by omega⟩, ⟨by decide, by decide⟩, w0, ?_⟩
      exact k _ _ (m1 _ w w0).1 (m1 _ w w0).2 ⟨_, _, rfl, by omega, by omega⟩
structure TBox (mg : Str → Option Value) : Prop where
  n_len : mg "len" = none
  n_int : mg "int" = none
abbrev s__law_box : Stmt := top 15
theorem sc__law_box : FnScope ["_law_script", "_law_k", "_law_cell", "_law_seed"] ["_law_script", "_law_k"] (defScope s__law_box) := ⟨rfl, rfl, rfl, by decide +kernel, rfl, by decide +kernel, by decide +kernel⟩
theorem ok__law_box {f : Addr} {fd : FuncData} (F : Fun K "_law_box" "_law_box" s__law_box f fd) (T : TBox mg) : FnOk P w K mg base CX0 1 f fd ["_law_script", "_law_k"] (spBox K) := by
  refine F.ok sc__law_box (fun vs H Q E h => ?_) (fun cdv A outer s H vs Q E hr h => ?_)
  · obtain ⟨a, k, ns, rfl, _⟩ := h
    rfl
  · obtain ⟨a, k, ns, rfl, hS, k0, k1, kk⟩ := h
    refine ⟨_, (QSs.h (qpss_cons (qps_set (i := 2) sc__law_box.nd rfl (by first | exact Or.inl rfl | exact Or.inr rfl) (qpe_op op_addW (qpe_op op_mulW qpe_int (qpv 1)) qpe_int))
    (qpss_cons (qps_if (qpt_cmpR op_ltU (qpv 1) (qpe_callB call_len_seq (by rfl) T.n_len bt_len (qpa_cons (qpv 0) qpa_nil)) (nomark _)) (qpss_one (qps_set (i := 2) sc__law_box.nd rfl (by first | exact Or.inl rfl | exact Or.inr rfl) (qpe_ix ix_list (qpv 0) (qpv 1) (fun _ _ => rfl)))) (qpss_one (qps_if (qpt_cmpR op_gt (qpe_callB call_len_seq (by rfl) T.n_len bt_len (qpa_cons (qpv 0) qpa_nil)) qpe_int (nomark _)) (qpss_one (qps_set (i := 2) sc__law_box.nd rfl (by first | exact Or.inl rfl | exact Or.inr rfl) (qpe_op op_addW (qpv 2) (qpe_op op_mulW (qpe_op op_mod (qpe_ix ix_list (qpv 0) (qpe_op op_mod (qpv 1) (qpe_callB call_len_seq (by rfl) T.n_len bt_len (qpa_cons (qpv 0) qpa_nil))) (fun _ _ => rfl)) qpe_int) qpe_int)))) qpss_nil)))
    (qpss_cons (qps_set (i := 3) sc__law_box.nd rfl (by first | exact Or.inl rfl | exact Or.inr rfl) (qpe_op op_addW (qpe_op op_mod (qpe_op op_addW (qpe_op op_mulW (qpe_op op_mod (qpv 2) qpe_int) qpe_int) (qpe_op op_mulW qpe_int (qpv 1))) qpe_int) qpe_int))
    (qpss_one (qps_ret (qpe_lst (qpa_cons (qpe_op op_mulW (qpv 2) (qpe_callTy call_intU (by rfl) T.n_int bt_int (qpa_cons (qpe_cmpR op_ge (qpv 2) (qpe_op op_pow qpe_int qpe_int) (nomark _)) qpa_nil))) (qpa_cons (qpv 3) qpa_nil))))))))), ?_⟩
    have m1 : ∀ z m : Int, 0 < m → 0 ≤ z % m ∧ z % m < m := fun z m h => ⟨Int.emod_nonneg z (by omega), Int.emod_lt_of_pos z h⟩
    have tail : ∀ cell : Int, (0 : Int) < 2147483629 ∧ CMul (cell % 2147483629) 48271 ∧ CMul 40692 k ∧ (0 : Int) < 2147483629 ∧ CPow 10 18 ∧ CMul cell (if (10 : Int) ^ (18 : Int).toNat ≤ cell then 1 else 0) ∧ 2 ≤ sizeLine ∧
        ∀ p, H p = none → Q (.ref p) (upd H p (.lst [.int (cell * (if (10 : Int) ^ (18 : Int).toNat ≤ cell then 1 else 0)), .int ((cell % 2147483629 * 48271 + 40692 * k) % 2147483629 + 1)])) := by
      intro cell
      have q1 := m1 cell 2147483629 (by decide)
      have q2 := m1 (cell % 2147483629 * 48271 + 40692 * k) 2147483629 (by decide)
      refine ⟨by decide, .inl ⟨by omega, by omega⟩, .inl ⟨by decide, by decide⟩, by decide, ⟨by decide, by decide, by decide⟩, .inr ?_, by decide, fun p hp => kk p _ hp ⟨_, _, rfl, by omega, by omega⟩⟩
      split <;> constructor <;> decide
    simp!
    refine ⟨.inl ⟨by decide, by decide⟩, ns.map V.int, .inl hS, ?_⟩
    rw [List.length_map]
    refine ite2 (fun h => ?_) (fun h => ?_)
    · obtain ⟨z, hz⟩ : ∃ z, ns[k.toNat]? = some z := ⟨ns[k.toNat]'(by omega), by simp⟩
      refine ⟨a, _, k, .int z, rfl, rfl, hS, atI_of k0 (by rw [List.getElem?_map, hz]; rfl), ?_⟩
      simp!
      exact tail z
    · refine ⟨ns.map V.int, .inl hS, ?_⟩
      rw [List.length_map]
      refine ite2 (fun h2 => ?_) (fun h2 => ?_)
      · refine ⟨ns.map V.int, .inl hS, ?_⟩
        rw [List.length_map]
        have q := m1 k (ns.length : Int) (by omega)
        obtain ⟨z, hz⟩ : ∃ z, ns[(k % (ns.length : Int)).toNat]? = some z := ⟨ns[(k % (ns.length : Int)).toNat]'(by omega), by simp⟩
        refine ⟨by omega, a, _, _, .int z, rfl, rfl, hS, atI_of q.1 (by rw [List.getElem?_map, hz]; rfl), ?_⟩
        simp!
        have q3 := m1 z 2147483629 (by decide)
        refine ⟨by decide, .inl ⟨by omega, by omega⟩, ?_⟩
        exact tail _
      · exact tail _
end
/-! ### comprehensions that draw -/
theorem upd_swap {H : Hp} {a b : Addr} {x y : HO} (h : a ≠ b) : upd (upd H a x) b y = upd (upd H b y) a x := by
  funext c
  by_cases h1 : c = a
  · subst h1; rw [upd_ne h, upd_same, upd_same]
  · by_cases h2 : c = b
    · subst h2; rw [upd_same, upd_ne h1, upd_same]
    · rw [upd_ne h2, upd_ne h1, upd_ne h1, upd_ne h2]
theorem comp_box {lo : Int} {n : Nat} {D b : Addr} {te : TE} {E : Ends} {r : L2.St} {H : Hp} {o0 : HO} (P : V → Prop) (hb : H b = some o0) (ho0 : BoxO o0) (hD : H D = none) (hz : n ≤ sizeLine)
    (he : ∀ x H' o Q, H' b = some o → BoxO o → (∀ v o', P v → BoxO o' → Q v (upd H' b o')) → te (some x :: r) H' Q)
    (hn : ∀ v xs o', xs.length = n → (∀ x ∈ xs, P x) → BoxO o' → E.nx (v :: r) (upd (upd H b o') D (.lst xs))) : LoopR (Itr lo n) (gName 0) (tEmit D te) E (none :: r) (upd H D (.lst [])) := by
  have nbD : b ≠ D := ne_of_none hb hD
  refine loop_range (fun i σ H' => ∃ (v : Option V) (xs : List V) (o' : HO), σ = v :: r ∧ xs.length = i ∧ (∀ x ∈ xs, P x) ∧ BoxO o' ∧ H' = upd (upd H b o') D (.lst xs)) ?_ ?_ ?_
  · refine ⟨none, [], o0, rfl, rfl, (fun x h => nomatch h), ho0, ?_⟩
    have : upd H b o0 = H := by
      funext c
      by_cases h : c = b
      · subst h; rw [upd_same, hb]
      · rw [upd_ne h]
    rw [this]
  · rintro i σ H' hi ⟨v, xs, o', rfl, hl, hP, ho', rfl⟩
    refine he _ _ o' _ (by rw [upd_ne nbD, upd_same]) ho' fun y o2 hy ho2 => ?_
    have e : upd (upd (upd H b o') D (.lst xs)) b o2 = upd (upd H b o2) D (.lst xs) := by rw [upd_swap nbD.symm, upd_upd]
    refine ⟨xs, by rw [e, upd_same]; rfl, by omega, _, xs ++ [y], o2, rfl, by simp [hl], fun x hx => ?_, ho2, by rw [e, upd_upd]⟩
    rcases List.mem_append.mp hx with h | h
    · exact hP x h
    · simp at h; subst h; exact hy
  · rintro σ H' ⟨v, xs, o', rfl, hl, hP, ho', rfl⟩
    exact hn v xs o' hl hP ho'
theorem ones_of : ∀ {xs : List V}, (∀ x ∈ xs, ∃ c : Nat, x = .str ⟨#[c]⟩) → ∃ ys : List Str, xs = ys.map V.str ∧ ys.length = xs.length ∧ ∀ y ∈ ys, y.length = 1
  | [], _ => ⟨[], rfl, rfl, fun _ h => nomatch h⟩
  | x :: xs, h => by
    obtain ⟨c, rfl⟩ := h x (.head _)
    obtain ⟨ys, rfl, hl, hy⟩ := ones_of fun y hy => h y (.tail _ hy)
    refine ⟨⟨#[c]⟩ :: ys, rfl, by simp, fun y hy' => ?_⟩
    rcases List.mem_cons.mp hy' with rfl | h
    · rfl
    · exact hy y h
theorem _root_.L2.Kp.seq {S : List Addr} {K : PySem.W.Frag} {H H' : Hp} {a : Addr} {xs : List V} (e : Kp S H H') (n : a ∉ S) (h : SqL K H a xs) : SqL K H' a xs := by
  rcases h with (h | ⟨o, h⟩) | h
  · exact .inl (.inl (e.old _ _ h n))
  · exact .inl (.inr ⟨o, e.old _ _ h n⟩)
  · exact .inr h
def spLaw (K : PySem.W.Frag) : Sp := fun vs H Q _ => ∃ (a : Addr) (ns : List Int), vs = [.ref a] ∧ SqL K H a (ns.map V.int) ∧ ns.length ≤ 63 ∧ ∀ H', Q (.bl true) H'
end My


/-! part H99a -/
set_option Elab.async false
set_option linter.all false
set_option maxRecDepth 100000
set_option maxHeartbeats 4000000
namespace My
open PySem L2
local macro_rules
  | `(tactic| simp!) => `(tactic| simp only [tSeq, tIfS, tCut, tTest, tOp, tVar, tC, tAsg, gName, gSub, tRet, tRetN, tNext, tCont, tBreak, tDrop, tAnd, tOr, tNot, tAndV, tOrV, tNotV, tB, tIf, tChain, tCall, rI0, rI, rAddW_int, rAddW_str, rMulW_int, rMulW_ref, rLtU_int, rLtU_str, rLeU_int, rLeU_str, rIxU_str, rIxU_ref, rLenU_str, rLenU_ref, rMinU_int, rMaxU_int, rIntU_int, rIntU_bl, rListU_str, rListU_ref, rPopU_ref, rAppendU_ref, rExtendU_ref, rClearU_ref, rEqU_int, rEqU_bl, rEqU_str, rEqU_ref, rNeU_int, rNeU_bl, rNeU_str, rNeU_ref, rIsU_ty, rSetU_ref, isL_ref, lstOf_lst, tupOf_tup, seqOf_lst, seqOf_tup, Option.isSome_some, tBML, tBML0, tCB, tCons, tNil, tLst, tTup, tRevS, tSl, tPart, tNoPart, rSlU_str, iAny, iRng1, iRng2, iEnumS, tDisp1, tDNotIn, tDIn, sDPut, tAug, ipI, tFor_eq, tComp, tCompIf, compSt, rDictT_ref, iDict, tUn, rU, tCallV, tTru, rTru_ref, rTru_bl, rTru_str, rPop0U_ref, rSumU_ref, rRev_ref, tListRev, rStrK_str, tFmt, tJnil, tJcons, tJoin, tBMS, isS_str, rInU_str, tExc0, tExcI, tExcInit, sExcSet, tExcFld, tFmtI, tFmtR, rIsX_ty, rIsX_ref, rCountU_ref, tLenSet, rLenSet_str, iZipS, rFindU_str, rIndexU_str, rMulS_str, rLtL, rAllU_ref, rAnyU_ref, Option.bind_some, Option.bind_none, Option.getD_some, L2.start, List.map_cons, List.map_nil, List.length_cons, List.length_nil, List.cons_append, List.nil_append, List.append_nil, List.cons.injEq, List.replicate, List.getElem?_cons_zero, List.getElem?_cons_succ, List.set_cons_zero, List.set_cons_succ, Nat.reduceSub, Nat.reduceAdd, Nat.reduceLeDiff, Option.some.injEq, V.int.injEq, V.bl.injEq, V.str.injEq, V.ref.injEq, HO.lst.injEq, HO.tup.injEq, exists_eq_left', exists_eq_left, exists_and_left, true_and, and_true, upd_same, upd_upd, atI_0, atI_1, atI_2, Bool.not_true, Bool.not_false, decide_eq_true_eq, Bool.false_eq_true, if_false, if_true, reduceIte, reduceCtorEq])
  | `(tactic| simp! [$ls,*]) => `(tactic| simp only [tSeq, tIfS, tCut, tTest, tOp, tVar, tC, tAsg, gName, gSub, tRet, tRetN, tNext, tCont, tBreak, tDrop, tAnd, tOr, tNot, tAndV, tOrV, tNotV, tB, tIf, tChain, tCall, rI0, rI, rAddW_int, rAddW_str, rMulW_int, rMulW_ref, rLtU_int, rLtU_str, rLeU_int, rLeU_str, rIxU_str, rIxU_ref, rLenU_str, rLenU_ref, rMinU_int, rMaxU_int, rIntU_int, rIntU_bl, rListU_str, rListU_ref, rPopU_ref, rAppendU_ref, rExtendU_ref, rClearU_ref, rEqU_int, rEqU_bl, rEqU_str, rEqU_ref, rNeU_int, rNeU_bl, rNeU_str, rNeU_ref, rIsU_ty, rSetU_ref, isL_ref, lstOf_lst, tupOf_tup, seqOf_lst, seqOf_tup, Option.isSome_some, tBML, tBML0, tCB, tCons, tNil, tLst, tTup, tRevS, tSl, tPart, tNoPart, rSlU_str, iAny, iRng1, iRng2, iEnumS, tDisp1, tDNotIn, tDIn, sDPut, tAug, ipI, tFor_eq, tComp, tCompIf, compSt, rDictT_ref, iDict, tUn, rU, tCallV, tTru, rTru_ref, rTru_bl, rTru_str, rPop0U_ref, rSumU_ref, rRev_ref, tListRev, rStrK_str, tFmt, tJnil, tJcons, tJoin, tBMS, isS_str, rInU_str, tExc0, tExcI, tExcInit, sExcSet, tExcFld, tFmtI, tFmtR, rIsX_ty, rIsX_ref, rCountU_ref, tLenSet, rLenSet_str, iZipS, rFindU_str, rIndexU_str, rMulS_str, rLtL, rAllU_ref, rAnyU_ref, Option.bind_some, Option.bind_none, Option.getD_some, L2.start, List.map_cons, List.map_nil, List.length_cons, List.length_nil, List.cons_append, List.nil_append, List.append_nil, List.cons.injEq, List.replicate, List.getElem?_cons_zero, List.getElem?_cons_succ, List.set_cons_zero, List.set_cons_succ, Nat.reduceSub, Nat.reduceAdd, Nat.reduceLeDiff, Option.some.injEq, V.int.injEq, V.bl.injEq, V.str.injEq, V.ref.injEq, HO.lst.injEq, HO.tup.injEq, exists_eq_left', exists_eq_left, exists_and_left, true_and, and_true, upd_same, upd_upd, atI_0, atI_1, atI_2, Bool.not_true, Bool.not_false, decide_eq_true_eq, Bool.false_eq_true, if_false, if_true, reduceIte, reduceCtorEq, $ls,*])
/-! ### the making of errors -/
theorem apl (a b : Str) : (a ++ b).length = a.length + b.length := by
  show (a.cps ++ b.cps).size = _
  simp [Str.length]
def Small (z : Str) (n : Nat) : Prop := z.length ≤ n ∧ ∀ c ∈ z.cps.toList, c < 16 ^ 8
theorem Small.rep {z : Str} {n : Nat} (h : Small z n) : (reprText z).length ≤ 10 * n + 2 := by
  have := PySem.StrLaws.reprText_len z h.2
  have := h.1
  omega
def spIni (K : PySem.W.Frag) (fld : Str) (ok : V → Hp → Prop) : Sp := fun vs H Q _ => ∃ (e C D N : Addr) (x : V), vs = [.ref e, x] ∧ H e = some (ExO e C none) ∧ XC K C D N ∧ PySem.W.findIn K (.ref C) fld = some none ∧ ok x H ∧
  ∀ dx, H dx = none → Q .non (upd (upd H dx (.xd [(fld, x)])) e (ExO e C (some dx)))
def okI : V → Hp → Prop := fun x _ => ∃ i : Int, x = .int i ∧ i.natAbs < 10 ^ 20
/-- names of errors: a text, a tuple of texts -/
def okT : V → Hp → Prop := fun x H => ∃ (a : Addr) (ds : List Str), x = .ref a ∧ H a = some (.tup (ds.map V.str)) ∧ ds.length ≤ 10 ∧ ∀ z ∈ ds, Small z 20
def okS : V → Hp → Prop := fun x _ => ∃ z : Str, x = .str z ∧ Small z 20
theorem shownAll_strs : ∀ ds : List Str, PyData.shownAll (ds.map PyData.str) = ds.map reprText
  | [] => rfl
  | z :: ds => by rw [List.map_cons, List.map_cons, PyData.shownAll, shownAll_strs ds]; rfl
theorem sum_le (ds : List Str) (n : Nat) (h : ∀ z ∈ ds, (reprText z).length ≤ n) : ((ds.map reprText).map (·.length)).sum ≤ ds.length * n := by
  induction ds with
  | nil => simp
  | cons z ds ih =>
    have h1 := h z (.head _)
    have h2 := ih fun y hy => h y (.tail _ hy)
    simp only [List.map_cons, List.sum_cons, List.length_cons, Nat.succ_mul]
    omega
theorem tup_fits (ds : List Str) (h : ds.length ≤ 10) (hz : ∀ z ∈ ds, Small z 20) : (PyData.tuple (ds.map PyData.str)).shown.length ≤ 3000 := by
  have h1 := sum_le ds 202 fun z hz' => (hz z hz').rep
  have h2 := PySem.StrLaws.join_length_le (Str.ofString ", ") (ds.map reprText)
  have h3 : (Str.ofString ", ").length = 2 := by decide +kernel
  rw [List.length_map, h3] at h2
  rw [PyData.shown, shownAll_strs]
  unfold tupleText
  rw [apl, apl]
  have h4 : (Str.ofString "(").length = 1 := by decide +kernel
  have h5 : (Str.ofString (if (ds.map reprText).length == 1 then ",)" else ")")).length ≤ 2 := by
    split <;> decide +kernel
  have h6 : ds.length * 202 ≤ 2020 := by omega
  omega
theorem strs_sh : ∀ ds : List Str, PyData.showableAll (ds.map PyData.str) = true ∧ PyData.hasDictAll (ds.map PyData.str) = false ∧ PyData.depthAll (ds.map PyData.str) ≤ 1
  | [] => by simp [PyData.showableAll, PyData.hasDictAll, PyData.depthAll]
  | z :: ds => by
    obtain ⟨h1, h2, h3⟩ := strs_sh ds
    simp [PyData.showableAll, PyData.hasDictAll, PyData.depthAll, PyData.showable, PyData.hasDict, PyData.depth, h1, h2]
    try omega
theorem tup_sh (ds : List Str) : (PyData.tuple (ds.map PyData.str)).showable = true ∧ (PyData.tuple (ds.map PyData.str)).hasDict = false ∧ (PyData.tuple (ds.map PyData.str)).depth ≤ 60 := by
  obtain ⟨h1, h2, h3⟩ := strs_sh ds
  refine ⟨by simpa [PyData.showable] using h1, by simpa [PyData.hasDict] using h2, ?_⟩
  simp [PyData.depth]
  omega
theorem rep_tup {H : Hp} {a : Addr} {ds : List Str} (h : H a = some (.tup (ds.map V.str))) : Rep H (.ref a) (.tuple (ds.map PyData.str)) := by
  simp only [Rep]
  exact ⟨a, _, rfl, h, Reps.strs H ds⟩
structure TIni (K : PySem.W.Frag) (mg : Str → Option Value) (D : Addr) : Prop where
  m_CalmError : mg "CalmError" = some (.ref D)
  xd : XD K D
section
variable {P : Program} {w : World} {K : PySem.W.Frag} {mg : Str → Option Value} {base : Heap}
abbrev s_BadRoom__init__ : Stmt := meth (top 3)
theorem sc_BadRoom__init__ : FnScope ["self", "room"] ["self", "room"] (defScope s_BadRoom__init__) := ⟨rfl, rfl, rfl, by decide +kernel, rfl, by decide +kernel, by decide +kernel⟩
theorem ok_BadRoom__init__ {f D0 : Addr} {fd : FuncData} (F : Fun K "__init__" "BadRoom.__init__" s_BadRoom__init__ f fd) (T : TIni K mg D0) : FnOk P w K mg base CX0 1 f fd ["self", "room"] (spIni K "room" okI) := by
  refine F.ok sc_BadRoom__init__ (fun vs H Q E h => ?_) (fun cdv A outer s H vs Q E hr h => ?_)
  · obtain ⟨e, C, D, N, x, rfl, _⟩ := h
    rfl
  · obtain ⟨e, C, D, N, x, rfl, he, c, nf, ok, k⟩ := h
    have hu := hr.units
    have hgd := hr.gd
    have hsz : sizeLine = 16777216 := PySem.sizeLine_eq
    have l0 : (Str.empty ++ Str.ofString "room ").length ≤ 100 := by decide +kernel
    obtain ⟨i, rfl, hi⟩ := ok
    refine ⟨_, (QSs.h (qpss_cons (qps_expr (qpe_excInit rfl T.xd rfl T.m_CalmError (qpa_cons (qpv 0) (qpa_cons (qpe_joined (qpj_cons qpe_str (qpj_cons (qpe_fmtI (qpv 1)) qpj_nil))) qpa_nil))))
    (qpss_one (qps_excSet rfl (qpv 0) (qpv 1) rfl)))), ?_⟩
    simp!
    refine ⟨by omega, hi, fun z hz => ⟨by rw [apl]; omega, by rw [apl]; omega, e, _, ⟨rfl, rfl⟩, C, he, D, N, c, C, he, D, N, c, nf, k⟩⟩
abbrev s_NoLetter__init__ : Stmt := meth (top 4)
theorem sc_NoLetter__init__ : FnScope ["self", "at"] ["self", "at"] (defScope s_NoLetter__init__) := ⟨rfl, rfl, rfl, by decide +kernel, rfl, by decide +kernel, by decide +kernel⟩
theorem ok_NoLetter__init__ {f D0 : Addr} {fd : FuncData} (F : Fun K "__init__" "NoLetter.__init__" s_NoLetter__init__ f fd) (T : TIni K mg D0) : FnOk P w K mg base CX0 1 f fd ["self", "at"] (spIni K "at" okI) := by
  refine F.ok sc_NoLetter__init__ (fun vs H Q E h => ?_) (fun cdv A outer s H vs Q E hr h => ?_)
  · obtain ⟨e, C, D, N, x, rfl, _⟩ := h
    rfl
  · obtain ⟨e, C, D, N, x, rfl, he, c, nf, ok, k⟩ := h
    have hu := hr.units
    have hgd := hr.gd
    have hsz : sizeLine = 16777216 := PySem.sizeLine_eq
    have l0 : (Str.empty ++ Str.ofString "no letter at place ").length ≤ 100 := by decide +kernel
    obtain ⟨i, rfl, hi⟩ := ok
    refine ⟨_, (QSs.h (qpss_cons (qps_expr (qpe_excInit rfl T.xd rfl T.m_CalmError (qpa_cons (qpv 0) (qpa_cons (qpe_joined (qpj_cons qpe_str (qpj_cons (qpe_fmtI (qpv 1)) qpj_nil))) qpa_nil))))
    (qpss_one (qps_excSet rfl (qpv 0) (qpv 1) rfl)))), ?_⟩
    simp!
    refine ⟨by omega, hi, fun z hz => ⟨by rw [apl]; omega, by rw [apl]; omega, e, _, ⟨rfl, rfl⟩, C, he, D, N, c, C, he, D, N, c, nf, k⟩⟩
abbrev s_BadText__init__ : Stmt := meth (top 5)
theorem sc_BadText__init__ : FnScope ["self", "at"] ["self", "at"] (defScope s_BadText__init__) := ⟨rfl, rfl, rfl, by decide +kernel, rfl, by decide +kernel, by decide +kernel⟩
theorem ok_BadText__init__ {f D0 : Addr} {fd : FuncData} (F : Fun K "__init__" "BadText.__init__" s_BadText__init__ f fd) (T : TIni K mg D0) : FnOk P w K mg base CX0 1 f fd ["self", "at"] (spIni K "at" okI) := by
  refine F.ok sc_BadText__init__ (fun vs H Q E h => ?_) (fun cdv A outer s H vs Q E hr h => ?_)
  · obtain ⟨e, C, D, N, x, rfl, _⟩ := h
    rfl
  · obtain ⟨e, C, D, N, x, rfl, he, c, nf, ok, k⟩ := h
    have hu := hr.units
    have hgd := hr.gd
    have hsz : sizeLine = 16777216 := PySem.sizeLine_eq
    have l0 : (Str.empty ++ Str.ofString "not the form that is due at ").length ≤ 100 := by decide +kernel
    obtain ⟨i, rfl, hi⟩ := ok
    refine ⟨_, (QSs.h (qpss_cons (qps_expr (qpe_excInit rfl T.xd rfl T.m_CalmError (qpa_cons (qpv 0) (qpa_cons (qpe_joined (qpj_cons qpe_str (qpj_cons (qpe_fmtI (qpv 1)) qpj_nil))) qpa_nil))))
    (qpss_one (qps_excSet rfl (qpv 0) (qpv 1) rfl)))), ?_⟩
    simp!
    refine ⟨by omega, hi, fun z hz => ⟨by rw [apl]; omega, by rw [apl]; omega, e, _, ⟨rfl, rfl⟩, C, he, D, N, c, C, he, D, N, c, nf, k⟩⟩
abbrev s_TooMany__init__ : Stmt := meth (top 7)
theorem sc_TooMany__init__ : FnScope ["self", "at"] ["self", "at"] (defScope s_TooMany__init__) := ⟨rfl, rfl, rfl, by decide +kernel, rfl, by decide +kernel, by decide +kernel⟩
theorem ok_TooMany__init__ {f D0 : Addr} {fd : FuncData} (F : Fun K "__init__" "TooMany.__init__" s_TooMany__init__ f fd) (T : TIni K mg D0) : FnOk P w K mg base CX0 1 f fd ["self", "at"] (spIni K "at" okI) := by
  refine F.ok sc_TooMany__init__ (fun vs H Q E h => ?_) (fun cdv A outer s H vs Q E hr h => ?_)
  · obtain ⟨e, C, D, N, x, rfl, _⟩ := h
    rfl
  · obtain ⟨e, C, D, N, x, rfl, he, c, nf, ok, k⟩ := h
    have hu := hr.units
    have hgd := hr.gd
    have hsz : sizeLine = 16777216 := PySem.sizeLine_eq
    have l0 : (Str.empty ++ Str.ofString "too many at ").length ≤ 100 := by decide +kernel
    obtain ⟨i, rfl, hi⟩ := ok
    refine ⟨_, (QSs.h (qpss_cons (qps_expr (qpe_excInit rfl T.xd rfl T.m_CalmError (qpa_cons (qpv 0) (qpa_cons (qpe_joined (qpj_cons qpe_str (qpj_cons (qpe_fmtI (qpv 1)) qpj_nil))) qpa_nil))))
    (qpss_one (qps_excSet rfl (qpv 0) (qpv 1) rfl)))), ?_⟩
    simp!
    refine ⟨by omega, hi, fun z hz => ⟨by rw [apl]; omega, by rw [apl]; omega, e, _, ⟨rfl, rfl⟩, C, he, D, N, c, C, he, D, N, c, nf, k⟩⟩
abbrev s_BadRow__init__ : Stmt := meth (top 8)
theorem sc_BadRow__init__ : FnScope ["self", "at"] ["self", "at"] (defScope s_BadRow__init__) := ⟨rfl, rfl, rfl, by decide +kernel, rfl, by decide +kernel, by decide +kernel⟩
theorem ok_BadRow__init__ {f D0 : Addr} {fd : FuncData} (F : Fun K "__init__" "BadRow.__init__" s_BadRow__init__ f fd) (T : TIni K mg D0) : FnOk P w K mg base CX0 1 f fd ["self", "at"] (spIni K "at" okI) := by
  refine F.ok sc_BadRow__init__ (fun vs H Q E h => ?_) (fun cdv A outer s H vs Q E hr h => ?_)
  · obtain ⟨e, C, D, N, x, rfl, _⟩ := h
    rfl
  · obtain ⟨e, C, D, N, x, rfl, he, c, nf, ok, k⟩ := h
    have hu := hr.units
    have hgd := hr.gd
    have hsz : sizeLine = 16777216 := PySem.sizeLine_eq
    have l0 : (Str.empty ++ Str.ofString "row ").length ≤ 100 := by decide +kernel
    obtain ⟨i, rfl, hi⟩ := ok
    refine ⟨_, (QSs.h (qpss_cons (qps_expr (qpe_excInit rfl T.xd rfl T.m_CalmError (qpa_cons (qpv 0) (qpa_cons (qpe_joined (qpj_cons qpe_str (qpj_cons (qpe_fmtI (qpv 1)) qpj_nil))) qpa_nil))))
    (qpss_one (qps_excSet rfl (qpv 0) (qpv 1) rfl)))), ?_⟩
    simp!
    refine ⟨by omega, hi, fun z hz => ⟨by rw [apl]; omega, by rw [apl]; omega, e, _, ⟨rfl, rfl⟩, C, he, D, N, c, C, he, D, N, c, nf, k⟩⟩
abbrev s_NotClosed__init__ : Stmt := meth (top 10)
theorem sc_NotClosed__init__ : FnScope ["self", "names"] ["self", "names"] (defScope s_NotClosed__init__) := ⟨rfl, rfl, rfl, by decide +kernel, rfl, by decide +kernel, by decide +kernel⟩
theorem ok_NotClosed__init__ {f D0 : Addr} {fd : FuncData} (F : Fun K "__init__" "NotClosed.__init__" s_NotClosed__init__ f fd) (T : TIni K mg D0) : FnOk P w K mg base CX0 1 f fd ["self", "names"] (spIni K "names" okT) := by
  refine F.ok sc_NotClosed__init__ (fun vs H Q E h => ?_) (fun cdv A outer s H vs Q E hr h => ?_)
  · obtain ⟨e, C, D, N, x, rfl, _⟩ := h
    rfl
  · obtain ⟨e, C, D, N, x, rfl, he, c, nf, ok, k⟩ := h
    have hu := hr.units
    have hgd := hr.gd
    have hsz : sizeLine = 16777216 := PySem.sizeLine_eq
    have l0 : (Str.empty ++ Str.ofString "free names ").length ≤ 100 := by decide +kernel
    obtain ⟨a, ds, rfl, ha, hl, hs⟩ := ok
    have ft := tup_fits ds hl hs
    refine ⟨_, (QSs.h (qpss_cons (qps_expr (qpe_excInit rfl T.xd rfl T.m_CalmError (qpa_cons (qpv 0) (qpa_cons (qpe_joined (qpj_cons qpe_str (qpj_cons (qpe_fmtR hgd hu (qpv 1)) qpj_nil))) qpa_nil))))
    (qpss_one (qps_excSet rfl (qpv 0) (qpv 1) rfl)))), ?_⟩
    simp!
    obtain ⟨s1, s2, s3⟩ := tup_sh ds
    refine ⟨by omega, _, rep_tup ha, s1, s2, s3, by omega, .inr ⟨_, rfl⟩, by rw [apl]; omega, by rw [apl]; omega, e, _, ⟨rfl, rfl⟩, C, he, D, N, c, C, he, D, N, c, nf, k⟩
abbrev s_NoName__init__ : Stmt := meth (top 12)
theorem sc_NoName__init__ : FnScope ["self", "name"] ["self", "name"] (defScope s_NoName__init__) := ⟨rfl, rfl, rfl, by decide +kernel, rfl, by decide +kernel, by decide +kernel⟩
theorem ok_NoName__init__ {f D0 : Addr} {fd : FuncData} (F : Fun K "__init__" "NoName.__init__" s_NoName__init__ f fd) (T : TIni K mg D0) : FnOk P w K mg base CX0 1 f fd ["self", "name"] (spIni K "name" okS) := by
  refine F.ok sc_NoName__init__ (fun vs H Q E h => ?_) (fun cdv A outer s H vs Q E hr h => ?_)
  · obtain ⟨e, C, D, N, x, rfl, _⟩ := h
    rfl
  · obtain ⟨e, C, D, N, x, rfl, he, c, nf, ok, k⟩ := h
    have hu := hr.units
    have hgd := hr.gd
    have hsz : sizeLine = 16777216 := PySem.sizeLine_eq
    have l0 : (Str.empty ++ Str.ofString "name ").length ≤ 100 := by decide +kernel
    obtain ⟨z, rfl, hs⟩ := ok
    have ft := hs.rep
    refine ⟨_, (QSs.h (qpss_cons (qps_expr (qpe_excInit rfl T.xd rfl T.m_CalmError (qpa_cons (qpv 0) (qpa_cons (qpe_joined (qpj_cons qpe_str (qpj_cons (qpe_fmtR hgd hu (qpv 1)) qpj_nil))) qpa_nil))))
    (qpss_one (qps_excSet rfl (qpv 0) (qpv 1) rfl)))), ?_⟩
    simp!
    have sh : (PyData.str z).shown = reprText z := rfl
    refine ⟨by omega, .str z, by simp only [Rep], rfl, rfl, by simp [PyData.depth], by rw [sh]; omega, .inl ⟨_, rfl⟩, by rw [apl, sh]; omega, by rw [apl, sh]; omega, e, _, ⟨rfl, rfl⟩, C, he, D, N, c, C, he, D, N, c, nf, k⟩
end
end My


/-! part H99b -/
set_option Elab.async false
set_option linter.all false
set_option maxRecDepth 100000
set_option maxHeartbeats 4000000
namespace My
open PySem L2
local macro_rules
  | `(tactic| simp!) => `(tactic| simp only [tSeq, tIfS, tCut, tTest, tOp, tVar, tC, tAsg, gName, gSub, tRet, tRetN, tNext, tCont, tBreak, tDrop, tAnd, tOr, tNot, tAndV, tOrV, tNotV, tB, tIf, tChain, tCall, rI0, rI, rAddW_int, rAddW_str, rMulW_int, rMulW_ref, rLtU_int, rLtU_str, rLeU_int, rLeU_str, rIxU_str, rIxU_ref, rLenU_str, rLenU_ref, rMinU_int, rMaxU_int, rIntU_int, rIntU_bl, rListU_str, rListU_ref, rPopU_ref, rAppendU_ref, rExtendU_ref, rClearU_ref, rEqU_int, rEqU_bl, rEqU_str, rEqU_ref, rNeU_int, rNeU_bl, rNeU_str, rNeU_ref, rIsU_ty, rSetU_ref, isL_ref, lstOf_lst, tupOf_tup, seqOf_lst, seqOf_tup, Option.isSome_some, tBML, tBML0, tCB, tCons, tNil, tLst, tTup, tRevS, tSl, tPart, tNoPart, rSlU_str, iAny, iRng1, iRng2, iEnumS, tDisp1, tDNotIn, tDIn, sDPut, tAug, ipI, tFor_eq, tComp, tCompIf, compSt, rDictT_ref, iDict, tUn, rU, tCallV, tTru, rTru_ref, rTru_bl, rTru_str, rPop0U_ref, rSumU_ref, rRev_ref, tListRev, rStrK_str, tFmt, tJnil, tJcons, tJoin, tBMS, isS_str, rInU_str, tExc0, tExcI, tExcInit, sExcSet, tExcFld, tFmtI, tFmtR, rIsX_ty, rIsX_ref, rCountU_ref, tLenSet, rLenSet_str, iZipS, rFindU_str, rIndexU_str, rMulS_str, rLtL, rAllU_ref, rAnyU_ref, Option.bind_some, Option.bind_none, Option.getD_some, L2.start, List.map_cons, List.map_nil, List.length_cons, List.length_nil, List.cons_append, List.nil_append, List.append_nil, List.cons.injEq, List.replicate, List.getElem?_cons_zero, List.getElem?_cons_succ, List.set_cons_zero, List.set_cons_succ, Nat.reduceSub, Nat.reduceAdd, Nat.reduceLeDiff, Option.some.injEq, V.int.injEq, V.bl.injEq, V.str.injEq, V.ref.injEq, HO.lst.injEq, HO.tup.injEq, exists_eq_left', exists_eq_left, exists_and_left, true_and, and_true, upd_same, upd_upd, atI_0, atI_1, atI_2, Bool.not_true, Bool.not_false, decide_eq_true_eq, Bool.false_eq_true, if_false, if_true, reduceIte, reduceCtorEq])
  | `(tactic| simp! [$ls,*]) => `(tactic| simp only [tSeq, tIfS, tCut, tTest, tOp, tVar, tC, tAsg, gName, gSub, tRet, tRetN, tNext, tCont, tBreak, tDrop, tAnd, tOr, tNot, tAndV, tOrV, tNotV, tB, tIf, tChain, tCall, rI0, rI, rAddW_int, rAddW_str, rMulW_int, rMulW_ref, rLtU_int, rLtU_str, rLeU_int, rLeU_str, rIxU_str, rIxU_ref, rLenU_str, rLenU_ref, rMinU_int, rMaxU_int, rIntU_int, rIntU_bl, rListU_str, rListU_ref, rPopU_ref, rAppendU_ref, rExtendU_ref, rClearU_ref, rEqU_int, rEqU_bl, rEqU_str, rEqU_ref, rNeU_int, rNeU_bl, rNeU_str, rNeU_ref, rIsU_ty, rSetU_ref, isL_ref, lstOf_lst, tupOf_tup, seqOf_lst, seqOf_tup, Option.isSome_some, tBML, tBML0, tCB, tCons, tNil, tLst, tTup, tRevS, tSl, tPart, tNoPart, rSlU_str, iAny, iRng1, iRng2, iEnumS, tDisp1, tDNotIn, tDIn, sDPut, tAug, ipI, tFor_eq, tComp, tCompIf, compSt, rDictT_ref, iDict, tUn, rU, tCallV, tTru, rTru_ref, rTru_bl, rTru_str, rPop0U_ref, rSumU_ref, rRev_ref, tListRev, rStrK_str, tFmt, tJnil, tJcons, tJoin, tBMS, isS_str, rInU_str, tExc0, tExcI, tExcInit, sExcSet, tExcFld, tFmtI, tFmtR, rIsX_ty, rIsX_ref, rCountU_ref, tLenSet, rLenSet_str, iZipS, rFindU_str, rIndexU_str, rMulS_str, rLtL, rAllU_ref, rAnyU_ref, Option.bind_some, Option.bind_none, Option.getD_some, L2.start, List.map_cons, List.map_nil, List.length_cons, List.length_nil, List.cons_append, List.nil_append, List.append_nil, List.cons.injEq, List.replicate, List.getElem?_cons_zero, List.getElem?_cons_succ, List.set_cons_zero, List.set_cons_succ, Nat.reduceSub, Nat.reduceAdd, Nat.reduceLeDiff, Option.some.injEq, V.int.injEq, V.bl.injEq, V.str.injEq, V.ref.injEq, HO.lst.injEq, HO.tup.injEq, exists_eq_left', exists_eq_left, exists_and_left, true_and, and_true, upd_same, upd_upd, atI_0, atI_1, atI_2, Bool.not_true, Bool.not_false, decide_eq_true_eq, Bool.false_eq_true, if_false, if_true, reduceIte, reduceCtorEq, $ls,*])
/-! ### which class an error is of -/
theorem _root_.L2.ExAt.kp {S : List Addr} {H H' : Hp} {a C : Addr} (k : Kp S H H') (h : ExAt H a C) (hl : ∀ b ∈ S, ∃ xs, H b = some (.lst xs)) : ExAt H' a C := by
  obtain ⟨dx, ea, ed⟩ := h
  refine ⟨dx, k.old _ _ ea fun z => ?_, fun d e => ?_⟩
  · obtain ⟨xs, e⟩ := hl a z
    rw [ea] at e; cases e
  · obtain ⟨fs, e1⟩ := ed d e
    refine ⟨fs, k.old _ _ e1 fun z => ?_⟩
    obtain ⟨xs, e2⟩ := hl d z
    rw [e1] at e2; cases e2
structure TCl (K : PySem.W.Frag) (mg : Str → Option Value) (cl : Nat → Addr) (D : Addr) : Prop where
  n_isinstance : mg "isinstance" = none
  n_ValueError : mg "ValueError" = none
  m_CalmError : mg "CalmError" = some (.ref D)
  m_BadLetters : mg "BadLetters" = some (.ref (cl 0))
  m_BadRoom : mg "BadRoom" = some (.ref (cl 1))
  m_NoLetter : mg "NoLetter" = some (.ref (cl 2))
  m_BadText : mg "BadText" = some (.ref (cl 3))
  m_OtherLetters : mg "OtherLetters" = some (.ref (cl 4))
  m_TooMany : mg "TooMany" = some (.ref (cl 5))
  m_BadRow : mg "BadRow" = some (.ref (cl 6))
  m_TooLong : mg "TooLong" = some (.ref (cl 7))
  m_NotClosed : mg "NotClosed" = some (.ref (cl 8))
  m_NotCalm : mg "NotCalm" = some (.ref (cl 9))
  m_NoName : mg "NoName" = some (.ref (cl 10))
  m_NoRow : mg "NoRow" = some (.ref (cl 11))
  kt : ∀ i j, i < 12 → j < 12 → PySem.W.kitOne K (.ref (cl i)) (.ref (cl j)) = some (decide (j = i))
  kD : ∀ i, i < 12 → PySem.W.kitOne K (.ref (cl i)) (.ref D) = some true
  kV : ∀ i, i < 12 → PySem.W.kitOne K (.ref (cl i)) (.type "ValueError") = some true
  xc : ∀ i, i < 12 → ∃ N, XC K (cl i) D N
  xi : ∀ i, i < 12 → XI K (cl i)
theorem addL {H : Hp} {l b : Addr} {xs zs : List V} {Q : VK} (h1 : H l = some (.lst xs)) (h2 : H b = some (.lst zs)) (hz : xs.length + zs.length ≤ sizeLine) (q : ∀ p, H p = none → Q (.ref p) (upd H p (.lst (xs ++ zs)))) : rAddW (.ref l) (.ref b) H Q :=
  .inl ⟨xs, zs, by rw [h1]; rfl, by rw [h2]; rfl, hz, q⟩
def kindsV (i : Nat) : List Bool := (List.range 12).map fun j => decide (j = i)
def spKinds (cl : Nat → Addr) : Sp := fun vs H Q _ => ∃ (e : Addr) (i : Nat), vs = [.ref e] ∧ i < 12 ∧ ExAt H e (cl i) ∧ ∀ l H', Kp [] H H' → H' l = some (.lst ((kindsV i).map V.bl)) → Q (.ref l) H'
section
variable {P : Program} {w : World} {K : PySem.W.Frag} {mg : Str → Option Value} {base : Heap}
abbrev s__law_kinds : Stmt := top 18
theorem sc__law_kinds : FnScope ["_law_e", "_law_found"] ["_law_e"] (defScope s__law_kinds) := ⟨rfl, rfl, rfl, by decide +kernel, rfl, by decide +kernel, by decide +kernel⟩
theorem ok__law_kinds {f D : Addr} {fd : FuncData} {cl : Nat → Addr} (F : Fun K "_law_kinds" "_law_kinds" s__law_kinds f fd) (T : TCl K mg cl D) : FnOk P w K mg base CX0 1 f fd ["_law_e"] (spKinds cl) := by
  refine F.ok sc__law_kinds (fun vs H Q E h => ?_) (fun cdv A outer s H vs Q E hr h => ?_)
  · obtain ⟨e, i, rfl, _⟩ := h
    rfl
  · obtain ⟨e, i, rfl, hi, ea, k⟩ := h
    have hu := hr.units
    have hsz : sizeLine = 16777216 := PySem.sizeLine_eq
    obtain ⟨N, xc⟩ := T.xc i hi
    have xi := T.xi i hi
    have kt := fun j hj => T.kt i j hi hj
    refine ⟨_, (QSs.h (qpss_cons (qps_set (i := 1) sc__law_kinds.nd rfl (by first | exact Or.inl rfl | exact Or.inr rfl) (qpe_lst (qpa_cons (qpe_callB (call_isX (K := K) rfl) (by rfl) T.n_isinstance bt_isinstance (qpa_cons (qpv 0) (qpa_cons (qpe_glob (v := .ref _) rfl T.m_BadLetters rfl) qpa_nil))) (qpa_cons (qpe_callB (call_isX (K := K) rfl) (by rfl) T.n_isinstance bt_isinstance (qpa_cons (qpv 0) (qpa_cons (qpe_glob (v := .ref _) rfl T.m_BadRoom rfl) qpa_nil))) (qpa_cons (qpe_callB (call_isX (K := K) rfl) (by rfl) T.n_isinstance bt_isinstance (qpa_cons (qpv 0) (qpa_cons (qpe_glob (v := .ref _) rfl T.m_NoLetter rfl) qpa_nil))) (qpa_cons (qpe_callB (call_isX (K := K) rfl) (by rfl) T.n_isinstance bt_isinstance (qpa_cons (qpv 0) (qpa_cons (qpe_glob (v := .ref _) rfl T.m_BadText rfl) qpa_nil))) qpa_nil))))))
    (qpss_cons (qps_set (i := 1) sc__law_kinds.nd rfl (by first | exact Or.inl rfl | exact Or.inr rfl) (qpe_op op_addW (qpv 1) (qpe_lst (qpa_cons (qpe_callB (call_isX (K := K) rfl) (by rfl) T.n_isinstance bt_isinstance (qpa_cons (qpv 0) (qpa_cons (qpe_glob (v := .ref _) rfl T.m_OtherLetters rfl) qpa_nil))) (qpa_cons (qpe_callB (call_isX (K := K) rfl) (by rfl) T.n_isinstance bt_isinstance (qpa_cons (qpv 0) (qpa_cons (qpe_glob (v := .ref _) rfl T.m_TooMany rfl) qpa_nil))) (qpa_cons (qpe_callB (call_isX (K := K) rfl) (by rfl) T.n_isinstance bt_isinstance (qpa_cons (qpv 0) (qpa_cons (qpe_glob (v := .ref _) rfl T.m_BadRow rfl) qpa_nil))) qpa_nil))))))
    (qpss_cons (qps_set (i := 1) sc__law_kinds.nd rfl (by first | exact Or.inl rfl | exact Or.inr rfl) (qpe_op op_addW (qpv 1) (qpe_lst (qpa_cons (qpe_callB (call_isX (K := K) rfl) (by rfl) T.n_isinstance bt_isinstance (qpa_cons (qpv 0) (qpa_cons (qpe_glob (v := .ref _) rfl T.m_TooLong rfl) qpa_nil))) (qpa_cons (qpe_callB (call_isX (K := K) rfl) (by rfl) T.n_isinstance bt_isinstance (qpa_cons (qpv 0) (qpa_cons (qpe_glob (v := .ref _) rfl T.m_NotClosed rfl) qpa_nil))) (qpa_cons (qpe_callB (call_isX (K := K) rfl) (by rfl) T.n_isinstance bt_isinstance (qpa_cons (qpv 0) (qpa_cons (qpe_glob (v := .ref _) rfl T.m_NotCalm rfl) qpa_nil))) qpa_nil))))))
    (qpss_one (qps_ret (qpe_op op_addW (qpv 1) (qpe_lst (qpa_cons (qpe_callB (call_isX (K := K) rfl) (by rfl) T.n_isinstance bt_isinstance (qpa_cons (qpv 0) (qpa_cons (qpe_glob (v := .ref _) rfl T.m_NoName rfl) qpa_nil))) (qpa_cons (qpe_callB (call_isX (K := K) rfl) (by rfl) T.n_isinstance bt_isinstance (qpa_cons (qpv 0) (qpa_cons (qpe_glob (v := .ref _) rfl T.m_NoRow rfl) qpa_nil))) qpa_nil)))))))))), ?_⟩
    simp!
    have n0 : ∀ b ∈ ([] : List Addr), ∃ xs, H b = some (.lst xs) := fun _ h => nomatch h
    refine ⟨cl i, ea, D, N, xc, xi, _, kt 0 (by decide), cl i, ea, D, N, xc, xi, _, kt 1 (by decide), cl i, ea, D, N, xc, xi, _, kt 2 (by decide), cl i, ea, D, N, xc, xi, _, kt 3 (by decide), ?_⟩
    refine ⟨by omega, fun p1 e1 => ?_⟩
    have k1 : Kp [] H (upd H p1 (.lst [V.bl (decide (0 = i)), V.bl (decide (1 = i)), V.bl (decide (2 = i)), V.bl (decide (3 = i))])) := (Kp.refl [] H).new e1
    have f1 : upd H p1 (.lst [V.bl (decide (0 = i)), V.bl (decide (1 = i)), V.bl (decide (2 = i)), V.bl (decide (3 = i))]) p1 = some (.lst [V.bl (decide (0 = i)), V.bl (decide (1 = i)), V.bl (decide (2 = i)), V.bl (decide (3 = i))]) := upd_same
    generalize upd H p1 (.lst [V.bl (decide (0 = i)), V.bl (decide (1 = i)), V.bl (decide (2 = i)), V.bl (decide (3 = i))]) = H1 at k1 f1 ⊢
    have ea1 := ea.kp k1 n0
    refine ⟨cl i, ea1, D, N, xc, xi, _, kt 4 (by decide), cl i, ea1, D, N, xc, xi, _, kt 5 (by decide), cl i, ea1, D, N, xc, xi, _, kt 6 (by decide), by omega, fun p2 e2 => ?_⟩
    have k2 : Kp [] H (upd H1 p2 (.lst [V.bl (decide (4 = i)), V.bl (decide (5 = i)), V.bl (decide (6 = i))])) := k1.new e2
    have f2 : upd H1 p2 (.lst [V.bl (decide (4 = i)), V.bl (decide (5 = i)), V.bl (decide (6 = i))]) p2 = some (.lst [V.bl (decide (4 = i)), V.bl (decide (5 = i)), V.bl (decide (6 = i))]) := upd_same
    have f1' : upd H1 p2 (.lst [V.bl (decide (4 = i)), V.bl (decide (5 = i)), V.bl (decide (6 = i))]) p1 = some (.lst [V.bl (decide (0 = i)), V.bl (decide (1 = i)), V.bl (decide (2 = i)), V.bl (decide (3 = i))]) := by rw [upd_ne (ne_of_none f1 e2)]; exact f1
    refine addL f1' f2 (by simp [hsz]) fun p3 e3 => ?_
    have k3 := k2.new (o := .lst ([V.bl (decide (0 = i)), V.bl (decide (1 = i)), V.bl (decide (2 = i)), V.bl (decide (3 = i))] ++ [V.bl (decide (4 = i)), V.bl (decide (5 = i)), V.bl (decide (6 = i))])) e3
    have f3 : upd (upd H1 p2 (.lst [V.bl (decide (4 = i)), V.bl (decide (5 = i)), V.bl (decide (6 = i))])) p3 (.lst ([V.bl (decide (0 = i)), V.bl (decide (1 = i)), V.bl (decide (2 = i)), V.bl (decide (3 = i))] ++ [V.bl (decide (4 = i)), V.bl (decide (5 = i)), V.bl (decide (6 = i))])) p3 = _ := upd_same
    generalize upd (upd H1 p2 (.lst [V.bl (decide (4 = i)), V.bl (decide (5 = i)), V.bl (decide (6 = i))])) p3 (.lst ([V.bl (decide (0 = i)), V.bl (decide (1 = i)), V.bl (decide (2 = i)), V.bl (decide (3 = i))] ++ [V.bl (decide (4 = i)), V.bl (decide (5 = i)), V.bl (decide (6 = i))])) = H3 at k3 f3 ⊢
    have ea3 := ea.kp k3 n0
    refine ⟨cl i, ea3, D, N, xc, xi, _, kt 7 (by decide), cl i, ea3, D, N, xc, xi, _, kt 8 (by decide), cl i, ea3, D, N, xc, xi, _, kt 9 (by decide), by omega, fun p4 e4 => ?_⟩
    have f4 : upd H3 p4 (.lst [V.bl (decide (7 = i)), V.bl (decide (8 = i)), V.bl (decide (9 = i))]) p4 = some (.lst [V.bl (decide (7 = i)), V.bl (decide (8 = i)), V.bl (decide (9 = i))]) := upd_same
    have k4 : Kp [] H (upd H3 p4 (.lst [V.bl (decide (7 = i)), V.bl (decide (8 = i)), V.bl (decide (9 = i))])) := k3.new e4
    have f3' := (show upd H3 p4 (.lst [V.bl (decide (7 = i)), V.bl (decide (8 = i)), V.bl (decide (9 = i))]) p3 = H3 p3 from upd_ne (ne_of_none f3 e4)).trans f3
    refine addL f3' f4 (by simp [hsz]) fun p5 e5 => ?_
    have k5 := k4.new (o := .lst (([V.bl (decide (0 = i)), V.bl (decide (1 = i)), V.bl (decide (2 = i)), V.bl (decide (3 = i))] ++ [V.bl (decide (4 = i)), V.bl (decide (5 = i)), V.bl (decide (6 = i))]) ++ [V.bl (decide (7 = i)), V.bl (decide (8 = i)), V.bl (decide (9 = i))])) e5
    have f5 : upd (upd H3 p4 (.lst [V.bl (decide (7 = i)), V.bl (decide (8 = i)), V.bl (decide (9 = i))])) p5 (.lst (([V.bl (decide (0 = i)), V.bl (decide (1 = i)), V.bl (decide (2 = i)), V.bl (decide (3 = i))] ++ [V.bl (decide (4 = i)), V.bl (decide (5 = i)), V.bl (decide (6 = i))]) ++ [V.bl (decide (7 = i)), V.bl (decide (8 = i)), V.bl (decide (9 = i))])) p5 = _ := upd_same
    generalize upd (upd H3 p4 (.lst [V.bl (decide (7 = i)), V.bl (decide (8 = i)), V.bl (decide (9 = i))])) p5 (.lst (([V.bl (decide (0 = i)), V.bl (decide (1 = i)), V.bl (decide (2 = i)), V.bl (decide (3 = i))] ++ [V.bl (decide (4 = i)), V.bl (decide (5 = i)), V.bl (decide (6 = i))]) ++ [V.bl (decide (7 = i)), V.bl (decide (8 = i)), V.bl (decide (9 = i))])) = H5 at k5 f5 ⊢
    have ea5 := ea.kp k5 n0
    refine ⟨cl i, ea5, D, N, xc, xi, _, kt 10 (by decide), cl i, ea5, D, N, xc, xi, _, kt 11 (by decide), by omega, fun p6 e6 => ?_⟩
    have f6 : upd H5 p6 (.lst [V.bl (decide (10 = i)), V.bl (decide (11 = i))]) p6 = some (.lst [V.bl (decide (10 = i)), V.bl (decide (11 = i))]) := upd_same
    have k6 : Kp [] H (upd H5 p6 (.lst [V.bl (decide (10 = i)), V.bl (decide (11 = i))])) := k5.new e6
    have f5' := (show upd H5 p6 (.lst [V.bl (decide (10 = i)), V.bl (decide (11 = i))]) p5 = H5 p5 from upd_ne (ne_of_none f5 e6)).trans f5
    refine addL f5' f6 (by simp [hsz]) fun p7 e7 => ?_
    exact k p7 _ (k6.new e7) upd_same
end
end My


/-! part H99c -/
set_option Elab.async false
set_option linter.all false
set_option maxRecDepth 100000
set_option maxHeartbeats 4000000
namespace My
open PySem L2
local macro_rules
  | `(tactic| simp!) => `(tactic| simp only [tSeq, tIfS, tCut, tTest, tOp, tVar, tC, tAsg, gName, gSub, tRet, tRetN, tNext, tCont, tBreak, tDrop, tAnd, tOr, tNot, tAndV, tOrV, tNotV, tB, tIf, tChain, tCall, rI0, rI, rAddW_int, rAddW_str, rMulW_int, rMulW_ref, rLtU_int, rLtU_str, rLeU_int, rLeU_str, rIxU_str, rIxU_ref, rLenU_str, rLenU_ref, rMinU_int, rMaxU_int, rIntU_int, rIntU_bl, rListU_str, rListU_ref, rPopU_ref, rAppendU_ref, rExtendU_ref, rClearU_ref, rEqU_int, rEqU_bl, rEqU_str, rEqU_ref, rNeU_int, rNeU_bl, rNeU_str, rNeU_ref, rIsU_ty, rSetU_ref, isL_ref, lstOf_lst, tupOf_tup, seqOf_lst, seqOf_tup, Option.isSome_some, tBML, tBML0, tCB, tCons, tNil, tLst, tTup, tRevS, tSl, tPart, tNoPart, rSlU_str, iAny, iRng1, iRng2, iEnumS, tDisp1, tDNotIn, tDIn, sDPut, tAug, ipI, tFor_eq, tComp, tCompIf, compSt, rDictT_ref, iDict, tUn, rU, tCallV, tTru, rTru_ref, rTru_bl, rTru_str, rPop0U_ref, rSumU_ref, rRev_ref, tListRev, rStrK_str, tFmt, tJnil, tJcons, tJoin, tBMS, isS_str, rInU_str, tExc0, tExcI, tExcInit, sExcSet, tExcFld, tFmtI, tFmtR, rIsX_ty, rIsX_ref, rCountU_ref, tLenSet, rLenSet_str, iZipS, rFindU_str, rIndexU_str, rMulS_str, rLtL, rAllU_ref, rAnyU_ref, Option.bind_some, Option.bind_none, Option.getD_some, L2.start, List.map_cons, List.map_nil, List.length_cons, List.length_nil, List.cons_append, List.nil_append, List.append_nil, List.cons.injEq, List.replicate, List.getElem?_cons_zero, List.getElem?_cons_succ, List.set_cons_zero, List.set_cons_succ, Nat.reduceSub, Nat.reduceAdd, Nat.reduceLeDiff, Option.some.injEq, V.int.injEq, V.bl.injEq, V.str.injEq, V.ref.injEq, HO.lst.injEq, HO.tup.injEq, exists_eq_left', exists_eq_left, exists_and_left, true_and, and_true, upd_same, upd_upd, atI_0, atI_1, atI_2, Bool.not_true, Bool.not_false, decide_eq_true_eq, Bool.false_eq_true, if_false, if_true, reduceIte, reduceCtorEq])
  | `(tactic| simp! [$ls,*]) => `(tactic| simp only [tSeq, tIfS, tCut, tTest, tOp, tVar, tC, tAsg, gName, gSub, tRet, tRetN, tNext, tCont, tBreak, tDrop, tAnd, tOr, tNot, tAndV, tOrV, tNotV, tB, tIf, tChain, tCall, rI0, rI, rAddW_int, rAddW_str, rMulW_int, rMulW_ref, rLtU_int, rLtU_str, rLeU_int, rLeU_str, rIxU_str, rIxU_ref, rLenU_str, rLenU_ref, rMinU_int, rMaxU_int, rIntU_int, rIntU_bl, rListU_str, rListU_ref, rPopU_ref, rAppendU_ref, rExtendU_ref, rClearU_ref, rEqU_int, rEqU_bl, rEqU_str, rEqU_ref, rNeU_int, rNeU_bl, rNeU_str, rNeU_ref, rIsU_ty, rSetU_ref, isL_ref, lstOf_lst, tupOf_tup, seqOf_lst, seqOf_tup, Option.isSome_some, tBML, tBML0, tCB, tCons, tNil, tLst, tTup, tRevS, tSl, tPart, tNoPart, rSlU_str, iAny, iRng1, iRng2, iEnumS, tDisp1, tDNotIn, tDIn, sDPut, tAug, ipI, tFor_eq, tComp, tCompIf, compSt, rDictT_ref, iDict, tUn, rU, tCallV, tTru, rTru_ref, rTru_bl, rTru_str, rPop0U_ref, rSumU_ref, rRev_ref, tListRev, rStrK_str, tFmt, tJnil, tJcons, tJoin, tBMS, isS_str, rInU_str, tExc0, tExcI, tExcInit, sExcSet, tExcFld, tFmtI, tFmtR, rIsX_ty, rIsX_ref, rCountU_ref, tLenSet, rLenSet_str, iZipS, rFindU_str, rIndexU_str, rMulS_str, rLtL, rAllU_ref, rAnyU_ref, Option.bind_some, Option.bind_none, Option.getD_some, L2.start, List.map_cons, List.map_nil, List.length_cons, List.length_nil, List.cons_append, List.nil_append, List.append_nil, List.cons.injEq, List.replicate, List.getElem?_cons_zero, List.getElem?_cons_succ, List.set_cons_zero, List.set_cons_succ, Nat.reduceSub, Nat.reduceAdd, Nat.reduceLeDiff, Option.some.injEq, V.int.injEq, V.bl.injEq, V.str.injEq, V.ref.injEq, HO.lst.injEq, HO.tup.injEq, exists_eq_left', exists_eq_left, exists_and_left, true_and, and_true, upd_same, upd_upd, atI_0, atI_1, atI_2, Bool.not_true, Bool.not_false, decide_eq_true_eq, Bool.false_eq_true, if_false, if_true, reduceIte, reduceCtorEq, $ls,*])
/-! ### all twelve of them right -/
def MadeAt (cl : Nat → Addr) (H : Hp) (m : Addr) : Prop := ∃ es : List Addr, es.length = 12 ∧ H m = some (.lst (es.map V.ref)) ∧ ∀ i e, es[i]? = some e → ExAt H e (cl i)
theorem MadeAt.kp {cl : Nat → Addr} {S : List Addr} {H H' : Hp} {m : Addr} (k : Kp S H H') (h : MadeAt cl H m) (hm : m ∉ S) (hl : ∀ b ∈ S, ∃ xs, H b = some (.lst xs)) : MadeAt cl H' m := by
  obtain ⟨es, h1, h2, h3⟩ := h
  exact ⟨es, h1, k.old _ _ h2 hm, fun i e he => (h3 i e he).kp k hl⟩
def spRight (cl : Nat → Addr) : Sp := fun vs H Q _ => ∃ (m : Addr), vs = [.ref m] ∧ MadeAt cl H m ∧ ∀ H', Kp [] H H' → Q (.bl true) H'
structure TRi (K : PySem.W.Frag) (mg : Str → Option Value) (cl : Nat → Addr) (D fk : Addr) : Prop extends TCl K mg cl D where
  n_range : mg "range" = none
  m__law_kinds : mg "_law_kinds" = some (.ref fk)
theorem kinds_one : ∀ i, i < 12 → (kindsV i).countP (· == true) = 1 := by decide
theorem kinds_at : ∀ i, i < 12 → (kindsV i)[i]? = some true := by decide
section
variable {P : Program} {w : World} {K : PySem.W.Frag} {mg : Str → Option Value} {base : Heap}
abbrev s__law_right : Stmt := top 21
theorem sc__law_right : FnScope ["_law_made", "_law_k", "_law_kinds_here"] ["_law_made"] (defScope s__law_right) := ⟨rfl, rfl, rfl, by decide +kernel, rfl, by decide +kernel, by decide +kernel⟩
theorem ok__law_right {f D fk : Addr} {fd fdk : FuncData} {cl : Nat → Addr} (F : Fun K "_law_right" "_law_right" s__law_right f fd) (T : TRi K mg cl D fk) (F__law_kinds : Fun K "_law_kinds" "_law_kinds" s__law_kinds fk fdk) (b__law_kinds : Binds K fdk ["_law_e"] [])
    (G__law_kinds : FnOk P w K mg base CX0 1 fk fdk ["_law_e"] (spKinds cl)) : FnOk P w K mg base CX0 2 f fd ["_law_made"] (spRight cl) := by
  refine F.ok sc__law_right (fun vs H Q E h => ?_) (fun cdv A outer s H vs Q E hr h => ?_)
  · obtain ⟨m, rfl, _⟩ := h
    rfl
  · obtain ⟨m, rfl, hm, k⟩ := h
    have hu := hr.units
    have hsz : sizeLine = 16777216 := PySem.sizeLine_eq
    refine ⟨_, (QSs.h (qpss_cons (qps_for PassesOwn.never rfl (qpi_range1 rfl T.n_range (qpa_cons qpe_int qpa_nil)) (qpg_name (i := 1) sc__law_right.nd rfl (by first | exact Or.inl rfl | exact Or.inr rfl)) (qpss_cons (qps_set (i := 2) sc__law_right.nd rfl (by first | exact Or.inl rfl | exact Or.inr rfl) (qpe_call G__law_kinds (hr.mono (by decide)) rfl T.m__law_kinds F__law_kinds.kp b__law_kinds .nil pass0 (qpa_cons (qpe_ix ix_U (qpv 0) (qpv 1) (fun _ _ => rfl)) qpa_nil)))
    (qpss_cons (qps_if (QW.pt (qpw_or (qpt_cmpR (op_neU hu) (qpe_bmL PySem.F.slot_list_count PySem.F.type_list_count mt_countU (qpv 2) (qpa_cons qpe_bl qpa_nil) mono_var) qpe_int (nomark _)) (qpw_or (qpt_not (qpt_val (qpe_ix ix_U (qpv 2) (qpv 1) (fun _ _ => rfl)))) (qpw_or1 (qpt_not (qpt_val (qpe_callB (call_isX (K := K) rfl) (by rfl) T.n_isinstance bt_isinstance (qpa_cons (qpe_ix ix_U (qpv 0) (qpv 1) (fun _ _ => rfl)) (qpa_cons (qpe_glob (v := .ref _) rfl T.m_CalmError rfl) qpa_nil))))))))) (qpss_one (qps_ret qpe_bl)) qpss_nil)
    (qpss_one (qps_if (qpt_not (qpt_val (qpe_callB (call_isX (K := K) rfl) (by rfl) T.n_isinstance bt_isinstance (qpa_cons (qpe_ix ix_U (qpv 0) (qpv 1) (fun _ _ => rfl)) (qpa_cons (qpe_bltn (v := .ty "ValueError") rfl T.n_ValueError bt_ValueError rfl) qpa_nil))))) (qpss_one (qps_ret qpe_bl)) qpss_nil)))))
    (qpss_one (qps_ret qpe_bl)))), ?_⟩
    simp!
    refine ⟨by decide, by decide, ?_⟩
    have n0 : ∀ b ∈ ([] : List Addr), ∃ xs, H b = some (.lst xs) := fun _ h => nomatch h
    refine loop_range (fun i σ H' => ∃ v1 v2, σ = [some (.ref m), v1, v2] ∧ Kp [] H H') ⟨none, none, rfl, Kp.refl _ _⟩ ?_ ?_
    · rintro i σ H1 hi ⟨v1, v2, rfl, kp⟩
      have hi : i < 12 := hi
      obtain ⟨es, e12, hm1, hes⟩ := hm.kp kp (by simp) n0
      obtain ⟨e, he⟩ : ∃ e, es[i]? = some e := ⟨es[i]'(by omega), by simp⟩
      have ea := hes i e he
      have at1 : atI (es.map V.ref) (0 + (i : Int)) = some (.ref e) := atI_of (by omega) (by rw [show (0 + (i : Int)).toNat = i by omega, List.getElem?_map, he]; rfl)
      simp! [hm1]
      refine ⟨_, at1, e, i, rfl, hi, ea, fun l H2 k2 hl => ?_⟩
      obtain ⟨N, xc⟩ := T.xc i hi
      have n1 : ∀ b ∈ ([] : List Addr), ∃ xs, H1 b = some (.lst xs) := fun _ h => nomatch h
      have ea2 := ea.kp k2 n1
      have hm2 := k2.old _ _ hm1 (by simp)
      simp! [hm2, hl]
      have at2 : atI ((kindsV i).map V.bl) (0 + (i : Int)) = some (.bl true) := atI_of (by omega) (by rw [show (0 + (i : Int)).toNat = i by omega, List.getElem?_map, kinds_at i hi]; rfl)
      refine ⟨_, rfl, ?_⟩
      rw [kinds_one i hi]
      simp only [Int.natCast_one, decide_true, Bool.not_true, Bool.false_eq_true, if_false]
      refine ⟨_, at2, true, rfl, ?_⟩
      simp only [Bool.not_true, Bool.false_eq_true, if_false]
      refine ⟨_, at1, cl i, D, N, true, ea2, xc, T.xi i hi, T.kD i hi, true, rfl, ?_⟩
      simp only [Bool.not_true, Bool.false_eq_true, if_false]
      refine ⟨_, by rw [hm2]; rfl, _, at1, cl i, D, N, true, ea2, xc, T.xi i hi, T.kV i hi, true, rfl, ?_⟩
      simp only [Bool.not_true, Bool.false_eq_true, if_false]
      exact ⟨_, _, ⟨rfl, rfl⟩, kp.trans k2⟩
    · rintro σ H1 ⟨v1, v2, rfl, kp⟩
      simp!
      exact k _ kp
end
end My


/-! part H99d -/
set_option Elab.async false
set_option linter.all false
set_option maxRecDepth 100000
set_option maxHeartbeats 4000000
namespace My
open PySem L2
local macro_rules
  | `(tactic| simp!) => `(tactic| simp only [tSeq, tIfS, tCut, tTest, tOp, tVar, tC, tAsg, gName, gSub, tRet, tRetN, tNext, tCont, tBreak, tDrop, tAnd, tOr, tNot, tAndV, tOrV, tNotV, tB, tIf, tChain, tCall, rI0, rI, rAddW_int, rAddW_str, rMulW_int, rMulW_ref, rLtU_int, rLtU_str, rLeU_int, rLeU_str, rIxU_str, rIxU_ref, rLenU_str, rLenU_ref, rMinU_int, rMaxU_int, rIntU_int, rIntU_bl, rListU_str, rListU_ref, rPopU_ref, rAppendU_ref, rExtendU_ref, rClearU_ref, rEqU_int, rEqU_bl, rEqU_str, rEqU_ref, rNeU_int, rNeU_bl, rNeU_str, rNeU_ref, rIsU_ty, rSetU_ref, isL_ref, lstOf_lst, tupOf_tup, seqOf_lst, seqOf_tup, Option.isSome_some, tBML, tBML0, tCB, tCons, tNil, tLst, tTup, tRevS, tSl, tPart, tNoPart, rSlU_str, iAny, iRng1, iRng2, iEnumS, tDisp1, tDNotIn, tDIn, sDPut, tAug, ipI, tFor_eq, tComp, tCompIf, compSt, rDictT_ref, iDict, tUn, rU, tCallV, tTru, rTru_ref, rTru_bl, rTru_str, rPop0U_ref, rSumU_ref, rRev_ref, tListRev, rStrK_str, tFmt, tJnil, tJcons, tJoin, tBMS, isS_str, rInU_str, tExc0, tExcI, tExcInit, sExcSet, tExcFld, tFmtI, tFmtR, rIsX_ty, rIsX_ref, rCountU_ref, tLenSet, rLenSet_str, iZipS, rFindU_str, rIndexU_str, rMulS_str, rLtL, rAllU_ref, rAnyU_ref, Option.bind_some, Option.bind_none, Option.getD_some, L2.start, List.map_cons, List.map_nil, List.length_cons, List.length_nil, List.cons_append, List.nil_append, List.append_nil, List.cons.injEq, List.replicate, List.getElem?_cons_zero, List.getElem?_cons_succ, List.set_cons_zero, List.set_cons_succ, Nat.reduceSub, Nat.reduceAdd, Nat.reduceLeDiff, Option.some.injEq, V.int.injEq, V.bl.injEq, V.str.injEq, V.ref.injEq, HO.lst.injEq, HO.tup.injEq, exists_eq_left', exists_eq_left, exists_and_left, true_and, and_true, upd_same, upd_upd, atI_0, atI_1, atI_2, Bool.not_true, Bool.not_false, decide_eq_true_eq, Bool.false_eq_true, if_false, if_true, reduceIte, reduceCtorEq])
  | `(tactic| simp! [$ls,*]) => `(tactic| simp only [tSeq, tIfS, tCut, tTest, tOp, tVar, tC, tAsg, gName, gSub, tRet, tRetN, tNext, tCont, tBreak, tDrop, tAnd, tOr, tNot, tAndV, tOrV, tNotV, tB, tIf, tChain, tCall, rI0, rI, rAddW_int, rAddW_str, rMulW_int, rMulW_ref, rLtU_int, rLtU_str, rLeU_int, rLeU_str, rIxU_str, rIxU_ref, rLenU_str, rLenU_ref, rMinU_int, rMaxU_int, rIntU_int, rIntU_bl, rListU_str, rListU_ref, rPopU_ref, rAppendU_ref, rExtendU_ref, rClearU_ref, rEqU_int, rEqU_bl, rEqU_str, rEqU_ref, rNeU_int, rNeU_bl, rNeU_str, rNeU_ref, rIsU_ty, rSetU_ref, isL_ref, lstOf_lst, tupOf_tup, seqOf_lst, seqOf_tup, Option.isSome_some, tBML, tBML0, tCB, tCons, tNil, tLst, tTup, tRevS, tSl, tPart, tNoPart, rSlU_str, iAny, iRng1, iRng2, iEnumS, tDisp1, tDNotIn, tDIn, sDPut, tAug, ipI, tFor_eq, tComp, tCompIf, compSt, rDictT_ref, iDict, tUn, rU, tCallV, tTru, rTru_ref, rTru_bl, rTru_str, rPop0U_ref, rSumU_ref, rRev_ref, tListRev, rStrK_str, tFmt, tJnil, tJcons, tJoin, tBMS, isS_str, rInU_str, tExc0, tExcI, tExcInit, sExcSet, tExcFld, tFmtI, tFmtR, rIsX_ty, rIsX_ref, rCountU_ref, tLenSet, rLenSet_str, iZipS, rFindU_str, rIndexU_str, rMulS_str, rLtL, rAllU_ref, rAnyU_ref, Option.bind_some, Option.bind_none, Option.getD_some, L2.start, List.map_cons, List.map_nil, List.length_cons, List.length_nil, List.cons_append, List.nil_append, List.append_nil, List.cons.injEq, List.replicate, List.getElem?_cons_zero, List.getElem?_cons_succ, List.set_cons_zero, List.set_cons_succ, Nat.reduceSub, Nat.reduceAdd, Nat.reduceLeDiff, Option.some.injEq, V.int.injEq, V.bl.injEq, V.str.injEq, V.ref.injEq, HO.lst.injEq, HO.tup.injEq, exists_eq_left', exists_eq_left, exists_and_left, true_and, and_true, upd_same, upd_upd, atI_0, atI_1, atI_2, Bool.not_true, Bool.not_false, decide_eq_true_eq, Bool.false_eq_true, if_false, if_true, reduceIte, reduceCtorEq, $ls,*])
/-! ### all twelve made -/
def EiAt (cl : Nat → Addr) (H : Hp) (e : Addr) (i : Nat) (fl : Option (Str × V)) : Prop := match fl with
  | none => H e = some (ExO e (cl i) none)
  | some p => ∃ d, H e = some (ExO e (cl i) (some d)) ∧ H d = some (.xd [p])
theorem EiAt.kp {cl : Nat → Addr} {H H' : Hp} {e : Addr} {i : Nat} {fl : Option (Str × V)} (h : EiAt cl H e i fl) (k : Kp [] H H') : EiAt cl H' e i fl := by
  cases fl with
  | none => exact k.old _ _ h (by simp)
  | some p => obtain ⟨d, h1, h2⟩ := h; exact ⟨d, k.old _ _ h1 (by simp), k.old _ _ h2 (by simp)⟩
theorem EiAt.ex {cl : Nat → Addr} {H : Hp} {e : Addr} {i : Nat} {fl : Option (Str × V)} (h : EiAt cl H e i fl) : ExAt H e (cl i) := by
  cases fl with
  | none => exact ⟨none, h, fun d e => by cases e⟩
  | some p => obtain ⟨d, h1, h2⟩ := h; exact ⟨some d, h1, fun d' e => by cases e; exact ⟨_, h2⟩⟩
theorem new0 {cl : Nat → Addr} {H : Hp} {e : Addr} {i : Nat} (h : H e = none) : Kp [] H (upd H e (ExO e (cl i) none)) ∧ EiAt cl (upd H e (ExO e (cl i) none)) e i none := ⟨(Kp.refl [] H).new h, upd_same⟩
theorem newI {cl : Nat → Addr} {H : Hp} {e d : Addr} {i : Nat} {p : Str × V} (h : H e = none) (g : upd H e (ExO e (cl i) none) d = none) :
    Kp [] H (upd (upd (upd H e (ExO e (cl i) none)) d (.xd [p])) e (ExO e (cl i) (some d))) ∧ EiAt cl (upd (upd (upd H e (ExO e (cl i) none)) d (.xd [p])) e (ExO e (cl i) (some d))) e i (some p) := by
  have ned : d ≠ e := fun z => by subst z; rw [upd_same] at g; cases g
  have gd : H d = none := by rw [upd_ne ned] at g; exact g
  have hne : ∀ b o, H b = some o → b ≠ e ∧ b ≠ d := fun b o hb => ⟨ne_of_none hb h, ne_of_none hb gd⟩
  refine ⟨⟨fun b o hb _ => ?_, fun b xs hb => ?_, fun b o hb => ⟨o, ?_⟩⟩, d, upd_same, ?_⟩
  · obtain ⟨n1, n2⟩ := hne b _ hb
    rw [upd_ne n1, upd_ne n2, upd_ne n1]; exact hb
  · obtain ⟨n1, n2⟩ := hne b _ hb
    rw [upd_ne n1, upd_ne n2, upd_ne n1]; exact hb
  · obtain ⟨n1, n2⟩ := hne b _ hb
    rw [upd_ne n1, upd_ne n2, upd_ne n1]; exact hb
  · rw [upd_ne ned, upd_same]
theorem okT.kp {x : V} {H H' : Hp} (h : okT x H) (k : Kp [] H H') : okT x H' := by
  obtain ⟨a, ds, h1, h2, h3⟩ := h
  exact ⟨a, ds, h1, k.tup _ _ h2, h3⟩
def flds (n : Int) (z : Str) (t : Addr) (i : Nat) : Option (Str × V) := match i with
  | 1 => some ("room", .int n)
  | 2 => some ("at", .int (n + 1))
  | 3 => some ("at", .int (n + 2))
  | 5 => some ("at", .int (n + 3))
  | 6 => some ("at", .int (n + 4))
  | 8 => some ("names", .ref t)
  | 10 => some ("name", .str z)
  | _ => none
def AllAt (cl : Nat → Addr) (H : Hp) (m : Addr) (n : Int) (z : Str) (t : Addr) : Prop := ∃ es : List Addr, es.length = 12 ∧ H m = some (.lst (es.map V.ref)) ∧ ∀ i e, es[i]? = some e → EiAt cl H e i (flds n z t i)
theorem AllAt.made {cl : Nat → Addr} {H : Hp} {m : Addr} {n : Int} {z : Str} {t : Addr} (h : AllAt cl H m n z t) : MadeAt cl H m := by
  obtain ⟨es, h1, h2, h3⟩ := h
  exact ⟨es, h1, h2, fun i e he => (h3 i e he).ex⟩
theorem AllAt.kp {cl : Nat → Addr} {H H' : Hp} {m : Addr} {n : Int} {z : Str} {t : Addr} (h : AllAt cl H m n z t) (k : Kp [] H H') : AllAt cl H' m n z t := by
  obtain ⟨es, h1, h2, h3⟩ := h
  exact ⟨es, h1, k.old _ _ h2 (by simp), fun i e he => (h3 i e he).kp k⟩
def spAll (cl : Nat → Addr) : Sp := fun vs H Q _ => ∃ (n : Int) (z : Str) (t : Addr), vs = [.int n, .str z, .ref t] ∧ 0 ≤ n ∧ n ≤ 1000000000 ∧ okS (.str z) H ∧ okT (.ref t) H ∧ ∀ m H', Kp [] H H' → AllAt cl H' m n z t → Q (.ref m) H'
structure TAll (K : PySem.W.Frag) (mg : Str → Option Value) (cl nn fi : Nat → Addr) (D : Addr) : Prop extends TCl K mg cl D where
  c_BadLetters : XC K (cl 0) D (nn 0)
  i_BadLetters : PySem.W.nsIn K (nn 0) "__init__" = some none
  c_BadRoom : XC K (cl 1) D (nn 1)
  i_BadRoom : PySem.W.nsIn K (nn 1) "__init__" = some (some (.ref (fi 1)))
  f_BadRoom : ∃ o, K.lookup (fi 1) = some o ∧ o.cls = .type "function"
  q_BadRoom : PySem.W.findIn K (.ref (cl 1)) "room" = some none
  c_NoLetter : XC K (cl 2) D (nn 2)
  i_NoLetter : PySem.W.nsIn K (nn 2) "__init__" = some (some (.ref (fi 2)))
  f_NoLetter : ∃ o, K.lookup (fi 2) = some o ∧ o.cls = .type "function"
  q_NoLetter : PySem.W.findIn K (.ref (cl 2)) "at" = some none
  c_BadText : XC K (cl 3) D (nn 3)
  i_BadText : PySem.W.nsIn K (nn 3) "__init__" = some (some (.ref (fi 3)))
  f_BadText : ∃ o, K.lookup (fi 3) = some o ∧ o.cls = .type "function"
  q_BadText : PySem.W.findIn K (.ref (cl 3)) "at" = some none
  c_OtherLetters : XC K (cl 4) D (nn 4)
  i_OtherLetters : PySem.W.nsIn K (nn 4) "__init__" = some none
  c_TooMany : XC K (cl 5) D (nn 5)
  i_TooMany : PySem.W.nsIn K (nn 5) "__init__" = some (some (.ref (fi 5)))
  f_TooMany : ∃ o, K.lookup (fi 5) = some o ∧ o.cls = .type "function"
  q_TooMany : PySem.W.findIn K (.ref (cl 5)) "at" = some none
  c_BadRow : XC K (cl 6) D (nn 6)
  i_BadRow : PySem.W.nsIn K (nn 6) "__init__" = some (some (.ref (fi 6)))
  f_BadRow : ∃ o, K.lookup (fi 6) = some o ∧ o.cls = .type "function"
  q_BadRow : PySem.W.findIn K (.ref (cl 6)) "at" = some none
  c_TooLong : XC K (cl 7) D (nn 7)
  i_TooLong : PySem.W.nsIn K (nn 7) "__init__" = some none
  c_NotClosed : XC K (cl 8) D (nn 8)
  i_NotClosed : PySem.W.nsIn K (nn 8) "__init__" = some (some (.ref (fi 8)))
  f_NotClosed : ∃ o, K.lookup (fi 8) = some o ∧ o.cls = .type "function"
  q_NotClosed : PySem.W.findIn K (.ref (cl 8)) "names" = some none
  c_NotCalm : XC K (cl 9) D (nn 9)
  i_NotCalm : PySem.W.nsIn K (nn 9) "__init__" = some none
  c_NoName : XC K (cl 10) D (nn 10)
  i_NoName : PySem.W.nsIn K (nn 10) "__init__" = some (some (.ref (fi 10)))
  f_NoName : ∃ o, K.lookup (fi 10) = some o ∧ o.cls = .type "function"
  q_NoName : PySem.W.findIn K (.ref (cl 10)) "name" = some none
  c_NoRow : XC K (cl 11) D (nn 11)
  i_NoRow : PySem.W.nsIn K (nn 11) "__init__" = some none
section
variable {P : Program} {w : World} {K : PySem.W.Frag} {mg : Str → Option Value} {base : Heap}
abbrev s__law_all_made : Stmt := top 19
theorem sc__law_all_made : FnScope ["_law_number", "_law_name", "_law_names", "_law_made"] ["_law_number", "_law_name", "_law_names"] (defScope s__law_all_made) := ⟨rfl, rfl, rfl, by decide +kernel, rfl, by decide +kernel, by decide +kernel⟩
theorem ok__law_all_made {f D : Addr} {fd fd1 fd2 fd3 fd5 fd6 fd8 fd10 : FuncData} {cl nn fi : Nat → Addr} (F : Fun K "_law_all_made" "_law_all_made" s__law_all_made f fd) (T : TAll K mg cl nn fi D)
    (G_BadRoom : FnOk P w K mg base CX0 1 (fi 1) fd1 ["self", "room"] (spIni K "room" okI)) (b_BadRoom : Binds K fd1 ["self", "room"] [])
    (G_NoLetter : FnOk P w K mg base CX0 1 (fi 2) fd2 ["self", "at"] (spIni K "at" okI)) (b_NoLetter : Binds K fd2 ["self", "at"] [])
    (G_BadText : FnOk P w K mg base CX0 1 (fi 3) fd3 ["self", "at"] (spIni K "at" okI)) (b_BadText : Binds K fd3 ["self", "at"] [])
    (G_TooMany : FnOk P w K mg base CX0 1 (fi 5) fd5 ["self", "at"] (spIni K "at" okI)) (b_TooMany : Binds K fd5 ["self", "at"] [])
    (G_BadRow : FnOk P w K mg base CX0 1 (fi 6) fd6 ["self", "at"] (spIni K "at" okI)) (b_BadRow : Binds K fd6 ["self", "at"] [])
    (G_NotClosed : FnOk P w K mg base CX0 1 (fi 8) fd8 ["self", "names"] (spIni K "names" okT)) (b_NotClosed : Binds K fd8 ["self", "names"] [])
    (G_NoName : FnOk P w K mg base CX0 1 (fi 10) fd10 ["self", "name"] (spIni K "name" okS)) (b_NoName : Binds K fd10 ["self", "name"] [])
    : FnOk P w K mg base CX0 3 f fd ["_law_number", "_law_name", "_law_names"] (spAll cl) := by
  refine F.ok sc__law_all_made (fun vs H Q E h => ?_) (fun cdv A outer s H vs Q E hr h => ?_)
  · obtain ⟨n, z, t, rfl, _⟩ := h
    rfl
  · obtain ⟨n, z, t, rfl, n0, n1, oz, ot, k⟩ := h
    have hu := hr.units
    have hsz : sizeLine = 16777216 := PySem.sizeLine_eq
    have big : (1000000010 : Nat) < 10 ^ 20 := by decide
    refine ⟨_, (QSs.h (qpss_cons (qps_set (i := 3) sc__law_all_made.nd rfl (by first | exact Or.inl rfl | exact Or.inr rfl) (qpe_lst (qpa_cons (qpe_exc0 rfl T.c_BadLetters T.i_BadLetters rfl T.m_BadLetters) (qpa_cons (qpe_excI rfl T.c_BadRoom T.i_BadRoom T.f_BadRoom G_BadRoom (hr.mono (by decide)) b_BadRoom rfl T.m_BadRoom (qpa_cons (qpv 0) qpa_nil)) (qpa_cons (qpe_excI rfl T.c_NoLetter T.i_NoLetter T.f_NoLetter G_NoLetter (hr.mono (by decide)) b_NoLetter rfl T.m_NoLetter (qpa_cons (qpe_op op_addW (qpv 0) qpe_int) qpa_nil)) (qpa_cons (qpe_excI rfl T.c_BadText T.i_BadText T.f_BadText G_BadText (hr.mono (by decide)) b_BadText rfl T.m_BadText (qpa_cons (qpe_op op_addW (qpv 0) qpe_int) qpa_nil)) (qpa_cons (qpe_exc0 rfl T.c_OtherLetters T.i_OtherLetters rfl T.m_OtherLetters) qpa_nil)))))))
    (qpss_cons (qps_set (i := 3) sc__law_all_made.nd rfl (by first | exact Or.inl rfl | exact Or.inr rfl) (qpe_op op_addW (qpv 3) (qpe_lst (qpa_cons (qpe_excI rfl T.c_TooMany T.i_TooMany T.f_TooMany G_TooMany (hr.mono (by decide)) b_TooMany rfl T.m_TooMany (qpa_cons (qpe_op op_addW (qpv 0) qpe_int) qpa_nil)) (qpa_cons (qpe_excI rfl T.c_BadRow T.i_BadRow T.f_BadRow G_BadRow (hr.mono (by decide)) b_BadRow rfl T.m_BadRow (qpa_cons (qpe_op op_addW (qpv 0) qpe_int) qpa_nil)) (qpa_cons (qpe_exc0 rfl T.c_TooLong T.i_TooLong rfl T.m_TooLong) (qpa_cons (qpe_excI rfl T.c_NotClosed T.i_NotClosed T.f_NotClosed G_NotClosed (hr.mono (by decide)) b_NotClosed rfl T.m_NotClosed (qpa_cons (qpv 2) qpa_nil)) (qpa_cons (qpe_exc0 rfl T.c_NotCalm T.i_NotCalm rfl T.m_NotCalm) qpa_nil))))))))
    (qpss_one (qps_ret (qpe_op op_addW (qpv 3) (qpe_lst (qpa_cons (qpe_excI rfl T.c_NoName T.i_NoName T.f_NoName G_NoName (hr.mono (by decide)) b_NoName rfl T.m_NoName (qpa_cons (qpv 1) qpa_nil)) (qpa_cons (qpe_exc0 rfl T.c_NoRow T.i_NoRow rfl T.m_NoRow) qpa_nil))))))))), ?_⟩
    simp!
    have kc : Kp [] H H := Kp.refl _ _
    intro e0 h0
    obtain ⟨kk, a0⟩ := new0 (cl := cl) (i := 0) h0
    generalize upd H e0 (ExO e0 (cl 0) none) = H1 at kk a0 ⊢
    replace kc := kc.trans kk
    clear kk
    intro e1 h1
    refine ⟨e1, cl 1, D, nn 1, _, rfl, upd_same, T.c_BadRoom, T.q_BadRoom, ⟨n, rfl, by omega⟩, fun d1 g1 => ⟨rfl, ?_⟩⟩
    obtain ⟨kk, a1⟩ := newI (cl := cl) (i := 1) (p := (("room" : Str), V.int n)) h1 g1
    generalize upd (upd (upd H1 e1 (ExO e1 (cl 1) none)) d1 (.xd [(("room" : Str), V.int n)])) e1 (ExO e1 (cl 1) (some d1)) = H2 at kk a1 ⊢
    replace kc := kc.trans kk
    replace a0 := a0.kp kk
    clear kk
    intro e2 h2
    refine ⟨e2, cl 2, D, nn 2, _, rfl, upd_same, T.c_NoLetter, T.q_NoLetter, ⟨n + 1, rfl, by omega⟩, fun d2 g2 => ⟨rfl, ?_⟩⟩
    obtain ⟨kk, a2⟩ := newI (cl := cl) (i := 2) (p := (("at" : Str), V.int (n + 1))) h2 g2
    generalize upd (upd (upd H2 e2 (ExO e2 (cl 2) none)) d2 (.xd [(("at" : Str), V.int (n + 1))])) e2 (ExO e2 (cl 2) (some d2)) = H3 at kk a2 ⊢
    replace kc := kc.trans kk
    replace a0 := a0.kp kk
    replace a1 := a1.kp kk
    clear kk
    intro e3 h3
    refine ⟨e3, cl 3, D, nn 3, _, rfl, upd_same, T.c_BadText, T.q_BadText, ⟨n + 2, rfl, by omega⟩, fun d3 g3 => ⟨rfl, ?_⟩⟩
    obtain ⟨kk, a3⟩ := newI (cl := cl) (i := 3) (p := (("at" : Str), V.int (n + 2))) h3 g3
    generalize upd (upd (upd H3 e3 (ExO e3 (cl 3) none)) d3 (.xd [(("at" : Str), V.int (n + 2))])) e3 (ExO e3 (cl 3) (some d3)) = H4 at kk a3 ⊢
    replace kc := kc.trans kk
    replace a0 := a0.kp kk
    replace a1 := a1.kp kk
    replace a2 := a2.kp kk
    clear kk
    intro e4 h4
    obtain ⟨kk, a4⟩ := new0 (cl := cl) (i := 4) h4
    generalize upd H4 e4 (ExO e4 (cl 4) none) = H5 at kk a4 ⊢
    replace kc := kc.trans kk
    replace a0 := a0.kp kk
    replace a1 := a1.kp kk
    replace a2 := a2.kp kk
    replace a3 := a3.kp kk
    clear kk
    refine ⟨by omega, fun p1 hp1 => ?_⟩
    have kk : Kp [] H5 (upd H5 p1 (.lst [V.ref e0, V.ref e1, V.ref e2, V.ref e3, V.ref e4])) := (Kp.refl [] _).new hp1
    have l1 : upd H5 p1 (.lst [V.ref e0, V.ref e1, V.ref e2, V.ref e3, V.ref e4]) p1 = some (.lst [V.ref e0, V.ref e1, V.ref e2, V.ref e3, V.ref e4]) := upd_same
    generalize upd H5 p1 (.lst [V.ref e0, V.ref e1, V.ref e2, V.ref e3, V.ref e4]) = H6 at kk l1 ⊢
    replace kc := kc.trans kk
    replace a0 := a0.kp kk
    replace a1 := a1.kp kk
    replace a2 := a2.kp kk
    replace a3 := a3.kp kk
    replace a4 := a4.kp kk
    clear kk
    intro e5 h5
    refine ⟨e5, cl 5, D, nn 5, _, rfl, upd_same, T.c_TooMany, T.q_TooMany, ⟨n + 3, rfl, by omega⟩, fun d5 g5 => ⟨rfl, ?_⟩⟩
    obtain ⟨kk, a5⟩ := newI (cl := cl) (i := 5) (p := (("at" : Str), V.int (n + 3))) h5 g5
    generalize upd (upd (upd H6 e5 (ExO e5 (cl 5) none)) d5 (.xd [(("at" : Str), V.int (n + 3))])) e5 (ExO e5 (cl 5) (some d5)) = H7 at kk a5 ⊢
    replace kc := kc.trans kk
    replace a0 := a0.kp kk
    replace a1 := a1.kp kk
    replace a2 := a2.kp kk
    replace a3 := a3.kp kk
    replace a4 := a4.kp kk
    replace l1 := kk.old _ _ l1 (by simp)
    clear kk
    intro e6 h6
    refine ⟨e6, cl 6, D, nn 6, _, rfl, upd_same, T.c_BadRow, T.q_BadRow, ⟨n + 4, rfl, by omega⟩, fun d6 g6 => ⟨rfl, ?_⟩⟩
    obtain ⟨kk, a6⟩ := newI (cl := cl) (i := 6) (p := (("at" : Str), V.int (n + 4))) h6 g6
    generalize upd (upd (upd H7 e6 (ExO e6 (cl 6) none)) d6 (.xd [(("at" : Str), V.int (n + 4))])) e6 (ExO e6 (cl 6) (some d6)) = H8 at kk a6 ⊢
    replace kc := kc.trans kk
    replace a0 := a0.kp kk
    replace a1 := a1.kp kk
    replace a2 := a2.kp kk
    replace a3 := a3.kp kk
    replace a4 := a4.kp kk
    replace a5 := a5.kp kk
    replace l1 := kk.old _ _ l1 (by simp)
    clear kk
    intro e7 h7
    obtain ⟨kk, a7⟩ := new0 (cl := cl) (i := 7) h7
    generalize upd H8 e7 (ExO e7 (cl 7) none) = H9 at kk a7 ⊢
    replace kc := kc.trans kk
    replace a0 := a0.kp kk
    replace a1 := a1.kp kk
    replace a2 := a2.kp kk
    replace a3 := a3.kp kk
    replace a4 := a4.kp kk
    replace a5 := a5.kp kk
    replace a6 := a6.kp kk
    replace l1 := kk.old _ _ l1 (by simp)
    clear kk
    intro e8 h8
    refine ⟨e8, cl 8, D, nn 8, _, rfl, upd_same, T.c_NotClosed, T.q_NotClosed, ot.kp (kc.new h8), fun d8 g8 => ⟨rfl, ?_⟩⟩
    obtain ⟨kk, a8⟩ := newI (cl := cl) (i := 8) (p := (("names" : Str), V.ref t)) h8 g8
    generalize upd (upd (upd H9 e8 (ExO e8 (cl 8) none)) d8 (.xd [(("names" : Str), V.ref t)])) e8 (ExO e8 (cl 8) (some d8)) = H10 at kk a8 ⊢
    replace kc := kc.trans kk
    replace a0 := a0.kp kk
    replace a1 := a1.kp kk
    replace a2 := a2.kp kk
    replace a3 := a3.kp kk
    replace a4 := a4.kp kk
    replace a5 := a5.kp kk
    replace a6 := a6.kp kk
    replace a7 := a7.kp kk
    replace l1 := kk.old _ _ l1 (by simp)
    clear kk
    intro e9 h9
    obtain ⟨kk, a9⟩ := new0 (cl := cl) (i := 9) h9
    generalize upd H10 e9 (ExO e9 (cl 9) none) = H11 at kk a9 ⊢
    replace kc := kc.trans kk
    replace a0 := a0.kp kk
    replace a1 := a1.kp kk
    replace a2 := a2.kp kk
    replace a3 := a3.kp kk
    replace a4 := a4.kp kk
    replace a5 := a5.kp kk
    replace a6 := a6.kp kk
    replace a7 := a7.kp kk
    replace a8 := a8.kp kk
    replace l1 := kk.old _ _ l1 (by simp)
    clear kk
    refine ⟨by omega, fun p2 hp2 => ?_⟩
    have kk : Kp [] H11 (upd H11 p2 (.lst [V.ref e5, V.ref e6, V.ref e7, V.ref e8, V.ref e9])) := (Kp.refl [] _).new hp2
    have l2 : upd H11 p2 (.lst [V.ref e5, V.ref e6, V.ref e7, V.ref e8, V.ref e9]) p2 = some (.lst [V.ref e5, V.ref e6, V.ref e7, V.ref e8, V.ref e9]) := upd_same
    generalize upd H11 p2 (.lst [V.ref e5, V.ref e6, V.ref e7, V.ref e8, V.ref e9]) = H12 at kk l2 ⊢
    replace kc := kc.trans kk
    replace a0 := a0.kp kk
    replace a1 := a1.kp kk
    replace a2 := a2.kp kk
    replace a3 := a3.kp kk
    replace a4 := a4.kp kk
    replace a5 := a5.kp kk
    replace a6 := a6.kp kk
    replace a7 := a7.kp kk
    replace a8 := a8.kp kk
    replace a9 := a9.kp kk
    replace l1 := kk.old _ _ l1 (by simp)
    clear kk
    refine addL l1 l2 (by simp [hsz]) fun p3 hp3 => ?_
    have kk : Kp [] H12 (upd H12 p3 (.lst ([V.ref e0, V.ref e1, V.ref e2, V.ref e3, V.ref e4] ++ [V.ref e5, V.ref e6, V.ref e7, V.ref e8, V.ref e9]))) := (Kp.refl [] _).new hp3
    have l3 : upd H12 p3 (.lst ([V.ref e0, V.ref e1, V.ref e2, V.ref e3, V.ref e4] ++ [V.ref e5, V.ref e6, V.ref e7, V.ref e8, V.ref e9])) p3 = some (.lst ([V.ref e0, V.ref e1, V.ref e2, V.ref e3, V.ref e4] ++ [V.ref e5, V.ref e6, V.ref e7, V.ref e8, V.ref e9])) := upd_same
    generalize upd H12 p3 (.lst ([V.ref e0, V.ref e1, V.ref e2, V.ref e3, V.ref e4] ++ [V.ref e5, V.ref e6, V.ref e7, V.ref e8, V.ref e9])) = H13 at kk l3 ⊢
    replace kc := kc.trans kk
    replace a0 := a0.kp kk
    replace a1 := a1.kp kk
    replace a2 := a2.kp kk
    replace a3 := a3.kp kk
    replace a4 := a4.kp kk
    replace a5 := a5.kp kk
    replace a6 := a6.kp kk
    replace a7 := a7.kp kk
    replace a8 := a8.kp kk
    replace a9 := a9.kp kk
    replace l1 := kk.old _ _ l1 (by simp)
    replace l2 := kk.old _ _ l2 (by simp)
    clear kk
    intro e10 h10
    refine ⟨e10, cl 10, D, nn 10, _, rfl, upd_same, T.c_NoName, T.q_NoName, oz, fun d10 g10 => ⟨rfl, ?_⟩⟩
    obtain ⟨kk, a10⟩ := newI (cl := cl) (i := 10) (p := (("name" : Str), V.str z)) h10 g10
    generalize upd (upd (upd H13 e10 (ExO e10 (cl 10) none)) d10 (.xd [(("name" : Str), V.str z)])) e10 (ExO e10 (cl 10) (some d10)) = H14 at kk a10 ⊢
    replace kc := kc.trans kk
    replace a0 := a0.kp kk
    replace a1 := a1.kp kk
    replace a2 := a2.kp kk
    replace a3 := a3.kp kk
    replace a4 := a4.kp kk
    replace a5 := a5.kp kk
    replace a6 := a6.kp kk
    replace a7 := a7.kp kk
    replace a8 := a8.kp kk
    replace a9 := a9.kp kk
    replace l1 := kk.old _ _ l1 (by simp)
    replace l2 := kk.old _ _ l2 (by simp)
    replace l3 := kk.old _ _ l3 (by simp)
    clear kk
    intro e11 h11
    obtain ⟨kk, a11⟩ := new0 (cl := cl) (i := 11) h11
    generalize upd H14 e11 (ExO e11 (cl 11) none) = H15 at kk a11 ⊢
    replace kc := kc.trans kk
    replace a0 := a0.kp kk
    replace a1 := a1.kp kk
    replace a2 := a2.kp kk
    replace a3 := a3.kp kk
    replace a4 := a4.kp kk
    replace a5 := a5.kp kk
    replace a6 := a6.kp kk
    replace a7 := a7.kp kk
    replace a8 := a8.kp kk
    replace a9 := a9.kp kk
    replace a10 := a10.kp kk
    replace l1 := kk.old _ _ l1 (by simp)
    replace l2 := kk.old _ _ l2 (by simp)
    replace l3 := kk.old _ _ l3 (by simp)
    clear kk
    refine ⟨by omega, fun p4 hp4 => ?_⟩
    have kk : Kp [] H15 (upd H15 p4 (.lst [V.ref e10, V.ref e11])) := (Kp.refl [] _).new hp4
    have l4 : upd H15 p4 (.lst [V.ref e10, V.ref e11]) p4 = some (.lst [V.ref e10, V.ref e11]) := upd_same
    generalize upd H15 p4 (.lst [V.ref e10, V.ref e11]) = H16 at kk l4 ⊢
    replace kc := kc.trans kk
    replace a0 := a0.kp kk
    replace a1 := a1.kp kk
    replace a2 := a2.kp kk
    replace a3 := a3.kp kk
    replace a4 := a4.kp kk
    replace a5 := a5.kp kk
    replace a6 := a6.kp kk
    replace a7 := a7.kp kk
    replace a8 := a8.kp kk
    replace a9 := a9.kp kk
    replace a10 := a10.kp kk
    replace a11 := a11.kp kk
    replace l1 := kk.old _ _ l1 (by simp)
    replace l2 := kk.old _ _ l2 (by simp)
    replace l3 := kk.old _ _ l3 (by simp)
    clear kk
    refine addL l3 l4 (by simp [hsz]) fun p5 hp5 => ?_
    have kk : Kp [] H16 (upd H16 p5 (.lst (([V.ref e0, V.ref e1, V.ref e2, V.ref e3, V.ref e4] ++ [V.ref e5, V.ref e6, V.ref e7, V.ref e8, V.ref e9]) ++ [V.ref e10, V.ref e11]))) := (Kp.refl [] _).new hp5
    refine k p5 _ (kc.trans kk) ⟨[e0, e1, e2, e3, e4, e5, e6, e7, e8, e9, e10, e11], rfl, upd_same, fun i e he => ?_⟩
    have hlt : i < 12 := by have := (List.getElem?_eq_some_iff.mp he).1; simpa using this
    have : i = 0 ∨ i = 1 ∨ i = 2 ∨ i = 3 ∨ i = 4 ∨ i = 5 ∨ i = 6 ∨ i = 7 ∨ i = 8 ∨ i = 9 ∨ i = 10 ∨ i = 11 := by omega
    rcases this with rfl | rfl | rfl | rfl | rfl | rfl | rfl | rfl | rfl | rfl | rfl | rfl <;> (simp at he; subst he)
    · exact a0.kp kk
    · exact a1.kp kk
    · exact a2.kp kk
    · exact a3.kp kk
    · exact a4.kp kk
    · exact a5.kp kk
    · exact a6.kp kk
    · exact a7.kp kk
    · exact a8.kp kk
    · exact a9.kp kk
    · exact a10.kp kk
    · exact a11.kp kk
end
end My


/-! part H99e -/
set_option Elab.async false
set_option linter.all false
set_option maxRecDepth 100000
set_option maxHeartbeats 4000000
namespace My
open PySem L2
local macro_rules
  | `(tactic| simp!) => `(tactic| simp only [tSeq, tIfS, tCut, tTest, tOp, tVar, tC, tAsg, gName, gSub, tRet, tRetN, tNext, tCont, tBreak, tDrop, tAnd, tOr, tNot, tAndV, tOrV, tNotV, tB, tIf, tChain, tCall, rI0, rI, rAddW_int, rAddW_str, rMulW_int, rMulW_ref, rLtU_int, rLtU_str, rLeU_int, rLeU_str, rIxU_str, rIxU_ref, rLenU_str, rLenU_ref, rMinU_int, rMaxU_int, rIntU_int, rIntU_bl, rListU_str, rListU_ref, rPopU_ref, rAppendU_ref, rExtendU_ref, rClearU_ref, rEqU_int, rEqU_bl, rEqU_str, rEqU_ref, rNeU_int, rNeU_bl, rNeU_str, rNeU_ref, rIsU_ty, rSetU_ref, isL_ref, lstOf_lst, tupOf_tup, seqOf_lst, seqOf_tup, Option.isSome_some, tBML, tBML0, tCB, tCons, tNil, tLst, tTup, tRevS, tSl, tPart, tNoPart, rSlU_str, iAny, iRng1, iRng2, iEnumS, tDisp1, tDNotIn, tDIn, sDPut, tAug, ipI, tFor_eq, tComp, tCompIf, compSt, rDictT_ref, iDict, tUn, rU, tCallV, tTru, rTru_ref, rTru_bl, rTru_str, rPop0U_ref, rSumU_ref, rRev_ref, tListRev, rStrK_str, tFmt, tJnil, tJcons, tJoin, tBMS, isS_str, rInU_str, tExc0, tExcI, tExcInit, sExcSet, tExcFld, tFmtI, tFmtR, rIsX_ty, rIsX_ref, rCountU_ref, tLenSet, rLenSet_str, iZipS, rFindU_str, rIndexU_str, rMulS_str, rLtL, rAllU_ref, rAnyU_ref, Option.bind_some, Option.bind_none, Option.getD_some, L2.start, List.map_cons, List.map_nil, List.length_cons, List.length_nil, List.cons_append, List.nil_append, List.append_nil, List.cons.injEq, List.replicate, List.getElem?_cons_zero, List.getElem?_cons_succ, List.set_cons_zero, List.set_cons_succ, Nat.reduceSub, Nat.reduceAdd, Nat.reduceLeDiff, Option.some.injEq, V.int.injEq, V.bl.injEq, V.str.injEq, V.ref.injEq, HO.lst.injEq, HO.tup.injEq, exists_eq_left', exists_eq_left, exists_and_left, true_and, and_true, upd_same, upd_upd, atI_0, atI_1, atI_2, Bool.not_true, Bool.not_false, decide_eq_true_eq, Bool.false_eq_true, if_false, if_true, reduceIte, reduceCtorEq])
  | `(tactic| simp! [$ls,*]) => `(tactic| simp only [tSeq, tIfS, tCut, tTest, tOp, tVar, tC, tAsg, gName, gSub, tRet, tRetN, tNext, tCont, tBreak, tDrop, tAnd, tOr, tNot, tAndV, tOrV, tNotV, tB, tIf, tChain, tCall, rI0, rI, rAddW_int, rAddW_str, rMulW_int, rMulW_ref, rLtU_int, rLtU_str, rLeU_int, rLeU_str, rIxU_str, rIxU_ref, rLenU_str, rLenU_ref, rMinU_int, rMaxU_int, rIntU_int, rIntU_bl, rListU_str, rListU_ref, rPopU_ref, rAppendU_ref, rExtendU_ref, rClearU_ref, rEqU_int, rEqU_bl, rEqU_str, rEqU_ref, rNeU_int, rNeU_bl, rNeU_str, rNeU_ref, rIsU_ty, rSetU_ref, isL_ref, lstOf_lst, tupOf_tup, seqOf_lst, seqOf_tup, Option.isSome_some, tBML, tBML0, tCB, tCons, tNil, tLst, tTup, tRevS, tSl, tPart, tNoPart, rSlU_str, iAny, iRng1, iRng2, iEnumS, tDisp1, tDNotIn, tDIn, sDPut, tAug, ipI, tFor_eq, tComp, tCompIf, compSt, rDictT_ref, iDict, tUn, rU, tCallV, tTru, rTru_ref, rTru_bl, rTru_str, rPop0U_ref, rSumU_ref, rRev_ref, tListRev, rStrK_str, tFmt, tJnil, tJcons, tJoin, tBMS, isS_str, rInU_str, tExc0, tExcI, tExcInit, sExcSet, tExcFld, tFmtI, tFmtR, rIsX_ty, rIsX_ref, rCountU_ref, tLenSet, rLenSet_str, iZipS, rFindU_str, rIndexU_str, rMulS_str, rLtL, rAllU_ref, rAnyU_ref, Option.bind_some, Option.bind_none, Option.getD_some, L2.start, List.map_cons, List.map_nil, List.length_cons, List.length_nil, List.cons_append, List.nil_append, List.append_nil, List.cons.injEq, List.replicate, List.getElem?_cons_zero, List.getElem?_cons_succ, List.set_cons_zero, List.set_cons_succ, Nat.reduceSub, Nat.reduceAdd, Nat.reduceLeDiff, Option.some.injEq, V.int.injEq, V.bl.injEq, V.str.injEq, V.ref.injEq, HO.lst.injEq, HO.tup.injEq, exists_eq_left', exists_eq_left, exists_and_left, true_and, and_true, upd_same, upd_upd, atI_0, atI_1, atI_2, Bool.not_true, Bool.not_false, decide_eq_true_eq, Bool.false_eq_true, if_false, if_true, reduceIte, reduceCtorEq, $ls,*])
/-! ### the fields -/
theorem lk1 (f : Str) (v : V) : List.lookup f [(f, v)] = some v := by simp [List.lookup]
def fldD (n : Int) (z : Str) (ds : List Str) : PyData := .list [.int n, .int (n + 1), .int (n + 2), .int (n + 3), .int (n + 4), .tuple (ds.map PyData.str), .str z]
theorem int_len {i : Int} (h0 : 0 ≤ i) (h : i ≤ 2000000000) : (Str.ofString (toString i)).length ≤ 21 := by
  have b : (2000000001 : Nat) < 10 ^ 20 := by decide
  have hb : i.natAbs < 10 ^ 20 := by omega
  have e := int_text_length_le10 (a := i) (k := 20) (by decide) hb
  rw [PySem.ofString_length]
  omega
theorem int_sh {i : Int} (h0 : 0 ≤ i) (h : i ≤ 2000000000) : (PyData.int i).showable = true := by
  simp only [PyData.showable, decide_eq_true_eq]
  by_cases h1 : i.natAbs = 0
  · rw [h1]; decide
  · have b : (2000000001 : Nat) < 2 ^ 40 := by decide
    have hb : i.natAbs < 2 ^ 40 := by omega
    have := (Nat.log2_lt (k := 40) h1).mpr hb
    omega
theorem fld_fits {n : Int} {z : Str} {ds : List Str} (n0 : 0 ≤ n) (n1 : n ≤ 1000000100) (hz : Small z 20) (hl : ds.length ≤ 10) (hs : ∀ y ∈ ds, Small y 20) : (fldD n z ds).shown.length ≤ 10000 := by
  have t1 := tup_fits ds hl hs
  have t2 := hz.rep
  have i0 := int_len (i := n) (by omega) (by omega)
  have i1 := int_len (i := n + 1) (by omega) (by omega)
  have i2 := int_len (i := n + 2) (by omega) (by omega)
  have i3 := int_len (i := n + 3) (by omega) (by omega)
  have i4 := int_len (i := n + 4) (by omega) (by omega)
  have c1 : (Str.ofString ", ").length = 2 := by decide +kernel
  have c2 : (Str.ofString "[").length = 1 := by decide +kernel
  have c3 : (Str.ofString "]").length = 1 := by decide +kernel
  have c4 : (Str.ofString "").length = 0 := by decide +kernel
  have e : (fldD n z ds).shown = listText [Str.ofString (toString n), Str.ofString (toString (n + 1)), Str.ofString (toString (n + 2)), Str.ofString (toString (n + 3)), Str.ofString (toString (n + 4)), (PyData.tuple (ds.map PyData.str)).shown, reprText z] := by
    simp only [fldD, PyData.shown, PyData.shownAll]
  rw [e]
  generalize (PyData.tuple (ds.map PyData.str)).shown = T at t1
  simp only [listText, textFrom, apl, if_pos, if_neg, Nat.lt_irrefl, gt_iff_lt, Nat.zero_lt_succ, Nat.zero_lt_one, if_true, if_false, Nat.zero_add, Nat.reduceAdd]
  omega
theorem fld_sh {n : Int} {z : Str} {ds : List Str} (n0 : 0 ≤ n) (n1 : n ≤ 1000000100) : (fldD n z ds).showable = true ∧ (fldD n z ds).hasDict = false ∧ (fldD n z ds).depth ≤ 60 := by
  obtain ⟨s1, s2, s3⟩ := tup_sh ds
  obtain ⟨_, _, d3⟩ := strs_sh ds
  refine ⟨?_, ?_, ?_⟩
  · have a0 := int_sh (i := n) (by omega) (by omega)
    have a1 := int_sh (i := n + 1) (by omega) (by omega)
    have a2 := int_sh (i := n + 2) (by omega) (by omega)
    have a3 := int_sh (i := n + 3) (by omega) (by omega)
    have a4 := int_sh (i := n + 4) (by omega) (by omega)
    have a5 : (PyData.str z).showable = true := rfl
    simp only [fldD, PyData.showable.eq_def (.list _), PyData.showableAll, a0, a1, a2, a3, a4, a5, s1, Bool.and_true]
  · have a5 : (PyData.str z).hasDict = false := rfl
    have a6 : ∀ i : Int, (PyData.int i).hasDict = false := fun _ => rfl
    simp only [fldD, PyData.hasDict.eq_def (.list _), PyData.hasDictAll, a5, a6, s2, Bool.or_false]
  · simp [fldD, PyData.depth, PyData.depthAll]
    omega
theorem fld_rep {H : Hp} {p t : Addr} {n : Int} {z : Str} {ds : List Str} (h : H p = some (.lst [.int n, .int (n + 1), .int (n + 2), .int (n + 3), .int (n + 4), .ref t, .str z])) (ht : H t = some (.tup (ds.map V.str))) : Rep H (.ref p) (fldD n z ds) := by
  have r := rep_tup ht
  simp only [Rep] at r
  simp only [fldD, Rep, Reps]
  exact ⟨p, _, rfl, h, by simpa [Reps, Rep] using r⟩
def spFld (cl : Nat → Addr) : Sp := fun vs H Q _ => ∃ (m t t' : Addr) (n : Int) (z : Str) (ds : List Str), vs = [.ref m, .int n, .str z, .ref t'] ∧ AllAt cl H m n z t ∧ 0 ≤ n ∧ n ≤ 1000000000 ∧ Small z 20 ∧ H t = some (.tup (ds.map V.str)) ∧ H t' = some (.tup (ds.map V.str)) ∧ ds.length ≤ 10 ∧ (∀ y ∈ ds, Small y 20) ∧ ∀ H', Kp [] H H' → Q (.bl true) H'
structure TFl (K : PySem.W.Frag) (mg : Str → Option Value) (cl nn fi : Nat → Addr) (D : Addr) : Prop extends TAll K mg cl nn fi D where
  n_repr : mg "repr" = none
section
variable {P : Program} {w : World} {K : PySem.W.Frag} {mg : Str → Option Value} {base : Heap}
abbrev s__law_fields : Stmt := top 20
theorem sc__law_fields : FnScope ["_law_made", "_law_number", "_law_name", "_law_names", "_law_found"] ["_law_made", "_law_number", "_law_name", "_law_names"] (defScope s__law_fields) := ⟨rfl, rfl, rfl, by decide +kernel, rfl, by decide +kernel, by decide +kernel⟩
theorem ok__law_fields {f D : Addr} {fd : FuncData} {cl nn fi : Nat → Addr} (F : Fun K "_law_fields" "_law_fields" s__law_fields f fd) (T : TFl K mg cl nn fi D) : FnOk P w K mg base CX0 1 f fd ["_law_made", "_law_number", "_law_name", "_law_names"] (spFld cl) := by
  refine F.ok sc__law_fields (fun vs H Q E h => ?_) (fun cdv A outer s H vs Q E hr h => ?_)
  · obtain ⟨m, t, t', n, z, ds, rfl, _⟩ := h
    rfl
  · obtain ⟨m, t, t', n, z, ds, rfl, hm, n0, n1, sz, ht, ht', hl, hs, k⟩ := h
    have hu := hr.units
    have hgd := hr.gd
    have hsz : sizeLine = 16777216 := PySem.sizeLine_eq
    obtain ⟨es, e12, hm1, hes⟩ := hm
    have pick : ∀ (i : Nat) (p : Str × V), i < 12 → flds n z t i = some p → ∃ e d, atI (es.map V.ref) (i : Int) = some (.ref e) ∧ H e = some (ExO e (cl i) (some d)) ∧ H d = some (.xd [p]) := by
      intro i p hi hp
      have he : es[i]? = some (es[i]'(by omega)) := by simp
      have h1 := hes i _ he
      rw [hp] at h1
      obtain ⟨d, h2, h3⟩ := h1
      exact ⟨_, d, atI_of (by omega) (by rw [Int.toNat_natCast, List.getElem?_map, he]; rfl), h2, h3⟩
    obtain ⟨a1, b1, p1, q1, r1⟩ := pick 1 _ (by decide) rfl
    obtain ⟨a2, b2, p2, q2, r2⟩ := pick 2 _ (by decide) rfl
    obtain ⟨a3, b3, p3, q3, r3⟩ := pick 3 _ (by decide) rfl
    obtain ⟨a5, b5, p5, q5, r5⟩ := pick 5 _ (by decide) rfl
    obtain ⟨a6, b6, p6, q6, r6⟩ := pick 6 _ (by decide) rfl
    obtain ⟨a8, b8, p8, q8, r8⟩ := pick 8 _ (by decide) rfl
    obtain ⟨a10, b10, p10, q10, r10⟩ := pick 10 _ (by decide) rfl
    refine ⟨_, (QSs.h (qpss_cons (qps_set (i := 4) sc__law_fields.nd rfl (by first | exact Or.inl rfl | exact Or.inr rfl) (qpe_lst (qpa_cons (qpe_excFld rfl (qpe_ix ix_U (qpv 0) qpe_int (fun _ _ => rfl)) rfl) (qpa_cons (qpe_excFld rfl (qpe_ix ix_U (qpv 0) qpe_int (fun _ _ => rfl)) rfl) (qpa_cons (qpe_excFld rfl (qpe_ix ix_U (qpv 0) qpe_int (fun _ _ => rfl)) rfl) (qpa_cons (qpe_excFld rfl (qpe_ix ix_U (qpv 0) qpe_int (fun _ _ => rfl)) rfl) (qpa_cons (qpe_excFld rfl (qpe_ix ix_U (qpv 0) qpe_int (fun _ _ => rfl)) rfl) (qpa_cons (qpe_excFld rfl (qpe_ix ix_U (qpv 0) qpe_int (fun _ _ => rfl)) rfl) (qpa_cons (qpe_excFld rfl (qpe_ix ix_U (qpv 0) qpe_int (fun _ _ => rfl)) rfl) qpa_nil)))))))))
    (qpss_one (qps_ret (qpe_cmpR (op_eqU hu) (qpe_callB (call_reprU hgd hu) (by rfl) T.n_repr bt_repr (qpa_cons (qpv 4) qpa_nil)) (qpe_callB (call_reprU hgd hu) (by rfl) T.n_repr bt_repr (qpa_cons (qpe_lst (qpa_cons (qpv 1) (qpa_cons (qpe_op op_addW (qpv 1) qpe_int) (qpa_cons (qpe_op op_addW (qpv 1) qpe_int) (qpa_cons (qpe_op op_addW (qpv 1) qpe_int) (qpa_cons (qpe_op op_addW (qpv 1) qpe_int) (qpa_cons (qpv 3) (qpa_cons (qpv 2) qpa_nil)))))))) qpa_nil)) (nomark _)))))), ?_⟩
    simp! [hm1]
    refine ⟨_, p1, a1, rfl, cl 1, D, nn 1, b1, q1, _, r1, T.c_BadRoom, T.q_BadRoom, _, lk1 _ _, _, p2, a2, rfl, cl 2, D, nn 2, b2, q2, _, r2, T.c_NoLetter, T.q_NoLetter, _, lk1 _ _, _, p3, a3, rfl, cl 3, D, nn 3, b3, q3, _, r3, T.c_BadText, T.q_BadText, _, lk1 _ _, _, p5, a5, rfl, cl 5, D, nn 5, b5, q5, _, r5, T.c_TooMany, T.q_TooMany, _, lk1 _ _, _, p6, a6, rfl, cl 6, D, nn 6, b6, q6, _, r6, T.c_BadRow, T.q_BadRow, _, lk1 _ _, _, p8, a8, rfl, cl 8, D, nn 8, b8, q8, _, r8, T.c_NotClosed, T.q_NotClosed, _, lk1 _ _, _, p10, a10, rfl, cl 10, D, nn 10, b10, q10, _, r10, T.c_NoName, T.q_NoName, _, lk1 _ _, ?_⟩
    refine ⟨by omega, fun p hp => ?_⟩
    have kp1 := (Kp.refl [] H).new (o := .lst [V.int n, V.int (n + 1), V.int (n + 2), V.int (n + 3), V.int (n + 4), V.ref t, V.str z]) hp
    obtain ⟨s1, s2, s3⟩ := fld_sh (z := z) (ds := ds) n0 (by omega)
    have ft := fld_fits n0 (by omega) sz hl hs
    refine ⟨fldD n z ds, fld_rep upd_same (kp1.tup _ _ ht), s1, s2, s3, by omega, by omega, fun p2 hp2 => ?_⟩
    have kp2 := kp1.new (o := .lst [V.int n, V.int (n + 1), V.int (n + 2), V.int (n + 3), V.int (n + 4), V.ref t', V.str z]) hp2
    refine ⟨fldD n z ds, fld_rep upd_same (kp2.tup _ _ ht'), s1, s2, s3, by omega, ?_⟩
    simp only [rEqU_str, decide_true]
    exact k _ kp2
end
end My


/-! part H99f -/
set_option Elab.async false
set_option linter.all false
set_option maxRecDepth 100000
set_option maxHeartbeats 4000000
namespace My
open PySem L2
local macro_rules
  | `(tactic| simp!) => `(tactic| simp only [tSeq, tIfS, tCut, tTest, tOp, tVar, tC, tAsg, gName, gSub, tRet, tRetN, tNext, tCont, tBreak, tDrop, tAnd, tOr, tNot, tAndV, tOrV, tNotV, tB, tIf, tChain, tCall, rI0, rI, rAddW_int, rAddW_str, rMulW_int, rMulW_ref, rLtU_int, rLtU_str, rLeU_int, rLeU_str, rIxU_str, rIxU_ref, rLenU_str, rLenU_ref, rMinU_int, rMaxU_int, rIntU_int, rIntU_bl, rListU_str, rListU_ref, rPopU_ref, rAppendU_ref, rExtendU_ref, rClearU_ref, rEqU_int, rEqU_bl, rEqU_str, rEqU_ref, rNeU_int, rNeU_bl, rNeU_str, rNeU_ref, rIsU_ty, rSetU_ref, isL_ref, lstOf_lst, tupOf_tup, seqOf_lst, seqOf_tup, Option.isSome_some, tBML, tBML0, tCB, tCons, tNil, tLst, tTup, tRevS, tSl, tPart, tNoPart, rSlU_str, iAny, iRng1, iRng2, iEnumS, tDisp1, tDNotIn, tDIn, sDPut, tAug, ipI, tFor_eq, tComp, tCompIf, compSt, rDictT_ref, iDict, tUn, rU, tCallV, tTru, rTru_ref, rTru_bl, rTru_str, rPop0U_ref, rSumU_ref, rRev_ref, tListRev, rStrK_str, tFmt, tJnil, tJcons, tJoin, tBMS, isS_str, rInU_str, tExc0, tExcI, tExcInit, sExcSet, tExcFld, tFmtI, tFmtR, rIsX_ty, rIsX_ref, rCountU_ref, tLenSet, rLenSet_str, iZipS, rFindU_str, rIndexU_str, rMulS_str, rLtL, rAllU_ref, rAnyU_ref, Option.bind_some, Option.bind_none, Option.getD_some, L2.start, List.map_cons, List.map_nil, List.length_cons, List.length_nil, List.cons_append, List.nil_append, List.append_nil, List.cons.injEq, List.replicate, List.getElem?_cons_zero, List.getElem?_cons_succ, List.set_cons_zero, List.set_cons_succ, Nat.reduceSub, Nat.reduceAdd, Nat.reduceLeDiff, Option.some.injEq, V.int.injEq, V.bl.injEq, V.str.injEq, V.ref.injEq, HO.lst.injEq, HO.tup.injEq, exists_eq_left', exists_eq_left, exists_and_left, true_and, and_true, upd_same, upd_upd, atI_0, atI_1, atI_2, Bool.not_true, Bool.not_false, decide_eq_true_eq, Bool.false_eq_true, if_false, if_true, reduceIte, reduceCtorEq])
  | `(tactic| simp! [$ls,*]) => `(tactic| simp only [tSeq, tIfS, tCut, tTest, tOp, tVar, tC, tAsg, gName, gSub, tRet, tRetN, tNext, tCont, tBreak, tDrop, tAnd, tOr, tNot, tAndV, tOrV, tNotV, tB, tIf, tChain, tCall, rI0, rI, rAddW_int, rAddW_str, rMulW_int, rMulW_ref, rLtU_int, rLtU_str, rLeU_int, rLeU_str, rIxU_str, rIxU_ref, rLenU_str, rLenU_ref, rMinU_int, rMaxU_int, rIntU_int, rIntU_bl, rListU_str, rListU_ref, rPopU_ref, rAppendU_ref, rExtendU_ref, rClearU_ref, rEqU_int, rEqU_bl, rEqU_str, rEqU_ref, rNeU_int, rNeU_bl, rNeU_str, rNeU_ref, rIsU_ty, rSetU_ref, isL_ref, lstOf_lst, tupOf_tup, seqOf_lst, seqOf_tup, Option.isSome_some, tBML, tBML0, tCB, tCons, tNil, tLst, tTup, tRevS, tSl, tPart, tNoPart, rSlU_str, iAny, iRng1, iRng2, iEnumS, tDisp1, tDNotIn, tDIn, sDPut, tAug, ipI, tFor_eq, tComp, tCompIf, compSt, rDictT_ref, iDict, tUn, rU, tCallV, tTru, rTru_ref, rTru_bl, rTru_str, rPop0U_ref, rSumU_ref, rRev_ref, tListRev, rStrK_str, tFmt, tJnil, tJcons, tJoin, tBMS, isS_str, rInU_str, tExc0, tExcI, tExcInit, sExcSet, tExcFld, tFmtI, tFmtR, rIsX_ty, rIsX_ref, rCountU_ref, tLenSet, rLenSet_str, iZipS, rFindU_str, rIndexU_str, rMulS_str, rLtL, rAllU_ref, rAnyU_ref, Option.bind_some, Option.bind_none, Option.getD_some, L2.start, List.map_cons, List.map_nil, List.length_cons, List.length_nil, List.cons_append, List.nil_append, List.append_nil, List.cons.injEq, List.replicate, List.getElem?_cons_zero, List.getElem?_cons_succ, List.set_cons_zero, List.set_cons_succ, Nat.reduceSub, Nat.reduceAdd, Nat.reduceLeDiff, Option.some.injEq, V.int.injEq, V.bl.injEq, V.str.injEq, V.ref.injEq, HO.lst.injEq, HO.tup.injEq, exists_eq_left', exists_eq_left, exists_and_left, true_and, and_true, upd_same, upd_upd, atI_0, atI_1, atI_2, Bool.not_true, Bool.not_false, decide_eq_true_eq, Bool.false_eq_true, if_false, if_true, reduceIte, reduceCtorEq, $ls,*])
/-! ### texts of letters, drawn -/
def spText : Sp := fun vs H Q _ => ∃ (b : Addr) (z : Str) (m : Nat) (o : HO), vs = [.ref b, .str z, .int (m : Int)] ∧ H b = some o ∧ BoxO o ∧ 1 ≤ z.length ∧ z.length ≤ 1000 ∧ m ≤ 1000 ∧
  ∀ u o' H', u.length ≤ m → (∀ c ∈ sg u, c ∈ sg z) → BoxO o' → H' b = some o' → Kp [b] H H' → Q (.str u) H'
theorem ones_in {z : Str} : ∀ {xs : List V}, (∀ x ∈ xs, ∃ c : Nat, x = .str ⟨#[c]⟩ ∧ c ∈ sg z) → ∃ ys : List Str, xs = ys.map V.str ∧ (∀ y ∈ ys, y.length = 1) ∧ (∀ c ∈ (ys.map sg).flatten, c ∈ sg z)
  | [], _ => ⟨[], rfl, (fun _ h => nomatch h), by simp⟩
  | x :: xs, h => by
    obtain ⟨c, rfl, hc⟩ := h x (.head _)
    obtain ⟨ys, rfl, h1, h2⟩ := ones_in fun y hy => h y (.tail _ hy)
    refine ⟨⟨#[c]⟩ :: ys, rfl, fun y hy => ?_, fun d hd => ?_⟩
    · rcases List.mem_cons.mp hy with rfl | hy
      · rfl
      · exact h1 y hy
    · rw [List.map_cons, List.flatten_cons, List.mem_append] at hd
      rcases hd with hd | hd
      · have : d = c := by simpa [sg] using hd
        rw [this]; exact hc
      · exact h2 d hd
structure TTx (mg : Str → Option Value) (ft : Addr) : Prop where
  n_len : mg "len" = none
  n_range : mg "range" = none
  m__law_take : mg "_law_take" = some (.ref ft)
theorem BoxO.lst7 {o : HO} (h : BoxO o) : ∃ xs, o = .lst xs := by obtain ⟨c, s, e, _⟩ := h; exact ⟨_, e⟩
section
variable {P : Program} {w : World} {K : PySem.W.Frag} {mg : Str → Option Value} {base : Heap}
abbrev s__law_text : Stmt := top 17
theorem sc__law_text : FnScope ["_law_box_here", "_law_letters", "_law_most"] ["_law_box_here", "_law_letters", "_law_most"] (defScope s__law_text) := ⟨rfl, rfl, rfl, by decide +kernel, rfl, by decide +kernel, by decide +kernel⟩
theorem ok__law_text {f ft : Addr} {fd fdt : FuncData} (F : Fun K "_law_text" "_law_text" s__law_text f fd) (T : TTx mg ft) (F__law_take : Fun K "_law_take" "_law_take" s__law_take ft fdt) (b__law_take : Binds K fdt ["_law_box_here", "_law_wide"] [])
    (G__law_take : FnOk P w K mg base CX0 1 ft fdt ["_law_box_here", "_law_wide"] spTake) : FnOk P w K mg base CX0 2 f fd ["_law_box_here", "_law_letters", "_law_most"] spText := by
  refine F.ok sc__law_text (fun vs H Q E h => ?_) (fun cdv A outer s H vs Q E hr h => ?_)
  · obtain ⟨b, z, m, o, rfl, _⟩ := h
    rfl
  · obtain ⟨b, z, m, o, rfl, hb, ho, z1, z2, hm, k⟩ := h
    have hu := hr.units
    refine ⟨_, (QSs.h (qpss_one (qps_ret (qpe_bmS PySem.F.slot_str_join PySem.F.type_str_join mt_joinU qpe_str (qpa_cons (qpe_comp rfl (compOk_of (sc := defScope s__law_text) (N := ["_law_box_here", "_law_letters", "_law_most"]) (Nc := ["_law_k", "_law_letters", "_law_box_here"]) (js := [none, some 1, some 0]) (by decide +kernel)) (qpi_range1 rfl T.n_range (qpa_cons (qpe_call G__law_take (hr.mono (by decide)) rfl T.m__law_take F__law_take.kp b__law_take .nil pass0 (qpa_cons (qpv 0) (qpa_cons (qpe_op op_addW (qpv 2) qpe_int) qpa_nil))) qpa_nil)) (fun _ _ _ _ => (qpg_name (i := 0) (show List.Nodup [("_law_k" : Str), ("_law_letters" : Str), ("_law_box_here" : Str)] from by decide +kernel) rfl (by first | exact Or.inl rfl | exact Or.inr rfl))) (fun _ _ _ _ => (qpe_ix ix_U (qpv 1) (qpe_call G__law_take (hr.mono (by decide)) rfl T.m__law_take F__law_take.kp b__law_take .nil pass0 (qpa_cons (qpv 2) (qpa_cons (qpe_callB call_lenU (by rfl) T.n_len bt_len (qpa_cons (qpv 1) qpa_nil)) qpa_nil))) (fun _ _ => rfl)))) qpa_nil) mono_c)))), ?_⟩
    have hsz : sizeLine = 16777216 := PySem.sizeLine_eq
    have hzl : z.cps.toList.length = z.length := by simp [Str.length]
    simp!
    refine ⟨b, _, o, rfl, hb, ho, by omega, by omega, fun d o1 d0 d1 ho1 => ?_⟩
    obtain ⟨n, rfl⟩ : ∃ n : Nat, d = (n : Int) := ⟨d.toNat, by omega⟩
    obtain ⟨xs0, rfl⟩ := ho.lst7
    refine ⟨_, rfl, by omega, by omega, fun D hD => ?_⟩
    rw [Int.toNat_natCast]
    refine comp_box (fun x => ∃ c : Nat, x = .str ⟨#[c]⟩ ∧ c ∈ sg z) upd_same ho1 hD (by omega) (fun x H' o' Q' hb' ho' hq => ?_) fun v xs o' hl hP ho' => ?_
    · simp!
      refine ⟨by omega, b, z.length, _, rfl, hb', ho', by omega, by omega, fun e o5 e0 e1 ho5 => ?_⟩
      simp!
      exact ⟨by omega, z.cps.toList[e.toNat]'(by omega), atI_of e0 (by simp), hq _ _ ⟨_, rfl, List.getElem_mem _⟩ ho5⟩
    · obtain ⟨ys, rfl, hy2, hy3⟩ := ones_in hP
      rw [List.length_map] at hl
      have ns : (ys.map (·.length)).sum = ys.length := by
        clear hl hP hy3
        induction ys with
        | nil => rfl
        | cons y ys ih => simp [hy2 y (.head _), ih fun z hz => hy2 z (.tail _ hz)]; omega
      refine ⟨ys, upd_same, by rw [ns]; show ys.length + ys.length * 0 ≤ _; omega, ?_⟩
      have lj := PySem.W.KT.join_ones ys hy2
      have nbD : b ≠ D := ne_of_none upd_same hD
      obtain ⟨xs1, rfl⟩ := id ho1.lst7
      refine k _ o' _ (by rw [lj]; omega) (fun c hc => ?_) ho' (by rw [upd_ne nbD, upd_same]) ((((Kp.refl [b] H).set hb (.inl (by simp))).set upd_same (.inl (by simp))).new (by rw [upd_ne nbD.symm]; exact hD))
      rw [joinT] at hc
      exact hy3 c hc
end
/-! ### drawn -/
theorem comp_boxK {lo : Int} {n : Nat} {D b : Addr} {te : TE} {E : Ends} {r : L2.St} {H : Hp} {o0 : HO} (P : V → Prop) (hb : H b = some o0) (ho0 : BoxO o0) (hD : H D = none) (hz : n ≤ sizeLine)
    (he : ∀ x H' o Q, H' b = some o → BoxO o → (∀ v o' H'', P v → BoxO o' → H'' b = some o' → Kp [b] H' H'' → Q v H'') → te (some x :: r) H' Q)
    (hn : ∀ v xs H' o', xs.length = n → (∀ x ∈ xs, P x) → BoxO o' → H' b = some o' → H' D = some (.lst xs) → Kp [b] H H' → E.nx (v :: r) H') : LoopR (Itr lo n) (gName 0) (tEmit D te) E (none :: r) (upd H D (.lst [])) := by
  have nbD : b ≠ D := ne_of_none hb hD
  refine loop_range (fun i σ H' => ∃ (v : Option V) (xs : List V) (o' : HO), σ = v :: r ∧ xs.length = i ∧ (∀ x ∈ xs, P x) ∧ BoxO o' ∧ H' b = some o' ∧ H' D = some (.lst xs) ∧ Kp [b] H H') ?_ ?_ ?_
  · exact ⟨none, [], o0, rfl, rfl, (fun x h => nomatch h), ho0, by rw [upd_ne nbD]; exact hb, upd_same, (Kp.refl [b] H).new hD⟩
  · rintro i σ H' hi ⟨v, xs, o', rfl, hl, hP, ho', hb', hD', kp⟩
    refine he _ _ o' _ hb' ho' fun y o2 H2 hy ho2 hb2 k2 => ?_
    have hD2 : H2 D = some (.lst xs) := k2.old _ _ hD' (by simpa using nbD.symm)
    refine ⟨xs, by rw [hD2]; rfl, by omega, _, xs ++ [y], o2, rfl, by simp [hl], fun x hx => ?_, ho2, by rw [upd_ne nbD]; exact hb2, upd_same, (kp.trans k2).set hD2 (.inr hD)⟩
    rcases List.mem_append.mp hx with h | h
    · exact hP x h
    · simp at h; subst h; exact hy
  · rintro σ H' ⟨v, xs, o', rfl, hl, hP, ho', hb', hD', kp⟩
    exact hn v xs H' o' hl hP ho' hb' hD' kp
theorem strs_of {n : Nat} : ∀ {xs : List V}, (∀ x ∈ xs, ∃ u : Str, x = .str u ∧ Small u n) → ∃ ys : List Str, xs = ys.map V.str ∧ ∀ y ∈ ys, Small y n
  | [], _ => ⟨[], rfl, fun _ h => nomatch h⟩
  | x :: xs, h => by
    obtain ⟨u, rfl, hu⟩ := h x (.head _)
    obtain ⟨ys, rfl, hy⟩ := strs_of fun y hy => h y (.tail _ hy)
    refine ⟨u :: ys, rfl, fun y hy' => ?_⟩
    rcases List.mem_cons.mp hy' with rfl | h
    · exact hu
    · exact hy y h
def DrAt (H : Hp) (t : Addr) (n : Int) (z : Str) (tn : Addr) (ds : List Str) : Prop := H t = some (.tup [.int n, .str z, .ref tn]) ∧ H tn = some (.tup (ds.map V.str)) ∧ 0 ≤ n ∧ n ≤ 1000000 ∧ Small z 8 ∧ ds.length ≤ 4 ∧ ∀ y ∈ ds, Small y 8
def spDr : Sp := fun vs H Q _ => ∃ (b : Addr) (o : HO), vs = [.ref b] ∧ H b = some o ∧ BoxO o ∧ ∀ t n z tn ds H', DrAt H' t n z tn ds → Kp [b] H H' → Q (.ref t) H'
structure TDr (mg : Str → Option Value) (ft fx : Addr) : Prop where
  n_tuple : mg "tuple" = none
  n_range : mg "range" = none
  m__law_take : mg "_law_take" = some (.ref ft)
  m__law_text : mg "_law_text" = some (.ref fx)
theorem abc26 : (Str.ofString "abcdefghijklmnopqrstuvwxyz").length = 26 := by decide +kernel
theorem abcS : ∀ c ∈ sg (Str.ofString "abcdefghijklmnopqrstuvwxyz"), c < 16 ^ 8 := by decide +kernel
section
variable {P : Program} {w : World} {K : PySem.W.Frag} {mg : Str → Option Value} {base : Heap}
abbrev s__law_drawn : Stmt := top 22
theorem sc__law_drawn : FnScope ["_law_box_here", "_law_number", "_law_letters", "_law_name"] ["_law_box_here"] (defScope s__law_drawn) := ⟨rfl, rfl, rfl, by decide +kernel, rfl, by decide +kernel, by decide +kernel⟩
theorem ok__law_drawn {f ft fx : Addr} {fd fdt fdx : FuncData} (F : Fun K "_law_drawn" "_law_drawn" s__law_drawn f fd) (T : TDr mg ft fx) (F__law_take : Fun K "_law_take" "_law_take" s__law_take ft fdt) (b__law_take : Binds K fdt ["_law_box_here", "_law_wide"] [])
    (G__law_take : FnOk P w K mg base CX0 1 ft fdt ["_law_box_here", "_law_wide"] spTake) (F__law_text : Fun K "_law_text" "_law_text" s__law_text fx fdx) (b__law_text : Binds K fdx ["_law_box_here", "_law_letters", "_law_most"] []) (G__law_text : FnOk P w K mg base CX0 2 fx fdx ["_law_box_here", "_law_letters", "_law_most"] spText) : FnOk P w K mg base CX0 3 f fd ["_law_box_here"] spDr := by
  refine F.ok sc__law_drawn (fun vs H Q E h => ?_) (fun cdv A outer s H vs Q E hr h => ?_)
  · obtain ⟨b, o, rfl, _⟩ := h
    rfl
  · obtain ⟨b, o, rfl, hb, ho, k⟩ := h
    have hu := hr.units
    have hsz : sizeLine = 16777216 := PySem.sizeLine_eq
    have l26 := abc26
    refine ⟨_, (QSs.h (qpss_cons (qps_set (i := 1) sc__law_drawn.nd rfl (by first | exact Or.inl rfl | exact Or.inr rfl) (qpe_ix ix_U (qpe_lst (qpa_cons (qpe_call G__law_take (hr.mono (by decide)) rfl T.m__law_take F__law_take.kp b__law_take .nil pass0 (qpa_cons (qpv 0) (qpa_cons qpe_int qpa_nil))) (qpa_cons (qpe_call G__law_take (hr.mono (by decide)) rfl T.m__law_take F__law_take.kp b__law_take .nil pass0 (qpa_cons (qpv 0) (qpa_cons (qpe_op op_pow qpe_int qpe_int) qpa_nil))) qpa_nil))) (qpe_call G__law_take (hr.mono (by decide)) rfl T.m__law_take F__law_take.kp b__law_take .nil pass0 (qpa_cons (qpv 0) (qpa_cons qpe_int qpa_nil))) (fun _ _ => rfl)))
    (qpss_cons (qps_set (i := 2) sc__law_drawn.nd rfl (by first | exact Or.inl rfl | exact Or.inr rfl) qpe_str)
    (qpss_cons (qps_set (i := 3) sc__law_drawn.nd rfl (by first | exact Or.inl rfl | exact Or.inr rfl) (qpe_call G__law_text (hr.mono (by decide)) rfl T.m__law_text F__law_text.kp b__law_text .nil pass0 (qpa_cons (qpv 0) (qpa_cons (qpv 2) (qpa_cons qpe_int qpa_nil)))))
    (qpss_one (qps_ret (qpe_tup (qpa_cons (qpv 1) (qpa_cons (qpv 3) (qpa_cons (qpe_callTy call_tupleU (by rfl) T.n_tuple bt_tuple (qpa_cons (qpe_comp rfl (compOk_of (sc := defScope s__law_drawn) (N := ["_law_box_here", "_law_number", "_law_letters", "_law_name"]) (Nc := ["_law_k", "_law_box_here", "_law_letters"]) (js := [none, some 0, some 2]) (by decide +kernel)) (qpi_range1 rfl T.n_range (qpa_cons (qpe_call G__law_take (hr.mono (by decide)) rfl T.m__law_take F__law_take.kp b__law_take .nil pass0 (qpa_cons (qpv 0) (qpa_cons qpe_int qpa_nil))) qpa_nil)) (fun _ _ _ _ => (qpg_name (i := 0) (show List.Nodup [("_law_k" : Str), ("_law_box_here" : Str), ("_law_letters" : Str)] from by decide +kernel) rfl (by first | exact Or.inl rfl | exact Or.inr rfl))) (fun _ _ _ _ => (qpe_call G__law_text (hr.mono (by decide)) rfl T.m__law_text F__law_text.kp b__law_text .nil pass0 (qpa_cons (qpv 1) (qpa_cons (qpv 2) (qpa_cons qpe_int qpa_nil)))))) qpa_nil)) qpa_nil)))))))))), ?_⟩
    simp!
    refine ⟨b, _, o, rfl, hb, ho, by omega, by omega, fun d o1 d0 d1 ho1 => ?_⟩
    simp!
    obtain ⟨xs0, rfl⟩ := id ho.lst7
    obtain ⟨xs1, rfl⟩ := id ho1.lst7
    have e6 : (10 : Int) ^ Int.toNat 6 = 1000000 := by decide
    refine ⟨⟨by decide, by decide, by decide⟩, b, _, _, rfl, upd_same, ho1, by omega, by omega, fun d2 o2 d20 d21 ho2 => ?_⟩
    rw [e6] at d21
    simp!
    refine ⟨by omega, fun p hp => ?_⟩
    have nbp : b ≠ p := ne_of_none upd_same hp
    refine ⟨b, _, o2, rfl, by rw [upd_ne nbp, upd_same], ho2, by omega, by omega, fun d3 o3 d30 d31 ho3 => ?_⟩
    obtain ⟨xs2, rfl⟩ := id ho2.lst7
    obtain ⟨xs3, rfl⟩ := id ho3.lst7
    have hp3 : ∀ v w : HO, upd (upd (upd H b v) p w) b (.lst xs3) p = some w := fun v w => by rw [upd_ne nbp.symm, upd_same]
    simp! [hp3]
    obtain ⟨n, hn, n0, n1⟩ : ∃ n : Int, atI [V.int d, V.int d2] d3 = some (.int n) ∧ 0 ≤ n ∧ n ≤ 1000000 := by
      have : d3 = 0 ∨ d3 = 1 := by omega
      rcases this with rfl | rfl
      · exact ⟨d, atI_of (by decide) rfl, by omega, by omega⟩
      · exact ⟨d2, atI_of (by decide) rfl, by omega, by omega⟩
    have k3 : Kp [b] H (upd (upd (upd H b (.lst xs2)) p (.lst [V.int d, V.int d2])) b (.lst xs3)) := ((((Kp.refl [b] H).set hb (.inl (by simp))).new hp).set (by rw [upd_ne nbp, upd_same]) (.inl (by simp)))
    refine ⟨_, hn, b, _, 8, _, rfl, upd_same, ho3, by omega, by omega, by omega, fun u o4 H4 hu4 su4 ho4 hb4 k4 => ?_⟩
    obtain ⟨xs4, rfl⟩ := id ho4.lst7
    refine ⟨b, _, _, rfl, hb4, ho4, by omega, by omega, fun d5 o5 d50 d51 ho5 => ?_⟩
    obtain ⟨xs5, rfl⟩ := id ho5.lst7
    obtain ⟨j, rfl⟩ : ∃ j : Nat, d5 = (j : Int) := ⟨d5.toNat, by omega⟩
    have k5 : Kp [b] H (upd H4 b (.lst xs5)) := (k3.trans k4).set hb4 (.inl (by simp))
    refine ⟨_, rfl, by omega, by omega, fun D hD => ?_⟩
    rw [Int.toNat_natCast]
    refine comp_boxK (fun x => ∃ u : Str, x = .str u ∧ Small u 8) upd_same ho5 hD (by omega) (fun x H' o' Q' hb' ho' hq => ?_) fun v xs H' o' hl hP ho' hb' hD' kp' => ?_
    · simp!
      exact ⟨b, _, 3, _, rfl, hb', ho', by omega, by omega, by omega, fun u o6 H6 hu6 su6 ho6 hb6 k6 => hq _ _ _ ⟨u, rfl, by omega, fun c hc => abcS c (su6 c hc)⟩ ho6 hb6 k6⟩
    · obtain ⟨ys, rfl, hys⟩ := strs_of hP
      rw [List.length_map] at hl
      dsimp only
      refine rTupleU_lst hD' fun l hl' => ?_
      refine ⟨by omega, fun q hq => ?_⟩
      have kl := ((k5.trans kp').new (o := .tup (ys.map V.str)) hl').new (o := .tup [.int n, .str u, .ref l]) hq
      exact k q n u l ys _ ⟨upd_same, by rw [upd_ne (ne_of_none upd_same hq)]; exact upd_same, n0, n1, ⟨by omega, fun c hc => abcS c (su4 c hc)⟩, by omega, hys⟩ kl
end
/-! ### the law -/
theorem Small.mono {z : Str} {n m : Nat} (h : Small z n) (hm : n ≤ m) : Small z m := ⟨Nat.le_trans h.1 hm, h.2⟩
theorem small_q {z : Str} (h : Small z 8) : Small (z ++ Str.ofString "q") 20 := by
  have l1 : (Str.ofString "q").length = 1 := by decide +kernel
  refine ⟨by rw [apl]; have := h.1; omega, fun c hc => ?_⟩
  have e : (z ++ Str.ofString "q").cps.toList = z.cps.toList ++ (Str.ofString "q").cps.toList := by
    show (z.cps ++ (Str.ofString "q").cps).toList = _
    simp
  rw [e, List.mem_append] at hc
  rcases hc with h' | h'
  · exact h.2 c h'
  · have : ∀ c ∈ (Str.ofString "q").cps.toList, c < 16 ^ 8 := by decide +kernel
    exact this c h'
theorem addT_q {H : Hp} {tn q : Addr} {ds : List Str} {qs : Str} {Q : VK} (h1 : H tn = some (.tup (ds.map V.str))) (h2 : H q = some (.tup [V.str qs])) (hl : ds.length ≤ 10) (k : ∀ r H', Kp [] H H' → H' r = some (.tup ((ds ++ [qs]).map V.str)) → Q (.ref r) H') : rAddT (.ref tn) (.ref q) H Q := by
  have hsz : sizeLine = 16777216 := PySem.sizeLine_eq
  refine ⟨tn, q, _, _, rfl, rfl, h1, h2, by simp, by simp; omega, fun e => ?_, fun _ p hp => ?_⟩
  · refine k q H (Kp.refl _ _) ?_
    have : ds = [] := by simpa using e
    subst this
    exact h2
  · refine k p _ ((Kp.refl [] H).new hp) ?_
    rw [upd_same]
    simp
structure TLaw (mg : Str → Option Value) (fb fr fa fg fl : Addr) : Prop where
  n_len : mg "len" = none
  n_range : mg "range" = none
  m__law_box : mg "_law_box" = some (.ref fb)
  m__law_drawn : mg "_law_drawn" = some (.ref fr)
  m__law_all_made : mg "_law_all_made" = some (.ref fa)
  m__law_right : mg "_law_right" = some (.ref fg)
  m__law_fields : mg "_law_fields" = some (.ref fl)
section
variable {P : Program} {w : World} {K : PySem.W.Frag} {mg : Str → Option Value} {base : Heap}
abbrev s_law : Stmt := top 23
theorem sc_law : FnScope ["_law_script", "_law_k", "_law_box_here", "_law_number", "_law_name", "_law_names", "_law_made", "_law_other"] ["_law_script"] (defScope s_law) := ⟨rfl, rfl, rfl, by decide +kernel, rfl, by decide +kernel, by decide +kernel⟩
theorem ok_law {f fb fr fa fg fl : Addr} {fd fdb fdr fda fdg fdl : FuncData} {cl : Nat → Addr} (F : Fun K "law" "law" s_law f fd) (T : TLaw mg fb fr fa fg fl)
    (F__law_box : Fun K "_law_box" "_law_box" s__law_box fb fdb) (b__law_box : Binds K fdb ["_law_script", "_law_k"] []) (G__law_box : FnOk P w K mg base CX0 1 fb fdb ["_law_script", "_law_k"] (spBox K))
    (F__law_drawn : Fun K "_law_drawn" "_law_drawn" s__law_drawn fr fdr) (b__law_drawn : Binds K fdr ["_law_box_here"] []) (G__law_drawn : FnOk P w K mg base CX0 3 fr fdr ["_law_box_here"] spDr)
    (F__law_all_made : Fun K "_law_all_made" "_law_all_made" s__law_all_made fa fda) (b__law_all_made : Binds K fda ["_law_number", "_law_name", "_law_names"] []) (G__law_all_made : FnOk P w K mg base CX0 3 fa fda ["_law_number", "_law_name", "_law_names"] (spAll cl))
    (F__law_right : Fun K "_law_right" "_law_right" s__law_right fg fdg) (b__law_right : Binds K fdg ["_law_made"] []) (G__law_right : FnOk P w K mg base CX0 2 fg fdg ["_law_made"] (spRight cl))
    (F__law_fields : Fun K "_law_fields" "_law_fields" s__law_fields fl fdl) (b__law_fields : Binds K fdl ["_law_made", "_law_number", "_law_name", "_law_names"] []) (G__law_fields : FnOk P w K mg base CX0 1 fl fdl ["_law_made", "_law_number", "_law_name", "_law_names"] (spFld cl)) : FnOk P w K mg base CX0 4 f fd ["_law_script"] (spLaw K) := by
  refine F.ok sc_law (fun vs H Q E h => ?_) (fun cdv A outer s H vs Q E hr h => ?_)
  · obtain ⟨a, ns, rfl, _⟩ := h
    rfl
  · obtain ⟨a, ns, rfl, hS, hn, k⟩ := h
    have hu := hr.units
    have hsz : sizeLine = 16777216 := PySem.sizeLine_eq
    refine ⟨_, (QSs.h (qpss_cons (qps_for PassesOwn.never rfl (qpi_range1 rfl T.n_range (qpa_cons (qpe_op op_addW qpe_int (qpe_callB call_lenU (by rfl) T.n_len bt_len (qpa_cons (qpe_slice (sl_UK (K := K) rfl) (qpv 0) qpo_none (qpo_some qpe_int)) qpa_nil))) qpa_nil)) (qpg_name (i := 1) sc_law.nd rfl (by first | exact Or.inl rfl | exact Or.inr rfl)) (qpss_cons (qps_set (i := 2) sc_law.nd rfl (by first | exact Or.inl rfl | exact Or.inr rfl) (qpe_call G__law_box (hr.mono (by decide)) rfl T.m__law_box F__law_box.kp b__law_box .nil pass0 (qpa_cons (qpv 0) (qpa_cons (qpv 1) qpa_nil))))
    (qpss_cons (qps_asg (qpe_call G__law_drawn (hr.mono (by decide)) rfl T.m__law_drawn F__law_drawn.kp b__law_drawn .nil pass0 (qpa_cons (qpv 2) qpa_nil)) (qpg_tup rfl (qpgs_cons (qpg_name (i := 3) sc_law.nd rfl (by first | exact Or.inl rfl | exact Or.inr rfl)) (qpgs_cons (qpg_name (i := 4) sc_law.nd rfl (by first | exact Or.inl rfl | exact Or.inr rfl)) (qpgs_cons (qpg_name (i := 5) sc_law.nd rfl (by first | exact Or.inl rfl | exact Or.inr rfl)) qpgs_nil))) (K := K) rfl))
    (qpss_cons (qps_set (i := 6) sc_law.nd rfl (by first | exact Or.inl rfl | exact Or.inr rfl) (qpe_call G__law_all_made (hr.mono (by decide)) rfl T.m__law_all_made F__law_all_made.kp b__law_all_made .nil pass0 (qpa_cons (qpv 3) (qpa_cons (qpv 4) (qpa_cons (qpv 5) qpa_nil)))))
    (qpss_cons (qps_set (i := 7) sc_law.nd rfl (by first | exact Or.inl rfl | exact Or.inr rfl) (qpe_call G__law_all_made (hr.mono (by decide)) rfl T.m__law_all_made F__law_all_made.kp b__law_all_made .nil pass0 (qpa_cons (qpe_op op_addW (qpv 3) qpe_int) (qpa_cons (qpe_op op_addW (qpv 4) qpe_str) (qpa_cons (qpe_op op_addT (qpv 5) (qpe_tup (qpa_cons qpe_str qpa_nil))) qpa_nil)))))
    (qpss_cons (qps_if (QW.pt (qpw_or (qpt_not (qpt_val (qpe_call G__law_right (hr.mono (by decide)) rfl T.m__law_right F__law_right.kp b__law_right .nil pass0 (qpa_cons (qpv 6) qpa_nil)))) (qpw_or1 (qpt_not (qpt_val (qpe_call G__law_right (hr.mono (by decide)) rfl T.m__law_right F__law_right.kp b__law_right .nil pass0 (qpa_cons (qpv 7) qpa_nil))))))) (qpss_one (qps_ret qpe_bl)) qpss_nil)
    (qpss_one (qps_if (QW.pt (qpw_or (qpt_not (qpt_val (qpe_call G__law_fields (hr.mono (by decide)) rfl T.m__law_fields F__law_fields.kp b__law_fields .nil pass0 (qpa_cons (qpv 6) (qpa_cons (qpv 3) (qpa_cons (qpv 4) (qpa_cons (qpv 5) qpa_nil))))))) (qpw_or1 (qpt_not (qpt_val (qpe_call G__law_fields (hr.mono (by decide)) rfl T.m__law_fields F__law_fields.kp b__law_fields .nil pass0 (qpa_cons (qpv 7) (qpa_cons (qpe_op op_addW (qpv 3) qpe_int) (qpa_cons (qpe_op op_addW (qpv 4) qpe_str) (qpa_cons (qpe_op op_addT (qpv 5) (qpe_tup (qpa_cons qpe_str qpa_nil))) qpa_nil)))))))))) (qpss_one (qps_ret qpe_bl)) qpss_nil))))))))
    (qpss_one (qps_ret qpe_bl)))), ?_⟩
    simp!
    refine rSlU.sq hS fun p hp => ?_
    have hcl := cutV_length (ns.map V.int) none (some 6)
    rw [List.length_map] at hcl
    simp!
    obtain ⟨n, en⟩ : ∃ n, n = (cutV (ns.map V.int) none (some 6)).length := ⟨_, rfl⟩
    rw [← en] at hcl ⊢
    refine ⟨by omega, by omega, ?_⟩
    rw [show (1 + (n : Int)).toNat = n + 1 by omega]
    refine loop_range (fun i σ H' => ∃ v1 v2 v3 v4 v5 v6 v7, σ = [some (.ref a), v1, v2, v3, v4, v5, v6, v7] ∧ Kp [] H H') ⟨none, none, none, none, none, none, none, rfl, (Kp.refl [] H).new hp⟩ ?_ ?_
    · rintro i σ H1 hi ⟨v1, v2, v3, v4, v5, v6, v7, rfl, kp⟩
      simp!
      refine ⟨a, _, ns, rfl, kp.seq (by simp) hS, by omega, by omega, fun b o hb ho => ?_⟩
      have hb0 : H b = none := kp.free hb
      have inb : ∀ x ∈ [b], x ∈ ([] : List Addr) ∨ H x = none := fun x hx => .inr (by simp at hx; subst hx; exact hb0)
      refine ⟨b, o, rfl, upd_same, ho, fun t n z tn ds H2 dr k2 => ?_⟩
      obtain ⟨ht, htn, n0, n1, sz, hl, hs⟩ := dr
      have kp2 : Kp [] H H2 := (kp.new hb).trans' k2 inb
      refine ⟨t, _, rfl, SqT.of ht, rfl, ⟨_, _, rfl, ⟨_, _, rfl, ⟨_, _, rfl, rfl, ?_⟩⟩⟩⟩
      have okz : ∀ H', okS (.str z) H' := fun _ => ⟨z, rfl, sz.mono (by decide)⟩
      have okt : okT (.ref tn) H2 := ⟨tn, ds, rfl, htn, by omega, fun y hy => (hs y hy).mono (by decide)⟩
      have sq := small_q sz
      have lq : (Str.ofString "q").length = 1 := by decide +kernel
      have smq : Small (Str.ofString "q") 20 := ⟨by omega, by decide +kernel⟩
      have hz8 := sz.1
      simp!
      refine ⟨n, z, tn, rfl, n0, by omega, okz _, okt, fun m H3 k3 am => ?_⟩
      simp!
      refine ⟨by omega, by omega, fun q1 e1 => ?_⟩
      have kq := (Kp.refl [] H3).new (o := .tup [V.str (Str.ofString "q")]) e1
      refine addT_q (ds := ds) (kq.tup _ _ (k3.tup _ _ htn)) upd_same (by omega) fun r1 H4 k4 hr1 => ?_
      have okd : ∀ (r : Addr) (H' : Hp), H' r = some (.tup ((ds ++ [Str.ofString "q"]).map V.str)) → okT (.ref r) H' := fun r H' h => ⟨r, _, rfl, h, by simp; omega, fun y hy => by
        rcases List.mem_append.mp hy with h | h
        · exact (hs y h).mono (by decide)
        · rw [List.mem_singleton.mp h]; exact smq⟩
      have okzq : ∀ H', okS (.str (z ++ Str.ofString "q")) H' := fun _ => ⟨_, rfl, sq⟩
      refine ⟨n + 7, _, r1, rfl, by omega, by omega, okzq _, okd _ _ hr1, fun m2 H5 k5 am2 => ?_⟩
      simp!
      have am5 := ((am.kp kq).kp k4).kp k5
      refine ⟨m, rfl, am5.made, fun H6 k6 => ⟨true, rfl, ?_⟩⟩
      simp only [Bool.not_true, Bool.false_eq_true, if_false]
      refine ⟨m2, rfl, (am2.kp k6).made, fun H7 k7 => ⟨true, rfl, ?_⟩⟩
      simp only [Bool.not_true, Bool.false_eq_true, if_false]
      have tn7 : H7 tn = some (.tup (ds.map V.str)) := k7.tup _ _ (k6.tup _ _ (k5.tup _ _ (k4.tup _ _ (kq.tup _ _ (k3.tup _ _ htn)))))
      refine ⟨m, tn, tn, n, z, ds, rfl, (am5.kp k6).kp k7, n0, by omega, sz.mono (by decide), tn7, tn7, by omega, fun y hy => (hs y hy).mono (by decide), fun H8 k8 => ⟨true, rfl, ?_⟩⟩
      simp only [Bool.not_true, Bool.false_eq_true, if_false]
      refine ⟨by omega, by omega, fun q2 e2 => ?_⟩
      have kq2 := (Kp.refl [] H8).new (o := .tup [V.str (Str.ofString "q")]) e2
      refine addT_q (ds := ds) (kq2.tup _ _ (k8.tup _ _ tn7)) upd_same (by omega) fun r2 H9 k9 hr2 => ?_
      have am9 := ((((am2.kp k6).kp k7).kp k8).kp kq2).kp k9
      have r19 : H9 r1 = some (.tup ((ds ++ [Str.ofString "q"]).map V.str)) := k9.tup _ _ (kq2.tup _ _ (k8.tup _ _ (k7.tup _ _ (k6.tup _ _ (k5.tup _ _ hr1)))))
      refine ⟨m2, r1, r2, n + 7, _, ds ++ [Str.ofString "q"], rfl, am9, by omega, by omega, sq, r19, hr2, by simp; omega, fun y hy => ?_, fun H10 k10 => ⟨true, rfl, ?_⟩⟩
      · rcases List.mem_append.mp hy with h | h
        · exact (hs y h).mono (by decide)
        · rw [List.mem_singleton.mp h]; exact smq
      · simp only [Bool.not_true, Bool.false_eq_true, if_false]
        exact ⟨_, _, _, _, _, _, _, ⟨rfl, rfl, rfl, rfl, rfl, rfl, rfl⟩, ((((((((kp2.trans k3).trans kq).trans k4).trans k5).trans k6).trans k7).trans k8).trans kq2).trans (k9.trans k10)⟩
    · rintro σ H1 ⟨v1, v2, v3, v4, v5, v6, v7, rfl, kp⟩
      simp!
      exact k H1
end
end My


/-! part H99g -/
set_option Elab.async false
set_option linter.all false
set_option maxRecDepth 100000
set_option maxHeartbeats 4000000
namespace My
open PySem L2
local macro_rules
  | `(tactic| simp!) => `(tactic| simp only [tSeq, tIfS, tCut, tTest, tOp, tVar, tC, tAsg, gName, gSub, tRet, tRetN, tNext, tCont, tBreak, tDrop, tAnd, tOr, tNot, tAndV, tOrV, tNotV, tB, tIf, tChain, tCall, rI0, rI, rAddW_int, rAddW_str, rMulW_int, rMulW_ref, rLtU_int, rLtU_str, rLeU_int, rLeU_str, rIxU_str, rIxU_ref, rLenU_str, rLenU_ref, rMinU_int, rMaxU_int, rIntU_int, rIntU_bl, rListU_str, rListU_ref, rPopU_ref, rAppendU_ref, rExtendU_ref, rClearU_ref, rEqU_int, rEqU_bl, rEqU_str, rEqU_ref, rNeU_int, rNeU_bl, rNeU_str, rNeU_ref, rIsU_ty, rSetU_ref, isL_ref, lstOf_lst, tupOf_tup, seqOf_lst, seqOf_tup, Option.isSome_some, tBML, tBML0, tCB, tCons, tNil, tLst, tTup, tRevS, tSl, tPart, tNoPart, rSlU_str, iAny, iRng1, iRng2, iEnumS, tDisp1, tDNotIn, tDIn, sDPut, tAug, ipI, tFor_eq, tComp, tCompIf, compSt, rDictT_ref, iDict, tUn, rU, tCallV, tTru, rTru_ref, rTru_bl, rTru_str, rPop0U_ref, rSumU_ref, rRev_ref, tListRev, rStrK_str, tFmt, tJnil, tJcons, tJoin, tBMS, isS_str, rInU_str, tExc0, tExcI, tExcInit, sExcSet, tExcFld, tFmtI, tFmtR, rIsX_ty, rIsX_ref, rCountU_ref, tLenSet, rLenSet_str, iZipS, rFindU_str, rIndexU_str, rMulS_str, rLtL, rAllU_ref, rAnyU_ref, Option.bind_some, Option.bind_none, Option.getD_some, L2.start, List.map_cons, List.map_nil, List.length_cons, List.length_nil, List.cons_append, List.nil_append, List.append_nil, List.cons.injEq, List.replicate, List.getElem?_cons_zero, List.getElem?_cons_succ, List.set_cons_zero, List.set_cons_succ, Nat.reduceSub, Nat.reduceAdd, Nat.reduceLeDiff, Option.some.injEq, V.int.injEq, V.bl.injEq, V.str.injEq, V.ref.injEq, HO.lst.injEq, HO.tup.injEq, exists_eq_left', exists_eq_left, exists_and_left, true_and, and_true, upd_same, upd_upd, atI_0, atI_1, atI_2, Bool.not_true, Bool.not_false, decide_eq_true_eq, Bool.false_eq_true, if_false, if_true, reduceIte, reduceCtorEq])
  | `(tactic| simp! [$ls,*]) => `(tactic| simp only [tSeq, tIfS, tCut, tTest, tOp, tVar, tC, tAsg, gName, gSub, tRet, tRetN, tNext, tCont, tBreak, tDrop, tAnd, tOr, tNot, tAndV, tOrV, tNotV, tB, tIf, tChain, tCall, rI0, rI, rAddW_int, rAddW_str, rMulW_int, rMulW_ref, rLtU_int, rLtU_str, rLeU_int, rLeU_str, rIxU_str, rIxU_ref, rLenU_str, rLenU_ref, rMinU_int, rMaxU_int, rIntU_int, rIntU_bl, rListU_str, rListU_ref, rPopU_ref, rAppendU_ref, rExtendU_ref, rClearU_ref, rEqU_int, rEqU_bl, rEqU_str, rEqU_ref, rNeU_int, rNeU_bl, rNeU_str, rNeU_ref, rIsU_ty, rSetU_ref, isL_ref, lstOf_lst, tupOf_tup, seqOf_lst, seqOf_tup, Option.isSome_some, tBML, tBML0, tCB, tCons, tNil, tLst, tTup, tRevS, tSl, tPart, tNoPart, rSlU_str, iAny, iRng1, iRng2, iEnumS, tDisp1, tDNotIn, tDIn, sDPut, tAug, ipI, tFor_eq, tComp, tCompIf, compSt, rDictT_ref, iDict, tUn, rU, tCallV, tTru, rTru_ref, rTru_bl, rTru_str, rPop0U_ref, rSumU_ref, rRev_ref, tListRev, rStrK_str, tFmt, tJnil, tJcons, tJoin, tBMS, isS_str, rInU_str, tExc0, tExcI, tExcInit, sExcSet, tExcFld, tFmtI, tFmtR, rIsX_ty, rIsX_ref, rCountU_ref, tLenSet, rLenSet_str, iZipS, rFindU_str, rIndexU_str, rMulS_str, rLtL, rAllU_ref, rAnyU_ref, Option.bind_some, Option.bind_none, Option.getD_some, L2.start, List.map_cons, List.map_nil, List.length_cons, List.length_nil, List.cons_append, List.nil_append, List.append_nil, List.cons.injEq, List.replicate, List.getElem?_cons_zero, List.getElem?_cons_succ, List.set_cons_zero, List.set_cons_succ, Nat.reduceSub, Nat.reduceAdd, Nat.reduceLeDiff, Option.some.injEq, V.int.injEq, V.bl.injEq, V.str.injEq, V.ref.injEq, HO.lst.injEq, HO.tup.injEq, exists_eq_left', exists_eq_left, exists_and_left, true_and, and_true, upd_same, upd_upd, atI_0, atI_1, atI_2, Bool.not_true, Bool.not_false, decide_eq_true_eq, Bool.false_eq_true, if_false, if_true, reduceIte, reduceCtorEq, $ls,*])
theorem all_mk {l : PySem.W.OpenLaw} {w : World} {K : PySem.W.Frag} {h : Heap} {mg : Str → Option Value} {fa f1 f2 f3 f4 f5 f6 f7 f8 f9 : Addr} (X : K.In h) (G : h.Ns mainGlobals mg) (hfa : mg "law" = some (.ref fa))
    {od1 od2 od3 od4 od5 od6 od7 od8 od9 an1 an2 an3 an4 an5 an6 an7 an8 an9 : Option Addr} {sl1 sl2 sl3 sl4 sl5 sl6 sl7 sl8 sl9 : Array (Option Value)} {oc1 kV1 dc1 pm1 cd1 ct1 oc2 kV2 dc2 pm2 cd2 ct2 oc3 kV3 dc3 pm3 cd3 ct3 oc4 kV4 dc4 pm4 cd4 ct4 oc5 kV5 dc5 pm5 cd5 ct5 oc6 kV6 dc6 pm6 cd6 ct6 oc7 kV7 dc7 pm7 cd7 ct7 oc8 kV8 dc8 pm8 cd8 ct8 oc9 kV9 dc9 pm9 cd9 ct9 : Value}
    {D : Addr} {ND : Addr} {nmD qD : Str} {bsD subD : List Value} {snD : List Str} {abD : Bool} {colD : Option Bool} {ddD : Option Addr} {noD : Value} {kgD khD kiD kjD kkD : Option Value} {ndD : Option Addr} {esD : Array DictEntry} {enD : Nat} {nlD : Array (Option Value)} {C0 N0 : Addr} {nm0 q0 : Str} {bs0 sub0 : List Value} {sn0 : List Str} {ab0 : Bool} {col0 : Option Bool} {dd0 : Option Addr} {ka0 kb0 kc0 kd0 kf0 : Option Value} {no0 : Value} {nd0 : Option Addr} {es0 : Array DictEntry} {en0 : Nat} {nl0 : Array (Option Value)} {C1 N1 : Addr} {nm1 q1 : Str} {bs1 sub1 : List Value} {sn1 : List Str} {ab1 : Bool} {col1 : Option Bool} {dd1 : Option Addr} {ka1 kb1 kc1 kd1 kf1 : Option Value} {no1 : Value} {nd1 : Option Addr} {es1 : Array DictEntry} {en1 : Nat} {nl1 : Array (Option Value)} {F1 : Addr} {vd1 va1 : Option Addr} {vs1 : Array (Option Value)} {vk1 vo1 vp1 vc1 vt1 : Value} {C2 N2 : Addr} {nm2 q2 : Str} {bs2 sub2 : List Value} {sn2 : List Str} {ab2 : Bool} {col2 : Option Bool} {dd2 : Option Addr} {ka2 kb2 kc2 kd2 kf2 : Option Value} {no2 : Value} {nd2 : Option Addr} {es2 : Array DictEntry} {en2 : Nat} {nl2 : Array (Option Value)} {F2 : Addr} {vd2 va2 : Option Addr} {vs2 : Array (Option Value)} {vk2 vo2 vp2 vc2 vt2 : Value} {C3 N3 : Addr} {nm3 q3 : Str} {bs3 sub3 : List Value} {sn3 : List Str} {ab3 : Bool} {col3 : Option Bool} {dd3 : Option Addr} {ka3 kb3 kc3 kd3 kf3 : Option Value} {no3 : Value} {nd3 : Option Addr} {es3 : Array DictEntry} {en3 : Nat} {nl3 : Array (Option Value)} {F3 : Addr} {vd3 va3 : Option Addr} {vs3 : Array (Option Value)} {vk3 vo3 vp3 vc3 vt3 : Value} {C4 N4 : Addr} {nm4 q4 : Str} {bs4 sub4 : List Value} {sn4 : List Str} {ab4 : Bool} {col4 : Option Bool} {dd4 : Option Addr} {ka4 kb4 kc4 kd4 kf4 : Option Value} {no4 : Value} {nd4 : Option Addr} {es4 : Array DictEntry} {en4 : Nat} {nl4 : Array (Option Value)} {C5 N5 : Addr} {nm5 q5 : Str} {bs5 sub5 : List Value} {sn5 : List Str} {ab5 : Bool} {col5 : Option Bool} {dd5 : Option Addr} {ka5 kb5 kc5 kd5 kf5 : Option Value} {no5 : Value} {nd5 : Option Addr} {es5 : Array DictEntry} {en5 : Nat} {nl5 : Array (Option Value)} {F5 : Addr} {vd5 va5 : Option Addr} {vs5 : Array (Option Value)} {vk5 vo5 vp5 vc5 vt5 : Value} {C6 N6 : Addr} {nm6 q6 : Str} {bs6 sub6 : List Value} {sn6 : List Str} {ab6 : Bool} {col6 : Option Bool} {dd6 : Option Addr} {ka6 kb6 kc6 kd6 kf6 : Option Value} {no6 : Value} {nd6 : Option Addr} {es6 : Array DictEntry} {en6 : Nat} {nl6 : Array (Option Value)} {F6 : Addr} {vd6 va6 : Option Addr} {vs6 : Array (Option Value)} {vk6 vo6 vp6 vc6 vt6 : Value} {C7 N7 : Addr} {nm7 q7 : Str} {bs7 sub7 : List Value} {sn7 : List Str} {ab7 : Bool} {col7 : Option Bool} {dd7 : Option Addr} {ka7 kb7 kc7 kd7 kf7 : Option Value} {no7 : Value} {nd7 : Option Addr} {es7 : Array DictEntry} {en7 : Nat} {nl7 : Array (Option Value)} {C8 N8 : Addr} {nm8 q8 : Str} {bs8 sub8 : List Value} {sn8 : List Str} {ab8 : Bool} {col8 : Option Bool} {dd8 : Option Addr} {ka8 kb8 kc8 kd8 kf8 : Option Value} {no8 : Value} {nd8 : Option Addr} {es8 : Array DictEntry} {en8 : Nat} {nl8 : Array (Option Value)} {F8 : Addr} {vd8 va8 : Option Addr} {vs8 : Array (Option Value)} {vk8 vo8 vp8 vc8 vt8 : Value} {C9 N9 : Addr} {nm9 q9 : Str} {bs9 sub9 : List Value} {sn9 : List Str} {ab9 : Bool} {col9 : Option Bool} {dd9 : Option Addr} {ka9 kb9 kc9 kd9 kf9 : Option Value} {no9 : Value} {nd9 : Option Addr} {es9 : Array DictEntry} {en9 : Nat} {nl9 : Array (Option Value)} {C10 N10 : Addr} {nm10 q10 : Str} {bs10 sub10 : List Value} {sn10 : List Str} {ab10 : Bool} {col10 : Option Bool} {dd10 : Option Addr} {ka10 kb10 kc10 kd10 kf10 : Option Value} {no10 : Value} {nd10 : Option Addr} {es10 : Array DictEntry} {en10 : Nat} {nl10 : Array (Option Value)} {F10 : Addr} {vd10 va10 : Option Addr} {vs10 : Array (Option Value)} {vk10 vo10 vp10 vc10 vt10 : Value} {C11 N11 : Addr} {nm11 q11 : Str} {bs11 sub11 : List Value} {sn11 : List Str} {ab11 : Bool} {col11 : Option Bool} {dd11 : Option Addr} {ka11 kb11 kc11 kd11 kf11 : Option Value} {no11 : Value} {nd11 : Option Addr} {es11 : Array DictEntry} {en11 : Nat} {nl11 : Array (Option Value)}
    (a1 : PySem.W.nsIn K mainGlobals "_law_box" = some (some (.ref f1))) (l1 : K.lookup f1 = some ⟨oc1, od1, .func (PySem.W.fnOf "_law_box" "_law_box" (defArgs s__law_box) (defBody s__law_box) (defScope s__law_box) .none kV1 dc1 pm1 an1 cd1 ct1), sl1⟩) (c1 : PySem.W.codeIn K cd1 "_law_box" = true) (k1 : PySem.W.keepIn K (.ref f1) = true)
    (a2 : PySem.W.nsIn K mainGlobals "_law_take" = some (some (.ref f2))) (l2 : K.lookup f2 = some ⟨oc2, od2, .func (PySem.W.fnOf "_law_take" "_law_take" (defArgs s__law_take) (defBody s__law_take) (defScope s__law_take) .none kV2 dc2 pm2 an2 cd2 ct2), sl2⟩) (c2 : PySem.W.codeIn K cd2 "_law_take" = true) (k2 : PySem.W.keepIn K (.ref f2) = true)
    (a3 : PySem.W.nsIn K mainGlobals "_law_text" = some (some (.ref f3))) (l3 : K.lookup f3 = some ⟨oc3, od3, .func (PySem.W.fnOf "_law_text" "_law_text" (defArgs s__law_text) (defBody s__law_text) (defScope s__law_text) .none kV3 dc3 pm3 an3 cd3 ct3), sl3⟩) (c3 : PySem.W.codeIn K cd3 "_law_text" = true) (k3 : PySem.W.keepIn K (.ref f3) = true)
    (a4 : PySem.W.nsIn K mainGlobals "_law_kinds" = some (some (.ref f4))) (l4 : K.lookup f4 = some ⟨oc4, od4, .func (PySem.W.fnOf "_law_kinds" "_law_kinds" (defArgs s__law_kinds) (defBody s__law_kinds) (defScope s__law_kinds) .none kV4 dc4 pm4 an4 cd4 ct4), sl4⟩) (c4 : PySem.W.codeIn K cd4 "_law_kinds" = true) (k4 : PySem.W.keepIn K (.ref f4) = true)
    (a5 : PySem.W.nsIn K mainGlobals "_law_all_made" = some (some (.ref f5))) (l5 : K.lookup f5 = some ⟨oc5, od5, .func (PySem.W.fnOf "_law_all_made" "_law_all_made" (defArgs s__law_all_made) (defBody s__law_all_made) (defScope s__law_all_made) .none kV5 dc5 pm5 an5 cd5 ct5), sl5⟩) (c5 : PySem.W.codeIn K cd5 "_law_all_made" = true) (k5 : PySem.W.keepIn K (.ref f5) = true)
    (a6 : PySem.W.nsIn K mainGlobals "_law_fields" = some (some (.ref f6))) (l6 : K.lookup f6 = some ⟨oc6, od6, .func (PySem.W.fnOf "_law_fields" "_law_fields" (defArgs s__law_fields) (defBody s__law_fields) (defScope s__law_fields) .none kV6 dc6 pm6 an6 cd6 ct6), sl6⟩) (c6 : PySem.W.codeIn K cd6 "_law_fields" = true) (k6 : PySem.W.keepIn K (.ref f6) = true)
    (a7 : PySem.W.nsIn K mainGlobals "_law_right" = some (some (.ref f7))) (l7 : K.lookup f7 = some ⟨oc7, od7, .func (PySem.W.fnOf "_law_right" "_law_right" (defArgs s__law_right) (defBody s__law_right) (defScope s__law_right) .none kV7 dc7 pm7 an7 cd7 ct7), sl7⟩) (c7 : PySem.W.codeIn K cd7 "_law_right" = true) (k7 : PySem.W.keepIn K (.ref f7) = true)
    (a8 : PySem.W.nsIn K mainGlobals "_law_drawn" = some (some (.ref f8))) (l8 : K.lookup f8 = some ⟨oc8, od8, .func (PySem.W.fnOf "_law_drawn" "_law_drawn" (defArgs s__law_drawn) (defBody s__law_drawn) (defScope s__law_drawn) .none kV8 dc8 pm8 an8 cd8 ct8), sl8⟩) (c8 : PySem.W.codeIn K cd8 "_law_drawn" = true) (k8 : PySem.W.keepIn K (.ref f8) = true)
    (a9 : PySem.W.nsIn K mainGlobals "law" = some (some (.ref f9))) (l9 : K.lookup f9 = some ⟨oc9, od9, .func (PySem.W.fnOf "law" "law" (defArgs s_law) (defBody s_law) (defScope s_law) .none kV9 dc9 pm9 an9 cd9 ct9), sl9⟩) (c9 : PySem.W.codeIn K cd9 "law" = true) (k9 : PySem.W.keepIn K (.ref f9) = true)
    (z_len : PySem.W.nsIn K mainGlobals "len" = some none)
    (z_int : PySem.W.nsIn K mainGlobals "int" = some none)
    (z_range : PySem.W.nsIn K mainGlobals "range" = some none)
    (z_tuple : PySem.W.nsIn K mainGlobals "tuple" = some none)
    (z_repr : PySem.W.nsIn K mainGlobals "repr" = some none)
    (z_isinstance : PySem.W.nsIn K mainGlobals "isinstance" = some none)
    (z_ValueError : PySem.W.nsIn K mainGlobals "ValueError" = some none)
    (aD : PySem.W.nsIn K mainGlobals "CalmError" = some (some (.ref D)))
    (lD : K.lookup D = some (excClassObj nmD qD D ND bsD bmVE true snD subD abD colD ddD kgD khD kiD kjD kkD "ValueError.__new__"))
    (lnD : K.lookup ND = some ⟨noD, ndD, .dict esD enD, nlD⟩)
    (eoD : (esD.all fun e => match e.key with | .str _ _ => true | _ => false) = true)
    (inD : PySem.W.nsIn K ND "__init__" = some none)
    (spD : PySem.W.specialIn K (.ref D) "__getattribute__" = some (some (.builtin "type.__getattribute__")))
    (rdD : PySem.W.readsIn K D (.type "type") = true)
    (fcD : PySem.W.findCls K (.ref D) (.type "type") "__init__" = some (.val (.builtin "ValueError.__init__")))
    (ac0 : PySem.W.nsIn K mainGlobals "BadLetters" = some (some (.ref C0)))
    (lc0 : K.lookup C0 = some (excClassObj nm0 q0 C0 N0 bs0 (.ref D :: bmVE) true sn0 sub0 ab0 col0 dd0 ka0 kb0 kc0 kd0 kf0 "ValueError.__new__"))
    (ln0 : K.lookup N0 = some ⟨no0, nd0, .dict es0 en0, nl0⟩)
    (eo0 : (es0.all fun e => match e.key with | .str _ _ => true | _ => false) = true)
    (ty0 : PySem.W.typeIn K (.ref C0) = some (.type "type"))
    (sa0 : PySem.W.findIn K (.ref C0) "__setattr__" = some (some (.builtin "object.__setattr__")))
    (ga0 : PySem.W.findIn K (.ref C0) "__getattribute__" = some (some (.builtin "BaseException.__getattribute__")))
    (gx0 : PySem.W.findIn K (.ref C0) "__getattr__" = some none)
    (kp0 : PySem.W.keepIn K (.ref C0) = true)
    (cc0 : PySem.W.findIn K (.ref C0) "__class__" = some (some (.builtin "object.__class__")))
    (ob0 : PySem.W.mroIn K C0 (.type "object") = some true)
    (in0 : PySem.W.nsIn K N0 "__init__" = some none)
    (ac1 : PySem.W.nsIn K mainGlobals "BadRoom" = some (some (.ref C1)))
    (lc1 : K.lookup C1 = some (excClassObj nm1 q1 C1 N1 bs1 (.ref D :: bmVE) true sn1 sub1 ab1 col1 dd1 ka1 kb1 kc1 kd1 kf1 "ValueError.__new__"))
    (ln1 : K.lookup N1 = some ⟨no1, nd1, .dict es1 en1, nl1⟩)
    (eo1 : (es1.all fun e => match e.key with | .str _ _ => true | _ => false) = true)
    (ty1 : PySem.W.typeIn K (.ref C1) = some (.type "type"))
    (sa1 : PySem.W.findIn K (.ref C1) "__setattr__" = some (some (.builtin "object.__setattr__")))
    (ga1 : PySem.W.findIn K (.ref C1) "__getattribute__" = some (some (.builtin "BaseException.__getattribute__")))
    (gx1 : PySem.W.findIn K (.ref C1) "__getattr__" = some none)
    (kp1 : PySem.W.keepIn K (.ref C1) = true)
    (cc1 : PySem.W.findIn K (.ref C1) "__class__" = some (some (.builtin "object.__class__")))
    (ob1 : PySem.W.mroIn K C1 (.type "object") = some true)
    (in1 : PySem.W.nsIn K N1 "__init__" = some (some (.ref F1)))
    (lf1 : K.lookup F1 = some ⟨.type "function", vd1, .func (PySem.W.fnOf "__init__" "BadRoom.__init__" (defArgs s_BadRoom__init__) (defBody s_BadRoom__init__) (defScope s_BadRoom__init__) .none vk1 vo1 vp1 va1 vc1 vt1), vs1⟩)
    (cf1 : PySem.W.codeIn K vc1 "BadRoom.__init__" = true)
    (kq1 : PySem.W.keepIn K (.ref F1) = true)
    (qf1 : PySem.W.findIn K (.ref C1) "room" = some none)
    (ac2 : PySem.W.nsIn K mainGlobals "NoLetter" = some (some (.ref C2)))
    (lc2 : K.lookup C2 = some (excClassObj nm2 q2 C2 N2 bs2 (.ref D :: bmVE) true sn2 sub2 ab2 col2 dd2 ka2 kb2 kc2 kd2 kf2 "ValueError.__new__"))
    (ln2 : K.lookup N2 = some ⟨no2, nd2, .dict es2 en2, nl2⟩)
    (eo2 : (es2.all fun e => match e.key with | .str _ _ => true | _ => false) = true)
    (ty2 : PySem.W.typeIn K (.ref C2) = some (.type "type"))
    (sa2 : PySem.W.findIn K (.ref C2) "__setattr__" = some (some (.builtin "object.__setattr__")))
    (ga2 : PySem.W.findIn K (.ref C2) "__getattribute__" = some (some (.builtin "BaseException.__getattribute__")))
    (gx2 : PySem.W.findIn K (.ref C2) "__getattr__" = some none)
    (kp2 : PySem.W.keepIn K (.ref C2) = true)
    (cc2 : PySem.W.findIn K (.ref C2) "__class__" = some (some (.builtin "object.__class__")))
    (ob2 : PySem.W.mroIn K C2 (.type "object") = some true)
    (in2 : PySem.W.nsIn K N2 "__init__" = some (some (.ref F2)))
    (lf2 : K.lookup F2 = some ⟨.type "function", vd2, .func (PySem.W.fnOf "__init__" "NoLetter.__init__" (defArgs s_NoLetter__init__) (defBody s_NoLetter__init__) (defScope s_NoLetter__init__) .none vk2 vo2 vp2 va2 vc2 vt2), vs2⟩)
    (cf2 : PySem.W.codeIn K vc2 "NoLetter.__init__" = true)
    (kq2 : PySem.W.keepIn K (.ref F2) = true)
    (qf2 : PySem.W.findIn K (.ref C2) "at" = some none)
    (ac3 : PySem.W.nsIn K mainGlobals "BadText" = some (some (.ref C3)))
    (lc3 : K.lookup C3 = some (excClassObj nm3 q3 C3 N3 bs3 (.ref D :: bmVE) true sn3 sub3 ab3 col3 dd3 ka3 kb3 kc3 kd3 kf3 "ValueError.__new__"))
    (ln3 : K.lookup N3 = some ⟨no3, nd3, .dict es3 en3, nl3⟩)
    (eo3 : (es3.all fun e => match e.key with | .str _ _ => true | _ => false) = true)
    (ty3 : PySem.W.typeIn K (.ref C3) = some (.type "type"))
    (sa3 : PySem.W.findIn K (.ref C3) "__setattr__" = some (some (.builtin "object.__setattr__")))
    (ga3 : PySem.W.findIn K (.ref C3) "__getattribute__" = some (some (.builtin "BaseException.__getattribute__")))
    (gx3 : PySem.W.findIn K (.ref C3) "__getattr__" = some none)
    (kp3 : PySem.W.keepIn K (.ref C3) = true)
    (cc3 : PySem.W.findIn K (.ref C3) "__class__" = some (some (.builtin "object.__class__")))
    (ob3 : PySem.W.mroIn K C3 (.type "object") = some true)
    (in3 : PySem.W.nsIn K N3 "__init__" = some (some (.ref F3)))
    (lf3 : K.lookup F3 = some ⟨.type "function", vd3, .func (PySem.W.fnOf "__init__" "BadText.__init__" (defArgs s_BadText__init__) (defBody s_BadText__init__) (defScope s_BadText__init__) .none vk3 vo3 vp3 va3 vc3 vt3), vs3⟩)
    (cf3 : PySem.W.codeIn K vc3 "BadText.__init__" = true)
    (kq3 : PySem.W.keepIn K (.ref F3) = true)
    (qf3 : PySem.W.findIn K (.ref C3) "at" = some none)
    (ac4 : PySem.W.nsIn K mainGlobals "OtherLetters" = some (some (.ref C4)))
    (lc4 : K.lookup C4 = some (excClassObj nm4 q4 C4 N4 bs4 (.ref D :: bmVE) true sn4 sub4 ab4 col4 dd4 ka4 kb4 kc4 kd4 kf4 "ValueError.__new__"))
    (ln4 : K.lookup N4 = some ⟨no4, nd4, .dict es4 en4, nl4⟩)
    (eo4 : (es4.all fun e => match e.key with | .str _ _ => true | _ => false) = true)
    (ty4 : PySem.W.typeIn K (.ref C4) = some (.type "type"))
    (sa4 : PySem.W.findIn K (.ref C4) "__setattr__" = some (some (.builtin "object.__setattr__")))
    (ga4 : PySem.W.findIn K (.ref C4) "__getattribute__" = some (some (.builtin "BaseException.__getattribute__")))
    (gx4 : PySem.W.findIn K (.ref C4) "__getattr__" = some none)
    (kp4 : PySem.W.keepIn K (.ref C4) = true)
    (cc4 : PySem.W.findIn K (.ref C4) "__class__" = some (some (.builtin "object.__class__")))
    (ob4 : PySem.W.mroIn K C4 (.type "object") = some true)
    (in4 : PySem.W.nsIn K N4 "__init__" = some none)
    (ac5 : PySem.W.nsIn K mainGlobals "TooMany" = some (some (.ref C5)))
    (lc5 : K.lookup C5 = some (excClassObj nm5 q5 C5 N5 bs5 (.ref D :: bmVE) true sn5 sub5 ab5 col5 dd5 ka5 kb5 kc5 kd5 kf5 "ValueError.__new__"))
    (ln5 : K.lookup N5 = some ⟨no5, nd5, .dict es5 en5, nl5⟩)
    (eo5 : (es5.all fun e => match e.key with | .str _ _ => true | _ => false) = true)
    (ty5 : PySem.W.typeIn K (.ref C5) = some (.type "type"))
    (sa5 : PySem.W.findIn K (.ref C5) "__setattr__" = some (some (.builtin "object.__setattr__")))
    (ga5 : PySem.W.findIn K (.ref C5) "__getattribute__" = some (some (.builtin "BaseException.__getattribute__")))
    (gx5 : PySem.W.findIn K (.ref C5) "__getattr__" = some none)
    (kp5 : PySem.W.keepIn K (.ref C5) = true)
    (cc5 : PySem.W.findIn K (.ref C5) "__class__" = some (some (.builtin "object.__class__")))
    (ob5 : PySem.W.mroIn K C5 (.type "object") = some true)
    (in5 : PySem.W.nsIn K N5 "__init__" = some (some (.ref F5)))
    (lf5 : K.lookup F5 = some ⟨.type "function", vd5, .func (PySem.W.fnOf "__init__" "TooMany.__init__" (defArgs s_TooMany__init__) (defBody s_TooMany__init__) (defScope s_TooMany__init__) .none vk5 vo5 vp5 va5 vc5 vt5), vs5⟩)
    (cf5 : PySem.W.codeIn K vc5 "TooMany.__init__" = true)
    (kq5 : PySem.W.keepIn K (.ref F5) = true)
    (qf5 : PySem.W.findIn K (.ref C5) "at" = some none)
    (ac6 : PySem.W.nsIn K mainGlobals "BadRow" = some (some (.ref C6)))
    (lc6 : K.lookup C6 = some (excClassObj nm6 q6 C6 N6 bs6 (.ref D :: bmVE) true sn6 sub6 ab6 col6 dd6 ka6 kb6 kc6 kd6 kf6 "ValueError.__new__"))
    (ln6 : K.lookup N6 = some ⟨no6, nd6, .dict es6 en6, nl6⟩)
    (eo6 : (es6.all fun e => match e.key with | .str _ _ => true | _ => false) = true)
    (ty6 : PySem.W.typeIn K (.ref C6) = some (.type "type"))
    (sa6 : PySem.W.findIn K (.ref C6) "__setattr__" = some (some (.builtin "object.__setattr__")))
    (ga6 : PySem.W.findIn K (.ref C6) "__getattribute__" = some (some (.builtin "BaseException.__getattribute__")))
    (gx6 : PySem.W.findIn K (.ref C6) "__getattr__" = some none)
    (kp6 : PySem.W.keepIn K (.ref C6) = true)
    (cc6 : PySem.W.findIn K (.ref C6) "__class__" = some (some (.builtin "object.__class__")))
    (ob6 : PySem.W.mroIn K C6 (.type "object") = some true)
    (in6 : PySem.W.nsIn K N6 "__init__" = some (some (.ref F6)))
    (lf6 : K.lookup F6 = some ⟨.type "function", vd6, .func (PySem.W.fnOf "__init__" "BadRow.__init__" (defArgs s_BadRow__init__) (defBody s_BadRow__init__) (defScope s_BadRow__init__) .none vk6 vo6 vp6 va6 vc6 vt6), vs6⟩)
    (cf6 : PySem.W.codeIn K vc6 "BadRow.__init__" = true)
    (kq6 : PySem.W.keepIn K (.ref F6) = true)
    (qf6 : PySem.W.findIn K (.ref C6) "at" = some none)
    (ac7 : PySem.W.nsIn K mainGlobals "TooLong" = some (some (.ref C7)))
    (lc7 : K.lookup C7 = some (excClassObj nm7 q7 C7 N7 bs7 (.ref D :: bmVE) true sn7 sub7 ab7 col7 dd7 ka7 kb7 kc7 kd7 kf7 "ValueError.__new__"))
    (ln7 : K.lookup N7 = some ⟨no7, nd7, .dict es7 en7, nl7⟩)
    (eo7 : (es7.all fun e => match e.key with | .str _ _ => true | _ => false) = true)
    (ty7 : PySem.W.typeIn K (.ref C7) = some (.type "type"))
    (sa7 : PySem.W.findIn K (.ref C7) "__setattr__" = some (some (.builtin "object.__setattr__")))
    (ga7 : PySem.W.findIn K (.ref C7) "__getattribute__" = some (some (.builtin "BaseException.__getattribute__")))
    (gx7 : PySem.W.findIn K (.ref C7) "__getattr__" = some none)
    (kp7 : PySem.W.keepIn K (.ref C7) = true)
    (cc7 : PySem.W.findIn K (.ref C7) "__class__" = some (some (.builtin "object.__class__")))
    (ob7 : PySem.W.mroIn K C7 (.type "object") = some true)
    (in7 : PySem.W.nsIn K N7 "__init__" = some none)
    (ac8 : PySem.W.nsIn K mainGlobals "NotClosed" = some (some (.ref C8)))
    (lc8 : K.lookup C8 = some (excClassObj nm8 q8 C8 N8 bs8 (.ref D :: bmVE) true sn8 sub8 ab8 col8 dd8 ka8 kb8 kc8 kd8 kf8 "ValueError.__new__"))
    (ln8 : K.lookup N8 = some ⟨no8, nd8, .dict es8 en8, nl8⟩)
    (eo8 : (es8.all fun e => match e.key with | .str _ _ => true | _ => false) = true)
    (ty8 : PySem.W.typeIn K (.ref C8) = some (.type "type"))
    (sa8 : PySem.W.findIn K (.ref C8) "__setattr__" = some (some (.builtin "object.__setattr__")))
    (ga8 : PySem.W.findIn K (.ref C8) "__getattribute__" = some (some (.builtin "BaseException.__getattribute__")))
    (gx8 : PySem.W.findIn K (.ref C8) "__getattr__" = some none)
    (kp8 : PySem.W.keepIn K (.ref C8) = true)
    (cc8 : PySem.W.findIn K (.ref C8) "__class__" = some (some (.builtin "object.__class__")))
    (ob8 : PySem.W.mroIn K C8 (.type "object") = some true)
    (in8 : PySem.W.nsIn K N8 "__init__" = some (some (.ref F8)))
    (lf8 : K.lookup F8 = some ⟨.type "function", vd8, .func (PySem.W.fnOf "__init__" "NotClosed.__init__" (defArgs s_NotClosed__init__) (defBody s_NotClosed__init__) (defScope s_NotClosed__init__) .none vk8 vo8 vp8 va8 vc8 vt8), vs8⟩)
    (cf8 : PySem.W.codeIn K vc8 "NotClosed.__init__" = true)
    (kq8 : PySem.W.keepIn K (.ref F8) = true)
    (qf8 : PySem.W.findIn K (.ref C8) "names" = some none)
    (ac9 : PySem.W.nsIn K mainGlobals "NotCalm" = some (some (.ref C9)))
    (lc9 : K.lookup C9 = some (excClassObj nm9 q9 C9 N9 bs9 (.ref D :: bmVE) true sn9 sub9 ab9 col9 dd9 ka9 kb9 kc9 kd9 kf9 "ValueError.__new__"))
    (ln9 : K.lookup N9 = some ⟨no9, nd9, .dict es9 en9, nl9⟩)
    (eo9 : (es9.all fun e => match e.key with | .str _ _ => true | _ => false) = true)
    (ty9 : PySem.W.typeIn K (.ref C9) = some (.type "type"))
    (sa9 : PySem.W.findIn K (.ref C9) "__setattr__" = some (some (.builtin "object.__setattr__")))
    (ga9 : PySem.W.findIn K (.ref C9) "__getattribute__" = some (some (.builtin "BaseException.__getattribute__")))
    (gx9 : PySem.W.findIn K (.ref C9) "__getattr__" = some none)
    (kp9 : PySem.W.keepIn K (.ref C9) = true)
    (cc9 : PySem.W.findIn K (.ref C9) "__class__" = some (some (.builtin "object.__class__")))
    (ob9 : PySem.W.mroIn K C9 (.type "object") = some true)
    (in9 : PySem.W.nsIn K N9 "__init__" = some none)
    (ac10 : PySem.W.nsIn K mainGlobals "NoName" = some (some (.ref C10)))
    (lc10 : K.lookup C10 = some (excClassObj nm10 q10 C10 N10 bs10 (.ref D :: bmVE) true sn10 sub10 ab10 col10 dd10 ka10 kb10 kc10 kd10 kf10 "ValueError.__new__"))
    (ln10 : K.lookup N10 = some ⟨no10, nd10, .dict es10 en10, nl10⟩)
    (eo10 : (es10.all fun e => match e.key with | .str _ _ => true | _ => false) = true)
    (ty10 : PySem.W.typeIn K (.ref C10) = some (.type "type"))
    (sa10 : PySem.W.findIn K (.ref C10) "__setattr__" = some (some (.builtin "object.__setattr__")))
    (ga10 : PySem.W.findIn K (.ref C10) "__getattribute__" = some (some (.builtin "BaseException.__getattribute__")))
    (gx10 : PySem.W.findIn K (.ref C10) "__getattr__" = some none)
    (kp10 : PySem.W.keepIn K (.ref C10) = true)
    (cc10 : PySem.W.findIn K (.ref C10) "__class__" = some (some (.builtin "object.__class__")))
    (ob10 : PySem.W.mroIn K C10 (.type "object") = some true)
    (in10 : PySem.W.nsIn K N10 "__init__" = some (some (.ref F10)))
    (lf10 : K.lookup F10 = some ⟨.type "function", vd10, .func (PySem.W.fnOf "__init__" "NoName.__init__" (defArgs s_NoName__init__) (defBody s_NoName__init__) (defScope s_NoName__init__) .none vk10 vo10 vp10 va10 vc10 vt10), vs10⟩)
    (cf10 : PySem.W.codeIn K vc10 "NoName.__init__" = true)
    (kq10 : PySem.W.keepIn K (.ref F10) = true)
    (qf10 : PySem.W.findIn K (.ref C10) "name" = some none)
    (ac11 : PySem.W.nsIn K mainGlobals "NoRow" = some (some (.ref C11)))
    (lc11 : K.lookup C11 = some (excClassObj nm11 q11 C11 N11 bs11 (.ref D :: bmVE) true sn11 sub11 ab11 col11 dd11 ka11 kb11 kc11 kd11 kf11 "ValueError.__new__"))
    (ln11 : K.lookup N11 = some ⟨no11, nd11, .dict es11 en11, nl11⟩)
    (eo11 : (es11.all fun e => match e.key with | .str _ _ => true | _ => false) = true)
    (ty11 : PySem.W.typeIn K (.ref C11) = some (.type "type"))
    (sa11 : PySem.W.findIn K (.ref C11) "__setattr__" = some (some (.builtin "object.__setattr__")))
    (ga11 : PySem.W.findIn K (.ref C11) "__getattribute__" = some (some (.builtin "BaseException.__getattribute__")))
    (gx11 : PySem.W.findIn K (.ref C11) "__getattr__" = some none)
    (kp11 : PySem.W.keepIn K (.ref C11) = true)
    (cc11 : PySem.W.findIn K (.ref C11) "__class__" = some (some (.builtin "object.__class__")))
    (ob11 : PySem.W.mroIn K C11 (.type "object") = some true)
    (in11 : PySem.W.nsIn K N11 "__init__" = some none)
    (apart : List.Nodup [C0, C1, C2, C3, C4, C5, C6, C7, C8, C9, C10, C11, D])
    (tyD : PySem.W.typeIn K (.ref D) = some (.type "type"))
    : ∃ fd : FuncData, (∀ (s : Shared) (v : Value), BindsTo s fd ⟨[v], []⟩ [("_law_script", v)]) ∧ ∀ base : Heap, K.In base → base.Ns mainGlobals mg → FnOk l.prog w K mg base CX0 4 fa fd ["_law_script"] (spLaw K) := by
  have e := hfa.symm.trans (PySem.W.mg_of X G a9)
  cases e
  have F__law_box := fun_mk (st := s__law_box) l1 c1 k1
  have m__law_box := PySem.W.mg_of X G a1
  have b__law_box := F__law_box.binds (ps := ["_law_script", "_law_k"]) fun _ _ _ _ _ _ us hl => match us, hl with | [_, _], _ => rfl
  have F__law_take := fun_mk (st := s__law_take) l2 c2 k2
  have m__law_take := PySem.W.mg_of X G a2
  have b__law_take := F__law_take.binds (ps := ["_law_box_here", "_law_wide"]) fun _ _ _ _ _ _ us hl => match us, hl with | [_, _], _ => rfl
  have F__law_text := fun_mk (st := s__law_text) l3 c3 k3
  have m__law_text := PySem.W.mg_of X G a3
  have b__law_text := F__law_text.binds (ps := ["_law_box_here", "_law_letters", "_law_most"]) fun _ _ _ _ _ _ us hl => match us, hl with | [_, _, _], _ => rfl
  have F__law_kinds := fun_mk (st := s__law_kinds) l4 c4 k4
  have m__law_kinds := PySem.W.mg_of X G a4
  have b__law_kinds := F__law_kinds.binds (ps := ["_law_e"]) fun _ _ _ _ _ _ us hl => match us, hl with | [_], _ => rfl
  have F__law_all_made := fun_mk (st := s__law_all_made) l5 c5 k5
  have m__law_all_made := PySem.W.mg_of X G a5
  have b__law_all_made := F__law_all_made.binds (ps := ["_law_number", "_law_name", "_law_names"]) fun _ _ _ _ _ _ us hl => match us, hl with | [_, _, _], _ => rfl
  have F__law_fields := fun_mk (st := s__law_fields) l6 c6 k6
  have m__law_fields := PySem.W.mg_of X G a6
  have b__law_fields := F__law_fields.binds (ps := ["_law_made", "_law_number", "_law_name", "_law_names"]) fun _ _ _ _ _ _ us hl => match us, hl with | [_, _, _, _], _ => rfl
  have F__law_right := fun_mk (st := s__law_right) l7 c7 k7
  have m__law_right := PySem.W.mg_of X G a7
  have b__law_right := F__law_right.binds (ps := ["_law_made"]) fun _ _ _ _ _ _ us hl => match us, hl with | [_], _ => rfl
  have F__law_drawn := fun_mk (st := s__law_drawn) l8 c8 k8
  have m__law_drawn := PySem.W.mg_of X G a8
  have b__law_drawn := F__law_drawn.binds (ps := ["_law_box_here"]) fun _ _ _ _ _ _ us hl => match us, hl with | [_], _ => rfl
  have F_law := fun_mk (st := s_law) l9 c9 k9
  have m_law := PySem.W.mg_of X G a9
  have b_law := F_law.binds (ps := ["_law_script"]) fun _ _ _ _ _ _ us hl => match us, hl with | [_], _ => rfl
  have n_len := PySem.W.mg_none_of X G z_len
  have n_int := PySem.W.mg_none_of X G z_int
  have n_range := PySem.W.mg_none_of X G z_range
  have n_tuple := PySem.W.mg_none_of X G z_tuple
  have n_repr := PySem.W.mg_none_of X G z_repr
  have n_isinstance := PySem.W.mg_none_of X G z_isinstance
  have n_ValueError := PySem.W.mg_none_of X G z_ValueError
  refine ⟨PySem.W.fnOf "law" "law" (defArgs s_law) (defBody s_law) (defScope s_law) .none kV9 dc9 pm9 an9 cd9 ct9, fun s v => .of_eq rfl, fun base _ _ => ?_⟩
  let cl : Nat → Addr := fun i => match i with | 0 => C0 | 1 => C1 | 2 => C2 | 3 => C3 | 4 => C4 | 5 => C5 | 6 => C6 | 7 => C7 | 8 => C8 | 9 => C9 | 10 => C10 | 11 => C11 | _ => 0
  let nn : Nat → Addr := fun i => match i with | 0 => N0 | 1 => N1 | 2 => N2 | 3 => N3 | 4 => N4 | 5 => N5 | 6 => N6 | 7 => N7 | 8 => N8 | 9 => N9 | 10 => N10 | 11 => N11 | _ => 0
  let fi : Nat → Addr := fun i => match i with | 1 => F1 | 2 => F2 | 3 => F3 | 5 => F5 | 6 => F6 | 8 => F8 | 10 => F10 | _ => 0
  have nsD : PySem.W.nsOkIn K ND = true := ns_ok lnD eoD
  have tl : PySem.W.tailIn K bmVE (.ref D :: bmVE) = true := tail_ok lD nsD inD
  have ns0 : PySem.W.nsOkIn K N0 = true := ns_ok ln0 eo0
  have ns1 : PySem.W.nsOkIn K N1 = true := ns_ok ln1 eo1
  have ns2 : PySem.W.nsOkIn K N2 = true := ns_ok ln2 eo2
  have ns3 : PySem.W.nsOkIn K N3 = true := ns_ok ln3 eo3
  have ns4 : PySem.W.nsOkIn K N4 = true := ns_ok ln4 eo4
  have ns5 : PySem.W.nsOkIn K N5 = true := ns_ok ln5 eo5
  have ns6 : PySem.W.nsOkIn K N6 = true := ns_ok ln6 eo6
  have ns7 : PySem.W.nsOkIn K N7 = true := ns_ok ln7 eo7
  have ns8 : PySem.W.nsOkIn K N8 = true := ns_ok ln8 eo8
  have ns9 : PySem.W.nsOkIn K N9 = true := ns_ok ln9 eo9
  have ns10 : PySem.W.nsOkIn K N10 = true := ns_ok ln10 eo10
  have ns11 : PySem.W.nsOkIn K N11 = true := ns_ok ln11 eo11
  simp only [List.nodup_cons, List.mem_cons, List.not_mem_nil, or_false, not_or, List.nodup_nil, and_true, not_false_eq_true] at apart
  obtain ⟨⟨n_0_1, n_0_2, n_0_3, n_0_4, n_0_5, n_0_6, n_0_7, n_0_8, n_0_9, n_0_10, n_0_11, n_0_D⟩, ⟨n_1_2, n_1_3, n_1_4, n_1_5, n_1_6, n_1_7, n_1_8, n_1_9, n_1_10, n_1_11, n_1_D⟩, ⟨n_2_3, n_2_4, n_2_5, n_2_6, n_2_7, n_2_8, n_2_9, n_2_10, n_2_11, n_2_D⟩, ⟨n_3_4, n_3_5, n_3_6, n_3_7, n_3_8, n_3_9, n_3_10, n_3_11, n_3_D⟩, ⟨n_4_5, n_4_6, n_4_7, n_4_8, n_4_9, n_4_10, n_4_11, n_4_D⟩, ⟨n_5_6, n_5_7, n_5_8, n_5_9, n_5_10, n_5_11, n_5_D⟩, ⟨n_6_7, n_6_8, n_6_9, n_6_10, n_6_11, n_6_D⟩, ⟨n_7_8, n_7_9, n_7_10, n_7_11, n_7_D⟩, ⟨n_8_9, n_8_10, n_8_11, n_8_D⟩, ⟨n_9_10, n_9_11, n_9_D⟩, ⟨n_10_11, n_10_D⟩, n_11_D⟩ := apart
  have kt_0_1 := kit_ne lc0 lc1 ty1 n_0_1 n_1_D
  have kt_0_2 := kit_ne lc0 lc2 ty2 n_0_2 n_2_D
  have kt_0_3 := kit_ne lc0 lc3 ty3 n_0_3 n_3_D
  have kt_0_4 := kit_ne lc0 lc4 ty4 n_0_4 n_4_D
  have kt_0_5 := kit_ne lc0 lc5 ty5 n_0_5 n_5_D
  have kt_0_6 := kit_ne lc0 lc6 ty6 n_0_6 n_6_D
  have kt_0_7 := kit_ne lc0 lc7 ty7 n_0_7 n_7_D
  have kt_0_8 := kit_ne lc0 lc8 ty8 n_0_8 n_8_D
  have kt_0_9 := kit_ne lc0 lc9 ty9 n_0_9 n_9_D
  have kt_0_10 := kit_ne lc0 lc10 ty10 n_0_10 n_10_D
  have kt_0_11 := kit_ne lc0 lc11 ty11 n_0_11 n_11_D
  have kD_0 := kit_D lc0 lD tyD n_0_D
  have kV_0 := kit_V lc0
  have kt_1_0 := kit_ne lc1 lc0 ty0 (Ne.symm n_0_1) n_0_D
  have kt_1_2 := kit_ne lc1 lc2 ty2 n_1_2 n_2_D
  have kt_1_3 := kit_ne lc1 lc3 ty3 n_1_3 n_3_D
  have kt_1_4 := kit_ne lc1 lc4 ty4 n_1_4 n_4_D
  have kt_1_5 := kit_ne lc1 lc5 ty5 n_1_5 n_5_D
  have kt_1_6 := kit_ne lc1 lc6 ty6 n_1_6 n_6_D
  have kt_1_7 := kit_ne lc1 lc7 ty7 n_1_7 n_7_D
  have kt_1_8 := kit_ne lc1 lc8 ty8 n_1_8 n_8_D
  have kt_1_9 := kit_ne lc1 lc9 ty9 n_1_9 n_9_D
  have kt_1_10 := kit_ne lc1 lc10 ty10 n_1_10 n_10_D
  have kt_1_11 := kit_ne lc1 lc11 ty11 n_1_11 n_11_D
  have kD_1 := kit_D lc1 lD tyD n_1_D
  have kV_1 := kit_V lc1
  have kt_2_0 := kit_ne lc2 lc0 ty0 (Ne.symm n_0_2) n_0_D
  have kt_2_1 := kit_ne lc2 lc1 ty1 (Ne.symm n_1_2) n_1_D
  have kt_2_3 := kit_ne lc2 lc3 ty3 n_2_3 n_3_D
  have kt_2_4 := kit_ne lc2 lc4 ty4 n_2_4 n_4_D
  have kt_2_5 := kit_ne lc2 lc5 ty5 n_2_5 n_5_D
  have kt_2_6 := kit_ne lc2 lc6 ty6 n_2_6 n_6_D
  have kt_2_7 := kit_ne lc2 lc7 ty7 n_2_7 n_7_D
  have kt_2_8 := kit_ne lc2 lc8 ty8 n_2_8 n_8_D
  have kt_2_9 := kit_ne lc2 lc9 ty9 n_2_9 n_9_D
  have kt_2_10 := kit_ne lc2 lc10 ty10 n_2_10 n_10_D
  have kt_2_11 := kit_ne lc2 lc11 ty11 n_2_11 n_11_D
  have kD_2 := kit_D lc2 lD tyD n_2_D
  have kV_2 := kit_V lc2
  have kt_3_0 := kit_ne lc3 lc0 ty0 (Ne.symm n_0_3) n_0_D
  have kt_3_1 := kit_ne lc3 lc1 ty1 (Ne.symm n_1_3) n_1_D
  have kt_3_2 := kit_ne lc3 lc2 ty2 (Ne.symm n_2_3) n_2_D
  have kt_3_4 := kit_ne lc3 lc4 ty4 n_3_4 n_4_D
  have kt_3_5 := kit_ne lc3 lc5 ty5 n_3_5 n_5_D
  have kt_3_6 := kit_ne lc3 lc6 ty6 n_3_6 n_6_D
  have kt_3_7 := kit_ne lc3 lc7 ty7 n_3_7 n_7_D
  have kt_3_8 := kit_ne lc3 lc8 ty8 n_3_8 n_8_D
  have kt_3_9 := kit_ne lc3 lc9 ty9 n_3_9 n_9_D
  have kt_3_10 := kit_ne lc3 lc10 ty10 n_3_10 n_10_D
  have kt_3_11 := kit_ne lc3 lc11 ty11 n_3_11 n_11_D
  have kD_3 := kit_D lc3 lD tyD n_3_D
  have kV_3 := kit_V lc3
  have kt_4_0 := kit_ne lc4 lc0 ty0 (Ne.symm n_0_4) n_0_D
  have kt_4_1 := kit_ne lc4 lc1 ty1 (Ne.symm n_1_4) n_1_D
  have kt_4_2 := kit_ne lc4 lc2 ty2 (Ne.symm n_2_4) n_2_D
  have kt_4_3 := kit_ne lc4 lc3 ty3 (Ne.symm n_3_4) n_3_D
  have kt_4_5 := kit_ne lc4 lc5 ty5 n_4_5 n_5_D
  have kt_4_6 := kit_ne lc4 lc6 ty6 n_4_6 n_6_D
  have kt_4_7 := kit_ne lc4 lc7 ty7 n_4_7 n_7_D
  have kt_4_8 := kit_ne lc4 lc8 ty8 n_4_8 n_8_D
  have kt_4_9 := kit_ne lc4 lc9 ty9 n_4_9 n_9_D
  have kt_4_10 := kit_ne lc4 lc10 ty10 n_4_10 n_10_D
  have kt_4_11 := kit_ne lc4 lc11 ty11 n_4_11 n_11_D
  have kD_4 := kit_D lc4 lD tyD n_4_D
  have kV_4 := kit_V lc4
  have kt_5_0 := kit_ne lc5 lc0 ty0 (Ne.symm n_0_5) n_0_D
  have kt_5_1 := kit_ne lc5 lc1 ty1 (Ne.symm n_1_5) n_1_D
  have kt_5_2 := kit_ne lc5 lc2 ty2 (Ne.symm n_2_5) n_2_D
  have kt_5_3 := kit_ne lc5 lc3 ty3 (Ne.symm n_3_5) n_3_D
  have kt_5_4 := kit_ne lc5 lc4 ty4 (Ne.symm n_4_5) n_4_D
  have kt_5_6 := kit_ne lc5 lc6 ty6 n_5_6 n_6_D
  have kt_5_7 := kit_ne lc5 lc7 ty7 n_5_7 n_7_D
  have kt_5_8 := kit_ne lc5 lc8 ty8 n_5_8 n_8_D
  have kt_5_9 := kit_ne lc5 lc9 ty9 n_5_9 n_9_D
  have kt_5_10 := kit_ne lc5 lc10 ty10 n_5_10 n_10_D
  have kt_5_11 := kit_ne lc5 lc11 ty11 n_5_11 n_11_D
  have kD_5 := kit_D lc5 lD tyD n_5_D
  have kV_5 := kit_V lc5
  have kt_6_0 := kit_ne lc6 lc0 ty0 (Ne.symm n_0_6) n_0_D
  have kt_6_1 := kit_ne lc6 lc1 ty1 (Ne.symm n_1_6) n_1_D
  have kt_6_2 := kit_ne lc6 lc2 ty2 (Ne.symm n_2_6) n_2_D
  have kt_6_3 := kit_ne lc6 lc3 ty3 (Ne.symm n_3_6) n_3_D
  have kt_6_4 := kit_ne lc6 lc4 ty4 (Ne.symm n_4_6) n_4_D
  have kt_6_5 := kit_ne lc6 lc5 ty5 (Ne.symm n_5_6) n_5_D
  have kt_6_7 := kit_ne lc6 lc7 ty7 n_6_7 n_7_D
  have kt_6_8 := kit_ne lc6 lc8 ty8 n_6_8 n_8_D
  have kt_6_9 := kit_ne lc6 lc9 ty9 n_6_9 n_9_D
  have kt_6_10 := kit_ne lc6 lc10 ty10 n_6_10 n_10_D
  have kt_6_11 := kit_ne lc6 lc11 ty11 n_6_11 n_11_D
  have kD_6 := kit_D lc6 lD tyD n_6_D
  have kV_6 := kit_V lc6
  have kt_7_0 := kit_ne lc7 lc0 ty0 (Ne.symm n_0_7) n_0_D
  have kt_7_1 := kit_ne lc7 lc1 ty1 (Ne.symm n_1_7) n_1_D
  have kt_7_2 := kit_ne lc7 lc2 ty2 (Ne.symm n_2_7) n_2_D
  have kt_7_3 := kit_ne lc7 lc3 ty3 (Ne.symm n_3_7) n_3_D
  have kt_7_4 := kit_ne lc7 lc4 ty4 (Ne.symm n_4_7) n_4_D
  have kt_7_5 := kit_ne lc7 lc5 ty5 (Ne.symm n_5_7) n_5_D
  have kt_7_6 := kit_ne lc7 lc6 ty6 (Ne.symm n_6_7) n_6_D
  have kt_7_8 := kit_ne lc7 lc8 ty8 n_7_8 n_8_D
  have kt_7_9 := kit_ne lc7 lc9 ty9 n_7_9 n_9_D
  have kt_7_10 := kit_ne lc7 lc10 ty10 n_7_10 n_10_D
  have kt_7_11 := kit_ne lc7 lc11 ty11 n_7_11 n_11_D
  have kD_7 := kit_D lc7 lD tyD n_7_D
  have kV_7 := kit_V lc7
  have kt_8_0 := kit_ne lc8 lc0 ty0 (Ne.symm n_0_8) n_0_D
  have kt_8_1 := kit_ne lc8 lc1 ty1 (Ne.symm n_1_8) n_1_D
  have kt_8_2 := kit_ne lc8 lc2 ty2 (Ne.symm n_2_8) n_2_D
  have kt_8_3 := kit_ne lc8 lc3 ty3 (Ne.symm n_3_8) n_3_D
  have kt_8_4 := kit_ne lc8 lc4 ty4 (Ne.symm n_4_8) n_4_D
  have kt_8_5 := kit_ne lc8 lc5 ty5 (Ne.symm n_5_8) n_5_D
  have kt_8_6 := kit_ne lc8 lc6 ty6 (Ne.symm n_6_8) n_6_D
  have kt_8_7 := kit_ne lc8 lc7 ty7 (Ne.symm n_7_8) n_7_D
  have kt_8_9 := kit_ne lc8 lc9 ty9 n_8_9 n_9_D
  have kt_8_10 := kit_ne lc8 lc10 ty10 n_8_10 n_10_D
  have kt_8_11 := kit_ne lc8 lc11 ty11 n_8_11 n_11_D
  have kD_8 := kit_D lc8 lD tyD n_8_D
  have kV_8 := kit_V lc8
  have kt_9_0 := kit_ne lc9 lc0 ty0 (Ne.symm n_0_9) n_0_D
  have kt_9_1 := kit_ne lc9 lc1 ty1 (Ne.symm n_1_9) n_1_D
  have kt_9_2 := kit_ne lc9 lc2 ty2 (Ne.symm n_2_9) n_2_D
  have kt_9_3 := kit_ne lc9 lc3 ty3 (Ne.symm n_3_9) n_3_D
  have kt_9_4 := kit_ne lc9 lc4 ty4 (Ne.symm n_4_9) n_4_D
  have kt_9_5 := kit_ne lc9 lc5 ty5 (Ne.symm n_5_9) n_5_D
  have kt_9_6 := kit_ne lc9 lc6 ty6 (Ne.symm n_6_9) n_6_D
  have kt_9_7 := kit_ne lc9 lc7 ty7 (Ne.symm n_7_9) n_7_D
  have kt_9_8 := kit_ne lc9 lc8 ty8 (Ne.symm n_8_9) n_8_D
  have kt_9_10 := kit_ne lc9 lc10 ty10 n_9_10 n_10_D
  have kt_9_11 := kit_ne lc9 lc11 ty11 n_9_11 n_11_D
  have kD_9 := kit_D lc9 lD tyD n_9_D
  have kV_9 := kit_V lc9
  have kt_10_0 := kit_ne lc10 lc0 ty0 (Ne.symm n_0_10) n_0_D
  have kt_10_1 := kit_ne lc10 lc1 ty1 (Ne.symm n_1_10) n_1_D
  have kt_10_2 := kit_ne lc10 lc2 ty2 (Ne.symm n_2_10) n_2_D
  have kt_10_3 := kit_ne lc10 lc3 ty3 (Ne.symm n_3_10) n_3_D
  have kt_10_4 := kit_ne lc10 lc4 ty4 (Ne.symm n_4_10) n_4_D
  have kt_10_5 := kit_ne lc10 lc5 ty5 (Ne.symm n_5_10) n_5_D
  have kt_10_6 := kit_ne lc10 lc6 ty6 (Ne.symm n_6_10) n_6_D
  have kt_10_7 := kit_ne lc10 lc7 ty7 (Ne.symm n_7_10) n_7_D
  have kt_10_8 := kit_ne lc10 lc8 ty8 (Ne.symm n_8_10) n_8_D
  have kt_10_9 := kit_ne lc10 lc9 ty9 (Ne.symm n_9_10) n_9_D
  have kt_10_11 := kit_ne lc10 lc11 ty11 n_10_11 n_11_D
  have kD_10 := kit_D lc10 lD tyD n_10_D
  have kV_10 := kit_V lc10
  have kt_11_0 := kit_ne lc11 lc0 ty0 (Ne.symm n_0_11) n_0_D
  have kt_11_1 := kit_ne lc11 lc1 ty1 (Ne.symm n_1_11) n_1_D
  have kt_11_2 := kit_ne lc11 lc2 ty2 (Ne.symm n_2_11) n_2_D
  have kt_11_3 := kit_ne lc11 lc3 ty3 (Ne.symm n_3_11) n_3_D
  have kt_11_4 := kit_ne lc11 lc4 ty4 (Ne.symm n_4_11) n_4_D
  have kt_11_5 := kit_ne lc11 lc5 ty5 (Ne.symm n_5_11) n_5_D
  have kt_11_6 := kit_ne lc11 lc6 ty6 (Ne.symm n_6_11) n_6_D
  have kt_11_7 := kit_ne lc11 lc7 ty7 (Ne.symm n_7_11) n_7_D
  have kt_11_8 := kit_ne lc11 lc8 ty8 (Ne.symm n_8_11) n_8_D
  have kt_11_9 := kit_ne lc11 lc9 ty9 (Ne.symm n_9_11) n_9_D
  have kt_11_10 := kit_ne lc11 lc10 ty10 (Ne.symm n_10_11) n_10_D
  have kD_11 := kit_D lc11 lD tyD n_11_D
  have kV_11 := kit_V lc11
  have c_BadLetters : XC K C0 D N0 := ⟨⟨_, _, _, _, _, _, _, _, _, _, _, _, _, lc0⟩, tl, ns0, sa0, ga0, gx0, kp0⟩
  have c_BadRoom : XC K C1 D N1 := ⟨⟨_, _, _, _, _, _, _, _, _, _, _, _, _, lc1⟩, tl, ns1, sa1, ga1, gx1, kp1⟩
  have c_NoLetter : XC K C2 D N2 := ⟨⟨_, _, _, _, _, _, _, _, _, _, _, _, _, lc2⟩, tl, ns2, sa2, ga2, gx2, kp2⟩
  have c_BadText : XC K C3 D N3 := ⟨⟨_, _, _, _, _, _, _, _, _, _, _, _, _, lc3⟩, tl, ns3, sa3, ga3, gx3, kp3⟩
  have c_OtherLetters : XC K C4 D N4 := ⟨⟨_, _, _, _, _, _, _, _, _, _, _, _, _, lc4⟩, tl, ns4, sa4, ga4, gx4, kp4⟩
  have c_TooMany : XC K C5 D N5 := ⟨⟨_, _, _, _, _, _, _, _, _, _, _, _, _, lc5⟩, tl, ns5, sa5, ga5, gx5, kp5⟩
  have c_BadRow : XC K C6 D N6 := ⟨⟨_, _, _, _, _, _, _, _, _, _, _, _, _, lc6⟩, tl, ns6, sa6, ga6, gx6, kp6⟩
  have c_TooLong : XC K C7 D N7 := ⟨⟨_, _, _, _, _, _, _, _, _, _, _, _, _, lc7⟩, tl, ns7, sa7, ga7, gx7, kp7⟩
  have c_NotClosed : XC K C8 D N8 := ⟨⟨_, _, _, _, _, _, _, _, _, _, _, _, _, lc8⟩, tl, ns8, sa8, ga8, gx8, kp8⟩
  have c_NotCalm : XC K C9 D N9 := ⟨⟨_, _, _, _, _, _, _, _, _, _, _, _, _, lc9⟩, tl, ns9, sa9, ga9, gx9, kp9⟩
  have c_NoName : XC K C10 D N10 := ⟨⟨_, _, _, _, _, _, _, _, _, _, _, _, _, lc10⟩, tl, ns10, sa10, ga10, gx10, kp10⟩
  have c_NoRow : XC K C11 D N11 := ⟨⟨_, _, _, _, _, _, _, _, _, _, _, _, _, lc11⟩, tl, ns11, sa11, ga11, gx11, kp11⟩
  have xd : XD K D := ⟨spD, rdD, fcD⟩
  have m_CalmError := PySem.W.mg_of X G aD
  have m_BadLetters := PySem.W.mg_of X G ac0
  have m_BadRoom := PySem.W.mg_of X G ac1
  have m_NoLetter := PySem.W.mg_of X G ac2
  have m_BadText := PySem.W.mg_of X G ac3
  have m_OtherLetters := PySem.W.mg_of X G ac4
  have m_TooMany := PySem.W.mg_of X G ac5
  have m_BadRow := PySem.W.mg_of X G ac6
  have m_TooLong := PySem.W.mg_of X G ac7
  have m_NotClosed := PySem.W.mg_of X G ac8
  have m_NotCalm := PySem.W.mg_of X G ac9
  have m_NoName := PySem.W.mg_of X G ac10
  have m_NoRow := PySem.W.mg_of X G ac11
  have kt : ∀ i j, i < 12 → j < 12 → PySem.W.kitOne K (.ref (cl i)) (.ref (cl j)) = some (decide (j = i)) := fun i j hi hj => match i, hi with | 0, _ => (match j, hj with | 0, _ => kit_self | 1, _ => kt_0_1 | 2, _ => kt_0_2 | 3, _ => kt_0_3 | 4, _ => kt_0_4 | 5, _ => kt_0_5 | 6, _ => kt_0_6 | 7, _ => kt_0_7 | 8, _ => kt_0_8 | 9, _ => kt_0_9 | 10, _ => kt_0_10 | 11, _ => kt_0_11 | n + 12, h => absurd h (by omega)) | 1, _ => (match j, hj with | 0, _ => kt_1_0 | 1, _ => kit_self | 2, _ => kt_1_2 | 3, _ => kt_1_3 | 4, _ => kt_1_4 | 5, _ => kt_1_5 | 6, _ => kt_1_6 | 7, _ => kt_1_7 | 8, _ => kt_1_8 | 9, _ => kt_1_9 | 10, _ => kt_1_10 | 11, _ => kt_1_11 | n + 12, h => absurd h (by omega)) | 2, _ => (match j, hj with | 0, _ => kt_2_0 | 1, _ => kt_2_1 | 2, _ => kit_self | 3, _ => kt_2_3 | 4, _ => kt_2_4 | 5, _ => kt_2_5 | 6, _ => kt_2_6 | 7, _ => kt_2_7 | 8, _ => kt_2_8 | 9, _ => kt_2_9 | 10, _ => kt_2_10 | 11, _ => kt_2_11 | n + 12, h => absurd h (by omega)) | 3, _ => (match j, hj with | 0, _ => kt_3_0 | 1, _ => kt_3_1 | 2, _ => kt_3_2 | 3, _ => kit_self | 4, _ => kt_3_4 | 5, _ => kt_3_5 | 6, _ => kt_3_6 | 7, _ => kt_3_7 | 8, _ => kt_3_8 | 9, _ => kt_3_9 | 10, _ => kt_3_10 | 11, _ => kt_3_11 | n + 12, h => absurd h (by omega)) | 4, _ => (match j, hj with | 0, _ => kt_4_0 | 1, _ => kt_4_1 | 2, _ => kt_4_2 | 3, _ => kt_4_3 | 4, _ => kit_self | 5, _ => kt_4_5 | 6, _ => kt_4_6 | 7, _ => kt_4_7 | 8, _ => kt_4_8 | 9, _ => kt_4_9 | 10, _ => kt_4_10 | 11, _ => kt_4_11 | n + 12, h => absurd h (by omega)) | 5, _ => (match j, hj with | 0, _ => kt_5_0 | 1, _ => kt_5_1 | 2, _ => kt_5_2 | 3, _ => kt_5_3 | 4, _ => kt_5_4 | 5, _ => kit_self | 6, _ => kt_5_6 | 7, _ => kt_5_7 | 8, _ => kt_5_8 | 9, _ => kt_5_9 | 10, _ => kt_5_10 | 11, _ => kt_5_11 | n + 12, h => absurd h (by omega)) | 6, _ => (match j, hj with | 0, _ => kt_6_0 | 1, _ => kt_6_1 | 2, _ => kt_6_2 | 3, _ => kt_6_3 | 4, _ => kt_6_4 | 5, _ => kt_6_5 | 6, _ => kit_self | 7, _ => kt_6_7 | 8, _ => kt_6_8 | 9, _ => kt_6_9 | 10, _ => kt_6_10 | 11, _ => kt_6_11 | n + 12, h => absurd h (by omega)) | 7, _ => (match j, hj with | 0, _ => kt_7_0 | 1, _ => kt_7_1 | 2, _ => kt_7_2 | 3, _ => kt_7_3 | 4, _ => kt_7_4 | 5, _ => kt_7_5 | 6, _ => kt_7_6 | 7, _ => kit_self | 8, _ => kt_7_8 | 9, _ => kt_7_9 | 10, _ => kt_7_10 | 11, _ => kt_7_11 | n + 12, h => absurd h (by omega)) | 8, _ => (match j, hj with | 0, _ => kt_8_0 | 1, _ => kt_8_1 | 2, _ => kt_8_2 | 3, _ => kt_8_3 | 4, _ => kt_8_4 | 5, _ => kt_8_5 | 6, _ => kt_8_6 | 7, _ => kt_8_7 | 8, _ => kit_self | 9, _ => kt_8_9 | 10, _ => kt_8_10 | 11, _ => kt_8_11 | n + 12, h => absurd h (by omega)) | 9, _ => (match j, hj with | 0, _ => kt_9_0 | 1, _ => kt_9_1 | 2, _ => kt_9_2 | 3, _ => kt_9_3 | 4, _ => kt_9_4 | 5, _ => kt_9_5 | 6, _ => kt_9_6 | 7, _ => kt_9_7 | 8, _ => kt_9_8 | 9, _ => kit_self | 10, _ => kt_9_10 | 11, _ => kt_9_11 | n + 12, h => absurd h (by omega)) | 10, _ => (match j, hj with | 0, _ => kt_10_0 | 1, _ => kt_10_1 | 2, _ => kt_10_2 | 3, _ => kt_10_3 | 4, _ => kt_10_4 | 5, _ => kt_10_5 | 6, _ => kt_10_6 | 7, _ => kt_10_7 | 8, _ => kt_10_8 | 9, _ => kt_10_9 | 10, _ => kit_self | 11, _ => kt_10_11 | n + 12, h => absurd h (by omega)) | 11, _ => (match j, hj with | 0, _ => kt_11_0 | 1, _ => kt_11_1 | 2, _ => kt_11_2 | 3, _ => kt_11_3 | 4, _ => kt_11_4 | 5, _ => kt_11_5 | 6, _ => kt_11_6 | 7, _ => kt_11_7 | 8, _ => kt_11_8 | 9, _ => kt_11_9 | 10, _ => kt_11_10 | 11, _ => kit_self | n + 12, h => absurd h (by omega)) | n + 12, h => absurd h (by omega)
  have kD : ∀ i, i < 12 → PySem.W.kitOne K (.ref (cl i)) (.ref D) = some true := fun i hi => match i, hi with | 0, _ => kD_0 | 1, _ => kD_1 | 2, _ => kD_2 | 3, _ => kD_3 | 4, _ => kD_4 | 5, _ => kD_5 | 6, _ => kD_6 | 7, _ => kD_7 | 8, _ => kD_8 | 9, _ => kD_9 | 10, _ => kD_10 | 11, _ => kD_11 | n + 12, h => absurd h (by omega)
  have kV : ∀ i, i < 12 → PySem.W.kitOne K (.ref (cl i)) (.type "ValueError") = some true := fun i hi => match i, hi with | 0, _ => kV_0 | 1, _ => kV_1 | 2, _ => kV_2 | 3, _ => kV_3 | 4, _ => kV_4 | 5, _ => kV_5 | 6, _ => kV_6 | 7, _ => kV_7 | 8, _ => kV_8 | 9, _ => kV_9 | 10, _ => kV_10 | 11, _ => kV_11 | n + 12, h => absurd h (by omega)
  have xc : ∀ i, i < 12 → ∃ N, XC K (cl i) D N := fun i hi => match i, hi with | 0, _ => ⟨N0, c_BadLetters⟩ | 1, _ => ⟨N1, c_BadRoom⟩ | 2, _ => ⟨N2, c_NoLetter⟩ | 3, _ => ⟨N3, c_BadText⟩ | 4, _ => ⟨N4, c_OtherLetters⟩ | 5, _ => ⟨N5, c_TooMany⟩ | 6, _ => ⟨N6, c_BadRow⟩ | 7, _ => ⟨N7, c_TooLong⟩ | 8, _ => ⟨N8, c_NotClosed⟩ | 9, _ => ⟨N9, c_NotCalm⟩ | 10, _ => ⟨N10, c_NoName⟩ | 11, _ => ⟨N11, c_NoRow⟩ | n + 12, h => absurd h (by omega)
  have xi : ∀ i, i < 12 → XI K (cl i) := fun i hi => match i, hi with | 0, _ => ⟨cc0, ob0⟩ | 1, _ => ⟨cc1, ob1⟩ | 2, _ => ⟨cc2, ob2⟩ | 3, _ => ⟨cc3, ob3⟩ | 4, _ => ⟨cc4, ob4⟩ | 5, _ => ⟨cc5, ob5⟩ | 6, _ => ⟨cc6, ob6⟩ | 7, _ => ⟨cc7, ob7⟩ | 8, _ => ⟨cc8, ob8⟩ | 9, _ => ⟨cc9, ob9⟩ | 10, _ => ⟨cc10, ob10⟩ | 11, _ => ⟨cc11, ob11⟩ | n + 12, h => absurd h (by omega)
  have tcl : TCl K mg cl D := ⟨n_isinstance, n_ValueError, m_CalmError, m_BadLetters, m_BadRoom, m_NoLetter, m_BadText, m_OtherLetters, m_TooMany, m_BadRow, m_TooLong, m_NotClosed, m_NotCalm, m_NoName, m_NoRow, kt, kD, kV, xc, xi⟩
  have F_BadRoom := fun_mk (st := s_BadRoom__init__) lf1 cf1 kq1
  have b_BadRoom := F_BadRoom.binds (ps := ["self", "room"]) fun _ _ _ _ _ _ us hl => match us, hl with | [_, _], _ => rfl
  have G_BadRoom := ok_BadRoom__init__ (P := l.prog) (w := w) (base := base) F_BadRoom ⟨m_CalmError, xd⟩
  have F_NoLetter := fun_mk (st := s_NoLetter__init__) lf2 cf2 kq2
  have b_NoLetter := F_NoLetter.binds (ps := ["self", "at"]) fun _ _ _ _ _ _ us hl => match us, hl with | [_, _], _ => rfl
  have G_NoLetter := ok_NoLetter__init__ (P := l.prog) (w := w) (base := base) F_NoLetter ⟨m_CalmError, xd⟩
  have F_BadText := fun_mk (st := s_BadText__init__) lf3 cf3 kq3
  have b_BadText := F_BadText.binds (ps := ["self", "at"]) fun _ _ _ _ _ _ us hl => match us, hl with | [_, _], _ => rfl
  have G_BadText := ok_BadText__init__ (P := l.prog) (w := w) (base := base) F_BadText ⟨m_CalmError, xd⟩
  have F_TooMany := fun_mk (st := s_TooMany__init__) lf5 cf5 kq5
  have b_TooMany := F_TooMany.binds (ps := ["self", "at"]) fun _ _ _ _ _ _ us hl => match us, hl with | [_, _], _ => rfl
  have G_TooMany := ok_TooMany__init__ (P := l.prog) (w := w) (base := base) F_TooMany ⟨m_CalmError, xd⟩
  have F_BadRow := fun_mk (st := s_BadRow__init__) lf6 cf6 kq6
  have b_BadRow := F_BadRow.binds (ps := ["self", "at"]) fun _ _ _ _ _ _ us hl => match us, hl with | [_, _], _ => rfl
  have G_BadRow := ok_BadRow__init__ (P := l.prog) (w := w) (base := base) F_BadRow ⟨m_CalmError, xd⟩
  have F_NotClosed := fun_mk (st := s_NotClosed__init__) lf8 cf8 kq8
  have b_NotClosed := F_NotClosed.binds (ps := ["self", "names"]) fun _ _ _ _ _ _ us hl => match us, hl with | [_, _], _ => rfl
  have G_NotClosed := ok_NotClosed__init__ (P := l.prog) (w := w) (base := base) F_NotClosed ⟨m_CalmError, xd⟩
  have F_NoName := fun_mk (st := s_NoName__init__) lf10 cf10 kq10
  have b_NoName := F_NoName.binds (ps := ["self", "name"]) fun _ _ _ _ _ _ us hl => match us, hl with | [_, _], _ => rfl
  have G_NoName := ok_NoName__init__ (P := l.prog) (w := w) (base := base) F_NoName ⟨m_CalmError, xd⟩
  have tall : TAll K mg cl nn fi D := ⟨tcl, c_BadLetters, in0, c_BadRoom, in1, ⟨_, lf1, rfl⟩, qf1, c_NoLetter, in2, ⟨_, lf2, rfl⟩, qf2, c_BadText, in3, ⟨_, lf3, rfl⟩, qf3, c_OtherLetters, in4, c_TooMany, in5, ⟨_, lf5, rfl⟩, qf5, c_BadRow, in6, ⟨_, lf6, rfl⟩, qf6, c_TooLong, in7, c_NotClosed, in8, ⟨_, lf8, rfl⟩, qf8, c_NotCalm, in9, c_NoName, in10, ⟨_, lf10, rfl⟩, qf10, c_NoRow, in11⟩
  have g1 := ok__law_take (P := l.prog) (w := w) (mg := mg) (base := base) F__law_take
  have g2 := ok__law_text (P := l.prog) (w := w) (base := base) F__law_text ⟨n_len, n_range, m__law_take⟩ F__law_take b__law_take g1
  have g3 := ok__law_kinds (P := l.prog) (w := w) (base := base) F__law_kinds tcl
  have g4 := ok__law_right (P := l.prog) (w := w) (base := base) F__law_right ⟨tcl, n_range, m__law_kinds⟩ F__law_kinds b__law_kinds g3
  have g5 := ok__law_all_made (P := l.prog) (w := w) (base := base) F__law_all_made tall G_BadRoom b_BadRoom G_NoLetter b_NoLetter G_BadText b_BadText G_TooMany b_TooMany G_BadRow b_BadRow G_NotClosed b_NotClosed G_NoName b_NoName
  have g6 := ok__law_fields (P := l.prog) (w := w) (base := base) F__law_fields ⟨tall, n_repr⟩
  have g7 := ok__law_drawn (P := l.prog) (w := w) (base := base) F__law_drawn ⟨n_tuple, n_range, m__law_take, m__law_text⟩ F__law_take b__law_take g1 F__law_text b__law_text g2
  exact ok_law F_law ⟨n_len, n_range, m__law_box, m__law_drawn, m__law_all_made, m__law_right, m__law_fields⟩ F__law_box b__law_box (ok__law_box F__law_box ⟨n_len, n_int⟩) F__law_drawn b__law_drawn g7 F__law_all_made b__law_all_made g5 F__law_right b__law_right g4 F__law_fields b__law_fields g6
theorem walk {l : PySem.W.OpenLaw} {q : Program} {loose : List Str} {XP : (Str → Option Value) → Heap → Prop} {YP : World → Heap → Prop} {d : DefRec} {K : Params → PySem.W.Frag} (hn : l.most = some 63) (hdf : d.params.defaults = [])
    (hY : ∀ (w : World) (h : Heap), YP w h → (K w.params).In h)
    (F : ∀ (w : World) (mg : Str → Option Value) (fa : Addr) (h : Heap), (K w.params).In h → h.Ns mainGlobals mg → mg d.name = some (.ref fa) →
      ∃ fd : FuncData, (∀ (s : Shared) (u : Value), BindsTo s fd ⟨[u], []⟩ [("_law_script", u)]) ∧ ∀ base : Heap, (K w.params).In base → base.Ns mainGlobals mg → FnOk l.prog w (K w.params) mg base CX0 4 fa fd ["_law_script"] (spLaw (K w.params))) :
    PySem.W.WalkO q loose XP YP l.row.toRowW d [] (fun f vs => PySem.call f vs) :=
  L2.walk_of (n := 63) (k := 4) (x := "_law_script") (CX := fun _ => CX0) (sp := fun w => spLaw (K w.params)) hn (by decide) hdf ⟨rfl, by decide, by decide, rfl⟩ hY F (fun _ _ a ns hl _ hS => ⟨a, ns, rfl, hS, hl, fun _ => rfl⟩) fun _ _ _ _ _ z => z
end My
open PySem PySem.W PyProof.Rows
set_option maxRecDepth 100000 in
set_option maxHeartbeats 0 in
theorem PySem.Challenge.cw_calmword_k99_refusals_made_holds : PySem.Challenge.rw_calmword_k99_refusals_made.Holds := by
  w_on; o_law; k_head; (case hw => w_witness2)
  k_fill
  refine My.walk (l := PySem.Challenge.rw_calmword_k99_refusals_made) rfl rfl (fun w h Y => PySem.W.kIn_of Y) ?F
  case F =>
    intro w mg fa h KX G hmg
    refine' My.all_mk KX G hmg ?a1 ?l1 ?c1 ?k1 ?a2 ?l2 ?c2 ?k2 ?a3 ?l3 ?c3 ?k3 ?a4 ?l4 ?c4 ?k4 ?a5 ?l5 ?c5 ?k5 ?a6 ?l6 ?c6 ?k6 ?a7 ?l7 ?c7 ?k7 ?a8 ?l8 ?c8 ?k8 ?a9 ?l9 ?c9 ?k9 ?z_len ?z_int ?z_range ?z_tuple ?z_repr ?z_isinstance ?z_ValueError ?aD ?lD ?lnD ?eoD ?inD ?spD ?rdD ?fcD ?ac0 ?lc0 ?ln0 ?eo0 ?ty0 ?sa0 ?ga0 ?gx0 ?kp0 ?cc0 ?ob0 ?in0 ?ac1 ?lc1 ?ln1 ?eo1 ?ty1 ?sa1 ?ga1 ?gx1 ?kp1 ?cc1 ?ob1 ?in1 ?lf1 ?cf1 ?kq1 ?qf1 ?ac2 ?lc2 ?ln2 ?eo2 ?ty2 ?sa2 ?ga2 ?gx2 ?kp2 ?cc2 ?ob2 ?in2 ?lf2 ?cf2 ?kq2 ?qf2 ?ac3 ?lc3 ?ln3 ?eo3 ?ty3 ?sa3 ?ga3 ?gx3 ?kp3 ?cc3 ?ob3 ?in3 ?lf3 ?cf3 ?kq3 ?qf3 ?ac4 ?lc4 ?ln4 ?eo4 ?ty4 ?sa4 ?ga4 ?gx4 ?kp4 ?cc4 ?ob4 ?in4 ?ac5 ?lc5 ?ln5 ?eo5 ?ty5 ?sa5 ?ga5 ?gx5 ?kp5 ?cc5 ?ob5 ?in5 ?lf5 ?cf5 ?kq5 ?qf5 ?ac6 ?lc6 ?ln6 ?eo6 ?ty6 ?sa6 ?ga6 ?gx6 ?kp6 ?cc6 ?ob6 ?in6 ?lf6 ?cf6 ?kq6 ?qf6 ?ac7 ?lc7 ?ln7 ?eo7 ?ty7 ?sa7 ?ga7 ?gx7 ?kp7 ?cc7 ?ob7 ?in7 ?ac8 ?lc8 ?ln8 ?eo8 ?ty8 ?sa8 ?ga8 ?gx8 ?kp8 ?cc8 ?ob8 ?in8 ?lf8 ?cf8 ?kq8 ?qf8 ?ac9 ?lc9 ?ln9 ?eo9 ?ty9 ?sa9 ?ga9 ?gx9 ?kp9 ?cc9 ?ob9 ?in9 ?ac10 ?lc10 ?ln10 ?eo10 ?ty10 ?sa10 ?ga10 ?gx10 ?kp10 ?cc10 ?ob10 ?in10 ?lf10 ?cf10 ?kq10 ?qf10 ?ac11 ?lc11 ?ln11 ?eo11 ?ty11 ?sa11 ?ga11 ?gx11 ?kp11 ?cc11 ?ob11 ?in11 ?apart ?tyD
    (case a1 => k_is)
    (case l1 => k_is)
    (case c1 => k_is)
    (case k1 => k_is)
    (case a2 => k_is)
    (case l2 => k_is)
    (case c2 => k_is)
    (case k2 => k_is)
    (case a3 => k_is)
    (case l3 => k_is)
    (case c3 => k_is)
    (case k3 => k_is)
    (case a4 => k_is)
    (case l4 => k_is)
    (case c4 => k_is)
    (case k4 => k_is)
    (case a5 => k_is)
    (case l5 => k_is)
    (case c5 => k_is)
    (case k5 => k_is)
    (case a6 => k_is)
    (case l6 => k_is)
    (case c6 => k_is)
    (case k6 => k_is)
    (case a7 => k_is)
    (case l7 => k_is)
    (case c7 => k_is)
    (case k7 => k_is)
    (case a8 => k_is)
    (case l8 => k_is)
    (case c8 => k_is)
    (case k8 => k_is)
    (case a9 => k_is)
    (case l9 => k_is)
    (case c9 => k_is)
    (case k9 => k_is)
    (case z_len => k_is)
    (case z_int => k_is)
    (case z_range => k_is)
    (case z_tuple => k_is)
    (case z_repr => k_is)
    (case z_isinstance => k_is)
    (case z_ValueError => k_is)
    (case aD => k_is)
    (case lD => k_is)
    (case lnD => k_is)
    (case eoD => first | (simp; done) | rfl)
    (case inD => k_is)
    (case spD => k_is)
    (case rdD => k_is)
    (case fcD => k_is)
    (case ac0 => k_is)
    (case lc0 => k_is)
    (case ln0 => k_is)
    (case eo0 => first | (simp; done) | rfl)
    (case ty0 => k_is)
    (case sa0 => k_is)
    (case ga0 => k_is)
    (case gx0 => k_is)
    (case kp0 => k_is)
    (case cc0 => k_is)
    (case ob0 => k_is)
    (case in0 => k_is)
    (case ac1 => k_is)
    (case lc1 => k_is)
    (case ln1 => k_is)
    (case eo1 => first | (simp; done) | rfl)
    (case ty1 => k_is)
    (case sa1 => k_is)
    (case ga1 => k_is)
    (case gx1 => k_is)
    (case kp1 => k_is)
    (case cc1 => k_is)
    (case ob1 => k_is)
    (case in1 => k_is)
    (case lf1 => k_is)
    (case cf1 => k_is)
    (case kq1 => k_is)
    (case qf1 => k_is)
    (case ac2 => k_is)
    (case lc2 => k_is)
    (case ln2 => k_is)
    (case eo2 => first | (simp; done) | rfl)
    (case ty2 => k_is)
    (case sa2 => k_is)
    (case ga2 => k_is)
    (case gx2 => k_is)
    (case kp2 => k_is)
    (case cc2 => k_is)
    (case ob2 => k_is)
    (case in2 => k_is)
    (case lf2 => k_is)
    (case cf2 => k_is)
    (case kq2 => k_is)
    (case qf2 => k_is)
    (case ac3 => k_is)
    (case lc3 => k_is)
    (case ln3 => k_is)
    (case eo3 => first | (simp; done) | rfl)
    (case ty3 => k_is)
    (case sa3 => k_is)
    (case ga3 => k_is)
    (case gx3 => k_is)
    (case kp3 => k_is)
    (case cc3 => k_is)
    (case ob3 => k_is)
    (case in3 => k_is)
    (case lf3 => k_is)
    (case cf3 => k_is)
    (case kq3 => k_is)
    (case qf3 => k_is)
    (case ac4 => k_is)
    (case lc4 => k_is)
    (case ln4 => k_is)
    (case eo4 => first | (simp; done) | rfl)
    (case ty4 => k_is)
    (case sa4 => k_is)
    (case ga4 => k_is)
    (case gx4 => k_is)
    (case kp4 => k_is)
    (case cc4 => k_is)
    (case ob4 => k_is)
    (case in4 => k_is)
    (case ac5 => k_is)
    (case lc5 => k_is)
    (case ln5 => k_is)
    (case eo5 => first | (simp; done) | rfl)
    (case ty5 => k_is)
    (case sa5 => k_is)
    (case ga5 => k_is)
    (case gx5 => k_is)
    (case kp5 => k_is)
    (case cc5 => k_is)
    (case ob5 => k_is)
    (case in5 => k_is)
    (case lf5 => k_is)
    (case cf5 => k_is)
    (case kq5 => k_is)
    (case qf5 => k_is)
    (case ac6 => k_is)
    (case lc6 => k_is)
    (case ln6 => k_is)
    (case eo6 => first | (simp; done) | rfl)
    (case ty6 => k_is)
    (case sa6 => k_is)
    (case ga6 => k_is)
    (case gx6 => k_is)
    (case kp6 => k_is)
    (case cc6 => k_is)
    (case ob6 => k_is)
    (case in6 => k_is)
    (case lf6 => k_is)
    (case cf6 => k_is)
    (case kq6 => k_is)
    (case qf6 => k_is)
    (case ac7 => k_is)
    (case lc7 => k_is)
    (case ln7 => k_is)
    (case eo7 => first | (simp; done) | rfl)
    (case ty7 => k_is)
    (case sa7 => k_is)
    (case ga7 => k_is)
    (case gx7 => k_is)
    (case kp7 => k_is)
    (case cc7 => k_is)
    (case ob7 => k_is)
    (case in7 => k_is)
    (case ac8 => k_is)
    (case lc8 => k_is)
    (case ln8 => k_is)
    (case eo8 => first | (simp; done) | rfl)
    (case ty8 => k_is)
    (case sa8 => k_is)
    (case ga8 => k_is)
    (case gx8 => k_is)
    (case kp8 => k_is)
    (case cc8 => k_is)
    (case ob8 => k_is)
    (case in8 => k_is)
    (case lf8 => k_is)
    (case cf8 => k_is)
    (case kq8 => k_is)
    (case qf8 => k_is)
    (case ac9 => k_is)
    (case lc9 => k_is)
    (case ln9 => k_is)
    (case eo9 => first | (simp; done) | rfl)
    (case ty9 => k_is)
    (case sa9 => k_is)
    (case ga9 => k_is)
    (case gx9 => k_is)
    (case kp9 => k_is)
    (case cc9 => k_is)
    (case ob9 => k_is)
    (case in9 => k_is)
    (case ac10 => k_is)
    (case lc10 => k_is)
    (case ln10 => k_is)
    (case eo10 => first | (simp; done) | rfl)
    (case ty10 => k_is)
    (case sa10 => k_is)
    (case ga10 => k_is)
    (case gx10 => k_is)
    (case kp10 => k_is)
    (case cc10 => k_is)
    (case ob10 => k_is)
    (case in10 => k_is)
    (case lf10 => k_is)
    (case cf10 => k_is)
    (case kq10 => k_is)
    (case qf10 => k_is)
    (case ac11 => k_is)
    (case lc11 => k_is)
    (case ln11 => k_is)
    (case eo11 => first | (simp; done) | rfl)
    (case ty11 => k_is)
    (case sa11 => k_is)
    (case ga11 => k_is)
    (case gx11 => k_is)
    (case kp11 => k_is)
    (case cc11 => k_is)
    (case ob11 => k_is)
    (case in11 => k_is)
    (case apart => first | decide | (simp; done))
    (case tyD => k_is)
