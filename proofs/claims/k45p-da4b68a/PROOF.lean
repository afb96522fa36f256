import PyProof.Rows.All
import Wide.All
import OpenK.AllK
import Wide.FinOn
import Lean
import PyProof.EqAt
import PyProof.EqKinds
import PyProof.TupleCall
import PySem.Challenge.RW_calmword_k45_texts_that_are_too_long
set_option Elab.async false
set_option linter.all false
set_option maxRecDepth 100000
namespace L2
open PySem PySem.Spec PyProof.Rows
abbrev Key := Sum Int Str
def keyIs : Key → Value → Bool
  | .inl k, v => Value.isInt k v
  | .inr x, v => Value.isStrOf x v
def keyH (w : World) : Key → Int
  | .inl k => hashInt k
  | .inr x => hashStr w x
theorem keyIs_shape : ∀ {k : Key} {v : Value}, keyIs k v = true → (∃ i t, k = Sum.inl i ∧ v = Value.int i t) ∨ (∃ x t, k = Sum.inr x ∧ v = Value.str x t)
  | .inl i, v, h => by
    obtain ⟨t, e⟩ := Value.isInt_shape (k := i) (v := v) h
    exact .inl ⟨i, t, rfl, e⟩
  | .inr x, v, h => by
    obtain ⟨t, e⟩ := Value.isStrOf_shape (x := x) (v := v) h
    exact .inr ⟨x, t, rfl, e⟩
theorem keyIs_int (i : Int) (t : Tok) : keyIs (.inl i) (.int i t) = true := by simp [keyIs, Value.isInt]
theorem keyIs_str (x : Str) (t : Tok) : keyIs (.inr x) (.str x t) = true := by simp [keyIs, Value.isStrOf]
theorem key_ll (a b : Int) : decide ((Sum.inl a : Key) = Sum.inl b) = (a == b) := by
  by_cases e : a = b
  · subst e; simp
  · have h : ¬ (Sum.inl a : Key) = Sum.inl b := fun q => e (Sum.inl.inj q)
    rw [decide_eq_false h]
    exact (beq_eq_false_iff_ne.mpr e).symm
theorem key_rr (a b : Str) : decide ((Sum.inr a : Key) = Sum.inr b) = decide (a = b) := by
  by_cases e : a = b
  · subst e; simp
  · have h : ¬ (Sum.inr a : Key) = Sum.inr b := fun q => e (Sum.inr.inj q)
    rw [decide_eq_false h, decide_eq_false e]
theorem key_lr (a : Int) (b : Str) : decide ((Sum.inl a : Key) = Sum.inr b) = false := decide_eq_false (fun q => nomatch q)
theorem key_rl (a : Str) (b : Int) : decide ((Sum.inr a : Key) = Sum.inl b) = false := decide_eq_false (fun q => nomatch q)
def mixKind (prog : Program) (w : World) : PySem.KeyKind prog w Key where
  is := keyIs
  hash := keyH w
  inj := fun v a b ha hb => by
    rcases keyIs_shape ha with ⟨i, t, rfl, rfl⟩ | ⟨x, t, rfl, rfl⟩
    · rcases keyIs_shape hb with ⟨j, u, rfl, e⟩ | ⟨y, u, rfl, e⟩
      · injection e with e1 _; rw [e1]
      · exact nomatch e
    · rcases keyIs_shape hb with ⟨j, u, rfl, e⟩ | ⟨y, u, rfl, e⟩
      · exact nomatch e
      · injection e with e1 _; rw [e1]
  byValue := fun k v h => by
    rcases keyIs_shape h with ⟨i, t, rfl, rfl⟩ | ⟨x, t, rfl, rfl⟩ <;> rfl
  pyHash := fun hv h => by
    rcases keyIs_shape hv with ⟨i, t, rfl, rfl⟩ | ⟨x, t, rfl, rfl⟩
    · exact wpAny_pyHash_int h
    · exact wpAny_pyHash_str h
  eqBool := fun hu hv h => by
    rcases keyIs_shape hu with ⟨i, t, rfl, rfl⟩ | ⟨x, t, rfl, rfl⟩
    · rcases keyIs_shape hv with ⟨j, u, rfl, rfl⟩ | ⟨y, u, rfl, rfl⟩
      · rw [key_ll] at h; exact wpAny_eqBool_int h
      · rw [key_lr] at h; exact SeqAt.EqAt.int_str i t y u _ _ _ _ h
    · rcases keyIs_shape hv with ⟨j, u, rfl, rfl⟩ | ⟨y, u, rfl, rfl⟩
      · rw [key_rl] at h; exact SeqAt.EqAt.str_int x t j u _ _ _ _ h
      · rw [key_rr] at h; exact wpAny_eqBool_str h
  «strs» := fun k x t v h => by
    rcases keyIs_shape h with ⟨i, u, rfl, e⟩ | ⟨y, u, rfl, e⟩
    · exact nomatch e
    · injection e with e1 _
      subst e1
      cases v <;> rfl
theorem mixKind_int (prog : Program) (w : World) (i : Int) (t : Tok) : (mixKind prog w).is (.inl i) (.int i t) = true := keyIs_int i t
theorem mixKind_str (prog : Program) (w : World) (x : Str) (t : Tok) : (mixKind prog w).is (.inr x) (.str x t) = true := keyIs_str x t
end L2
namespace L2
open PySem PySem.Spec PyProof.Rows
inductive V where
  | non | bl (b : Bool) | int (i : Int) | str (x : Str) | byt (b : Array UInt8) | flt (b : UInt64) | ref (a : Addr) | ty (n : String)
  deriving DecidableEq
def RelV : V → Value → Prop
  | .non, u => u = Value.none
  | .bl b, u => u = Value.bool b
  | .int i, u => ∃ t, u = Value.int i t
  | .str x, u => ∃ t, u = Value.str x t
  | .byt b, u => ∃ t, u = Value.bytes b t
  | .flt b, u => ∃ t, u = Value.float b t
  | .ref a, u => u = Value.ref a
  | .ty n, u => u = Value.type n
abbrev Vals : List V → List Value → Prop := Paired RelV
theorem Vals.length {xs : List V} {us : List Value} (r : Vals xs us) : xs.length = us.length := Paired.length r
theorem Vals.get : ∀ {xs : List V} {us : List Value} {i : Nat} {x : V}, Vals xs us → xs[i]? = some x → ∃ u, us[i]? = some u ∧ RelV x u
  | _, _, _, _, .nil, e => by simp at e
  | _, _, 0, _, .cons r _, e => by simp at e; subst e; exact ⟨_, rfl, r⟩
  | _, _, i + 1, x, .cons _ t, e => by
    obtain ⟨u, h1, h2⟩ := Vals.get (i := i) (x := x) t (by simpa using e)
    exact ⟨u, by simpa using h1, h2⟩
theorem Vals.set {x : V} {u : Value} (r : RelV x u) : ∀ {xs : List V} {us : List Value} (i : Nat), Vals xs us → Vals (xs.set i x) (us.set i u)
  | _, _, _, .nil => .nil
  | _, _, 0, .cons _ t => .cons r t
  | _, _, i + 1, .cons q t => .cons q (Vals.set r i t)
theorem Vals.append : ∀ {xs ys : List V} {us ws : List Value}, Vals xs us → Vals ys ws → Vals (xs ++ ys) (us ++ ws)
  | _, _, _, _, .nil, s => s
  | _, _, _, _, .cons r t, s => .cons r (Vals.append t s)
theorem Vals.take : ∀ {xs : List V} {us : List Value} (n : Nat), Vals xs us → Vals (xs.take n) (us.take n)
  | _, _, 0, _ => .nil
  | _, _, _ + 1, .nil => .nil
  | _, _, n + 1, .cons r t => .cons r (Vals.take n t)
theorem Vals.drop : ∀ {xs : List V} {us : List Value} (n : Nat), Vals xs us → Vals (xs.drop n) (us.drop n)
  | _, _, 0, r => r
  | _, _, _ + 1, .nil => .nil
  | _, _, n + 1, .cons _ t => Vals.drop n t
def RelO : Option V → Option Value → Prop
  | some v, some u => RelV v u
  | none, none => True
  | _, _ => False
def KV {κ : Type} : List (κ × V) → List (κ × Value) → Prop := Paired fun (p : κ × V) (q : κ × Value) => p.1 = q.1 ∧ RelV p.2 q.2
def kV : Key → V
  | .inl i => .int i
  | .inr x => .str x
inductive HO where
    | lst (xs : List V)
    | tup (xs : List V)
    | dK (kvs : List (Key × V)) | dT (kvs : List (List Key × V))
    | set (S : Int → Bool) (n : Nat)
    | ins (C dx : Addr) (fs : List (Str × V))
    | own (x : Addr)
    | xd (fs : List (Str × V))
    | met (f x : Addr)
    | rng (lo hi : Int)
    | frz (o : Obj) (u : HO)
    | tbl (ps : Array Value)
    | ext (φ : Heap → Prop)
abbrev Hp := Addr → Option HO
def upd (H : Hp) (a : Addr) (o : HO) : Hp := fun b => if b = a then some o else H b
theorem upd_same {H : Hp} {a : Addr} {o : HO} : upd H a o a = some o := by unfold upd; rw [if_pos rfl]
theorem upd_ne {H : Hp} {a b : Addr} {o : HO} (h : b ≠ a) : upd H a o b = H b := by unfold upd; rw [if_neg h]
theorem upd_upd {H : Hp} {a : Addr} {o u : HO} : upd (upd H a o) a u = upd H a u := by
  funext b; unfold upd; split <;> rfl
theorem ne_of {H : Hp} {a b : Addr} {o u : HO} (h : H a = some o) (h' : H b = some u) (d : o ≠ u) : a ≠ b := by
  intro e; subst e; rw [h] at h'; exact d (Option.some.inj h')
theorem ne_of_none {H : Hp} {a b : Addr} {o : HO} (h : H a = some o) (h' : H b = none) : a ≠ b := by
  intro e; subst e; rw [h] at h'; cases h'
section
variable (P : Program) (w : World)
def ObjOk (H : Hp) (h : Heap) (a : Addr) : HO → Prop
  | .lst xs => xs.length ≤ sizeLine ∧ ∃ (its : List Value) (n : Nat), Vals xs its ∧ h.get? a = some { cls := .type "list", data := .seq its.toArray n }
  | .tup xs => xs.length ≤ sizeLine ∧ ∃ its : List Value, Vals xs its ∧ IsTup h a its.toArray
  | .dK kvs => kvs.length ≤ sizeLine ∧ (a == sysModules) = false ∧ ∃ vs, KV kvs vs ∧ h.DictOf (mixKind P w) a vs
  | .dT kvs => kvs.length ≤ sizeLine ∧ (a == sysModules) = false ∧ ∃ xs : List (List Key × Addr × Value),
      Paired (fun (p : List Key × V) (q : List Key × Addr × Value) => p.1 = q.1 ∧ H q.2.1 = some (.tup (p.1.map kV)) ∧ RelV p.2 q.2.2) kvs xs ∧
      ∃ o es ep, h.get? a = some o ∧ o.ExactDict ∧ o.data = .dict es ep ∧ es.toList = xs.map (entryOfKey (tupleKind (mixKind P w))) ∧ (xs.map (·.1)).Nodup
  | .set S n => h.SetOf (intKind P w) a S n
  | .ins C dx fs => H dx = some (.own a) ∧ fs.length ≤ 1000 ∧ dx ≠ a ∧ h.get? a = some (PySem.W.instObj C dx) ∧
      ∃ mA, h.Ns1 dx mA ∧ (∀ f, RelO (fs.lookup f) (mA f)) ∧ PySem.Within mA (fs.map (·.1))
  | .own _ => ∃ o, h.get? a = some o
  | .xd fs => ∃ mA, h.Ns1 a mA ∧ ∀ f, RelO (fs.lookup f) (mA f)
  | .rng lo hi => ∃ t u v, h.get? a = some { cls := .type "range", data := .fields #[.int lo t, .int hi u, .int 1 v] }
  | .frz o u => h.get? a = some o ∧ ObjOk H h a u
  | .tbl ps => h.get? a = some { cls := .none, data := .fields ps }
  | .met f x => h.get? a = some (PySem.W.methodObj (.ref f) (.ref x))
  | .ext φ => φ h ∧ (∃ o, h.get? a = some o) ∧ ∀ h1 h2 : Heap, φ h1 → (∀ o, h1.get? a = some o → h2.get? a = some o) → φ h2
def HOk (H : Hp) (h : Heap) : Prop := ∀ a o, H a = some o → ObjOk P w H h a o
end
section
variable {P : Program} {w : World} {H H' : Hp} {h h' : Heap} {a : Addr} {o : HO}
theorem ObjOk.lt (x : ObjOk P w H h a o) : a < h.objs.size := by
  cases o with
  | lst xs => obtain ⟨_, _, _, _, e⟩ := x; exact Heap.lt_size e
  | tup xs => obtain ⟨_, _, _, p⟩ := x; exact p.lt
  | dK kvs => obtain ⟨_, _, _, _, o, _, _, e, _⟩ := x; exact Heap.lt_size e
  | dT kvs => obtain ⟨_, _, _, _, o, _, _, e, _⟩ := x; exact Heap.lt_size e
  | set S n => obtain ⟨o, _, _, _, e, _⟩ := x; exact Heap.lt_size e
  | ins C dx fs => obtain ⟨_, _, _, e, _⟩ := x; exact Heap.lt_size e
  | own y => obtain ⟨_, e⟩ := x; exact Heap.lt_size e
  | xd fs => obtain ⟨_, ⟨_, _, _, e, _⟩, _⟩ := x; exact Heap.lt_size e
  | rng lo hi => obtain ⟨_, _, _, e⟩ := x; exact Heap.lt_size e
  | frz ob u => obtain ⟨e, _⟩ := x; exact Heap.lt_size e
  | tbl ps => exact Heap.lt_size (show h.get? a = some _ from x)
  | met f y => exact Heap.lt_size (show h.get? a = some _ from x)
  | ext φ => obtain ⟨_, ⟨_, e⟩, _⟩ := x; exact Heap.lt_size e
theorem Paired.mapP {α β : Type} {F G : α → β → Prop} : ∀ {l₁ : List α} {l₂ : List β}, Paired F l₁ l₂ → (∀ a b, F a b → G a b) → Paired G l₁ l₂
  | _, _, .nil, _ => .nil
  | _, _, .cons r t, f => .cons (f _ _ r) (Paired.mapP t f)
theorem ObjOk.stay (x : ObjOk P w H h a o) (k : ∀ b u, (b = a ∨ H b = some (.own a)) → h.get? b = some u → h'.get? b = some u)
    (ho : ∀ b, H b = some (.own a) → H' b = some (.own a)) (ht : ∀ b xs, H b = some (.tup xs) → H' b = some (.tup xs)) : ObjOk P w H' h' a o := by
  induction o with
  | lst xs => obtain ⟨z, its, n, r, e⟩ := x; exact ⟨z, its, n, r, k _ _ (.inl rfl) e⟩
  | tup xs => obtain ⟨z, its, r, ob, e, c⟩ := x; exact ⟨z, its, r, ob, k _ _ (.inl rfl) e, c⟩
  | dK kvs => obtain ⟨z, y, vs, r, ob, es, ep, e, c⟩ := x; exact ⟨z, y, vs, r, ob, es, ep, k _ _ (.inl rfl) e, c⟩
  | dT kvs =>
    obtain ⟨z, y, xs, r, ob, es, ep, e, c⟩ := x
    exact ⟨z, y, xs, Paired.mapP r fun p q z => ⟨z.1, ht _ _ z.2.1, z.2.2⟩, ob, es, ep, k _ _ (.inl rfl) e, c⟩
  | set S n => obtain ⟨ob, es, ep, t, e, c⟩ := x; exact ⟨ob, es, ep, t, k _ _ (.inl rfl) e, c⟩
  | ins C dx fs =>
    obtain ⟨d, z, ne, e, mA, ⟨od, es, ep, e2, c⟩, r⟩ := x
    exact ⟨ho _ d, z, ne, k _ _ (.inl rfl) e, mA, ⟨od, es, ep, k _ _ (.inr d) e2, c⟩, r⟩
  | own y => obtain ⟨ob, e⟩ := x; exact ⟨ob, k _ _ (.inl rfl) e⟩
  | xd fs => obtain ⟨mA, ⟨od, es, ep, e, c⟩, r⟩ := x; exact ⟨mA, ⟨od, es, ep, k _ _ (.inl rfl) e, c⟩, r⟩
  | rng lo hi => obtain ⟨t, u, v, e⟩ := x; exact ⟨t, u, v, k _ _ (.inl rfl) e⟩
  | frz ob u ih => obtain ⟨e, q⟩ := x; exact ⟨k _ _ (.inl rfl) e, ih q⟩
  | tbl ps =>
    have e : h.get? a = some { cls := .none, data := .fields ps } := x
    show h'.get? a = some { cls := .none, data := .fields ps }
    exact k a _ (.inl rfl) e
  | met f y =>
    have e : h.get? a = some (PySem.W.methodObj (.ref f) (.ref y)) := x
    show h'.get? a = some (PySem.W.methodObj (.ref f) (.ref y))
    exact k a _ (.inl rfl) e
  | ext φ => obtain ⟨p, ⟨o, e⟩, st⟩ := x; exact ⟨st _ _ p fun o q => k _ _ (.inl rfl) q, ⟨o, k _ _ (.inl rfl) e⟩, st⟩
theorem HOk.lt (x : HOk P w H h) (e : H a = some o) : a < h.objs.size := (x a o e).lt
theorem HOk.fresh (x : HOk P w H h) (e : h.objs.size ≤ a) : H a = none := by
  cases q : H a with
  | none => rfl
  | some u => exact absurd (Nat.lt_of_lt_of_le (x.lt q) e) (Nat.lt_irrefl _)
theorem HOk.kept (x : HOk P w H h) (k : ∀ b u, h.get? b = some u → h'.get? b = some u) : HOk P w H h' := fun a o e =>
  (x a o e).stay (fun b u _ q => k b u q) (fun _ q => q) fun _ _ q => q
theorem HOk.laid (x : HOk P w H h) (k : ∀ b u, h.get? b = some u → h'.get? b = some u) (hp : h.objs.size ≤ a) (new : ObjOk P w (upd H a o) h' a o) : HOk P w (upd H a o) h' := fun b u e => by
  have hn := x.fresh hp
  by_cases hb : b = a
  · subst hb; rw [upd_same] at e; cases e; exact new
  · rw [upd_ne hb] at e
    exact (x b u e).stay (fun c v _ q => k c v q) (fun c q => by rw [upd_ne (ne_of_none q hn)]; exact q) fun c xs q => by rw [upd_ne (ne_of_none q hn)]; exact q
end
def Rd (H : Hp) (a : Addr) (u : HO) : Prop := H a = some u ∨ ∃ o, H a = some (.frz o u)
theorem Rd.ok {P : Program} {w : World} {H : Hp} {h : Heap} {a : Addr} {u : HO} (r : Rd H a u) (x : HOk P w H h) : ObjOk P w H h a u := by
  rcases r with r | ⟨o, r⟩
  · exact x a u r
  · obtain ⟨_, q⟩ := x a _ r
    exact q
def Mut : Option HO → Prop
  | some (.lst _) => True
  | some (.dK _) => True
  | some (.dT _) => True
  | some (.set _ _) => True
  | some (.ins _ _ _) => True
  | some (.ext _) => True
  | _ => False
section
variable {P : Program} {w : World} {H : Hp} {h h' : Heap} {x e : Addr} {o' : HO}
theorem HOk.write (ok : HOk P w H h) (mu : Mut (H x)) (he : e = x ∨ H e = some (.own x)) (k : ∀ b u, b ≠ e → h.get? b = some u → h'.get? b = some u) (heo : ∃ u, h'.get? e = some u)
    (new : ObjOk P w (upd H x o') h' x o') : HOk P w (upd H x o') h' := fun b u q => by
  have nown : ∀ c y, H c = some (.own y) → c ≠ x := fun c y r z => by subst z; rw [r] at mu; exact mu
  have ntup : ∀ c xs, H c = some (.tup xs) → c ≠ x := fun c xs r z => by subst z; rw [r] at mu; exact mu
  by_cases hb : b = x
  · subst hb; rw [upd_same] at q; cases q; exact new
  · rw [upd_ne hb] at q
    by_cases hbe : b = e
    · have q' : H b = some (.own x) := by
        rcases he with z | z
        · exact absurd (hbe.trans z) hb
        · rw [hbe]; exact z
      rw [q] at q'; cases q'
      obtain ⟨v, hv⟩ := heo
      exact ⟨v, by rw [hbe]; exact hv⟩
    · refine (ok b u q).stay (fun c v hc r => k c v ?_ r) (fun c r => by rw [upd_ne (nown c b r)]; exact r) fun c xs r => by rw [upd_ne (ntup c xs r)]; exact r
      rcases hc with rfl | hc
      · exact hbe
      · rintro rfl
        rcases he with z | z
        · exact nown c b hc z
        · rw [hc] at z; cases z; exact hb rfl
end
structure Un (fs ex : List Addr) (H H' : Hp) (h h' : Heap) : Prop where
  keep : ∀ b o, h.get? b = some o → H b = none → b ∉ fs → b ∉ ex → h'.get? b = some o
  slot : ∀ b o, h.get? b = some o → H b = none → b ∈ fs → b ∉ ex → ∃ sl, h'.get? b = some { o with slots := sl }
  free : ∀ b o, h.get? b = some o → H b = none → b ∉ ex → H' b = none
  there : ∀ b o, h.get? b = some o → b ∉ ex → ∃ o', h'.get? b = some o'
  tups : ∀ b xs, H b = some (.tup xs) → H' b = some (.tup xs)
  frzs : ∀ b o u, H b = some (.frz o u) → H' b = some (.frz o u)
  tbls : ∀ b ps, H b = some (.tbl ps) → ∃ more, H' b = some (.tbl (ps ++ more))
section
variable {fs fs' ex ex' : List Addr} {H H1 H2 : Hp} {h h1 h2 h' : Heap} {a x e : Addr} {o : HO}
theorem Un.any (u : Un fs ex H H1 h h1) {b : Addr} {ob : Obj} (q : h.get? b = some ob) (n : H b = none) (hx : b ∉ ex) : ∃ sl, h1.get? b = some { ob with slots := sl } := by
  by_cases hb : b ∈ fs
  · exact u.slot b ob q n hb hx
  · exact ⟨ob.slots, u.keep b ob q n hb hx⟩
theorem Un.kept (k : ∀ b u, h.get? b = some u → h'.get? b = some u) : Un fs ex H H h h' :=
  ⟨fun b ob q _ _ _ => k b ob q, fun b ob q _ _ _ => ⟨ob.slots, k b ob q⟩, fun _ _ _ n _ => n, fun b ob q _ => ⟨ob, k b ob q⟩, fun _ _ q => q, fun _ _ _ q => q, fun _ ps q => ⟨#[], by rw [q]; simp⟩⟩
theorem Un.refl : Un fs ex H H h h := Un.kept fun _ _ q => q
theorem Un.laid (k : ∀ b u, h.get? b = some u → h'.get? b = some u) (hp : h.objs.size ≤ a) (hn : H a = none) : Un fs ex H (upd H a o) h h' where
  keep := fun b u q _ _ _ => k b u q
  slot := fun b u q _ _ _ => ⟨u.slots, k b u q⟩
  free := fun b u q n _ => by rw [upd_ne (Nat.ne_of_lt (Nat.lt_of_lt_of_le (Heap.lt_size q) hp))]; exact n
  there := fun b u q _ => ⟨u, k b u q⟩
  tups := fun b xs q => by rw [upd_ne (ne_of_none q hn)]; exact q
  frzs := fun b u xs q => by rw [upd_ne (ne_of_none q hn)]; exact q
  tbls := fun b ps q => ⟨#[], by rw [upd_ne (ne_of_none q hn), q]; simp⟩
theorem Un.write (mu : Mut (H x)) (he : e = x ∨ H e = some (.own x)) (k : ∀ b u, b ≠ e → h.get? b = some u → h'.get? b = some u) (heo : ∃ u, h'.get? e = some u) : Un fs ex H (upd H x o) h h' := by
  have hx : ∀ b, H b = none → b ≠ x := fun b n z => by subst z; rw [n] at mu; exact mu
  have hb : ∀ b, H b = none → b ≠ e := fun b n z => by
    subst z
    rcases he with r | r
    · exact hx b n r
    · rw [n] at r; cases r
  have hm : ∀ b u, H b = some u → ¬ Mut (some u) → b ≠ x := fun b u q nm z => by subst z; rw [q] at mu; exact nm mu
  refine ⟨fun b u q n _ _ => k b u (hb b n) q, fun b u q n _ _ => ⟨u.slots, k b u (hb b n) q⟩, fun b u q n _ => by rw [upd_ne (hx b n)]; exact n, fun b u q _ => ?_,
    fun b xs q => by rw [upd_ne (hm b _ q fun z => z)]; exact q, fun b u xs q => by rw [upd_ne (hm b _ q fun z => z)]; exact q, fun b ps q => ⟨#[], by rw [upd_ne (hm b _ q fun z => z), q]; simp⟩⟩
  by_cases hbe : b = e
  · subst hbe; exact heo
  · exact ⟨u, k b u hbe q⟩
end
def trk (h : Heap) (H : Hp) : List Addr := (List.range h.objs.size).filter fun a => (H a).isSome
def hidT (h : Heap) (H : Hp) : Heap := PySem.W.hideAll h (trk h H)
theorem hidT_size (h : Heap) (H : Hp) : (hidT h H).objs.size = h.objs.size := PySem.W.hideAll_size _ _
theorem hidT_get {h : Heap} {H : Hp} {b : Addr} {o : Obj} (e : h.get? b = some o) (n : H b = none) : (hidT h H).get? b = some o :=
  PySem.W.hideAll_get _ e fun hm => by
    have q : (H b).isSome = true := (List.mem_filter.mp hm).2
    rw [n] at q; simp at q
theorem of_hidT {h : Heap} {H : Hp} {b : Addr} {o : Obj} (e : (hidT h H).get? b = some o) : h.get? b = some o ∧ H b = none := by
  have e' : h.get? b = some o := PySem.W.of_hideAll (trk h H) e
  refine ⟨e', ?_⟩
  cases q : H b with
  | none => rfl
  | some x =>
    have hm : b ∈ trk h H := List.mem_filter.mpr ⟨List.mem_range.mpr (Heap.lt_size e'), by simp [q]⟩
    have z : (hidT h H).get? b = none := PySem.W.hideAll_none (trk h H) hm
    rw [z] at e; cases e
end L2
namespace L2
open PySem PySem.Spec PyProof.Rows
structure Mod (K : PySem.W.Frag) (mg : Str → Option Value) (base : Heap) : Prop where
  kin : K.In base
  glob : base.Ns mainGlobals mg
  blt : ∃ mb, base.Ns builtinsNs mb ∧ ∀ x : Str, x ≠ "__name__" → mb x = bootBuiltins x
  nolimit : base.NoLimit
structure Cx where
  prog : Program
  w : World
  K : PySem.W.Frag
  mg : Str → Option Value
  base : Heap
  A : Around
  N : List Str
  s₀ : Shared
  H₀ : Hp
  env : Env
  outer : List Env
  stack : List Env
  ex : List Addr
  fn : Str → Bool
  calm : Bool
  pn : List (Addr × Obj)
  xe : Value → Shared → Prop
def frs (l : List Env) : List Addr := l.filterMap (·.frame)
abbrev Cx.fs (X : Cx) : List Addr := frs X.outer
def Vis (sc : Scope) (x : Str) : Prop := sc.names.lookup x = some .local ∨ sc.names.lookup x = some .cell ∨ sc.names.lookup x = some .free
def Loc (sc : Scope) (x : Str) : Prop := sc.names.lookup x = some .local ∨ sc.names.lookup x = some .cell
def Look (env : Env) (h : Heap) (m : Str → Option Value) (x : Str) (u : Value) : Prop :=
  (env.kindOf x = some .local ∧ m x = some u) ∨ ((env.kindOf x = some .cell ∨ env.kindOf x = some .free) ∧ ∃ c, env.cells.lookup x = some c ∧ h.IsCell c (some u))
structure Cx.Ok (X : Cx) : Prop where
  mod : Mod X.K X.mg X.base
  kind : X.env.scope.kind = .function
  glob : X.env.globals = mainGlobals
  blt : X.env.builtins = builtinsNs
  above : X.s₀.heap.objs.size ≤ X.env.locals
  inj : ∀ x y c, X.env.cells.lookup x = some c → X.env.cells.lookup y = some c → x = y
  has : ∀ x, (X.env.kindOf x = some .cell ∨ X.env.kindOf x = some .free) → ∃ c, X.env.cells.lookup x = some c
  cab : ∀ x c, X.fn x = true → X.env.cells.lookup x = some c → X.s₀.heap.objs.size ≤ c
  hd : X.calm = true → X.A.handled = none
  frames : X.A.frames = some X.stack
  stk : X.stack = X.outer ∨ (X.stack = X.env :: X.outer ∧ X.env.frame = some X.env.locals)
  exf : ∀ b ∈ X.ex, b ≠ X.env.locals ∧ ∀ x c, X.env.cells.lookup x = some c → c ≠ b
  bs : ∀ b o, X.base.get? b = some o → X.s₀.heap.get? b = some o ∧ X.H₀ b = none
  bsz : X.base.objs.size ≤ X.s₀.heap.objs.size
  noex : ∀ b o, X.base.get? b = some o → b ∉ X.ex
  exfs : ∀ b ∈ X.ex, b ∉ X.fs
  funs : X.s₀.heap.FunFrames X.base X.outer
  frf : ∀ b ∈ X.fs, X.H₀ b = none
structure Inv (X : Cx) (pins : List (Addr × Obj)) (σ : List (Option V)) (H : Hp) (s : Shared) : Prop where
  ok : X.Ok
  os : s.os = X.s₀.os
  bare : AllBare s.gens
  base : Un X.fs X.ex X.H₀ H X.s₀.heap s.heap
  loc : ∃ m, s.heap.Ns X.env.locals m ∧ ∀ (i : Nat) (x : Str) (v : V), X.N[i]? = some x → σ[i]? = some (some v) → Vis X.env.scope x → ∃ u, RelV v u ∧ Look X.env s.heap m x u
  cell : ∀ x c, X.env.cells.lookup x = some c → ∃ v, s.heap.IsCell c v
  free : H X.env.locals = none
  freeC : ∀ x c, X.env.cells.lookup x = some c → H c = none
  pin : ∀ p ∈ X.pn ++ pins, s.heap.get? p.1 = some p.2 ∧ H p.1 = none ∧ p.1 ≠ X.env.locals ∧ p.1 ∉ X.fs ∧ ∀ v, p.2.data ≠ .cell v
  hok : HOk X.prog X.w H s.heap
  len : σ.length = X.N.length
section
variable {X : Cx} {pins : List (Addr × Obj)} {σ : List (Option V)} {H H' : Hp} {s : Shared} {h' : Heap}
theorem Cx.Ok.nofr (ok : X.Ok) {b : Addr} {o : Obj} (e : X.base.get? b = some o) : b ∉ X.fs := fun hb => by
  have := (ok.funs.mem hb).1
  rw [e] at this; cases this
theorem Inv.bs (I : Inv X pins σ H s) : ∀ b o, X.base.get? b = some o → s.heap.get? b = some o ∧ H b = none := fun b o e =>
  ⟨I.base.keep b o (I.ok.bs b o e).1 (I.ok.bs b o e).2 (I.ok.nofr e) (I.ok.noex b o e), I.base.free b o (I.ok.bs b o e).1 (I.ok.bs b o e).2 (I.ok.noex b o e)⟩
theorem Inv.bk (I : Inv X pins σ H s) : ∀ b o, X.base.get? b = some o → s.heap.get? b = some o := fun b o e => (I.bs b o e).1
theorem Inv.mod (I : Inv X pins σ H s) : Mod X.K X.mg X.base := I.ok.mod
theorem Inv.kIn (I : Inv X pins σ H s) : X.K.In s.heap := I.ok.mod.kin.keeps I.bk
theorem Inv.lt (I : Inv X pins σ H s) : X.env.locals < s.heap.objs.size := let ⟨_, hn, _⟩ := I.loc; hn.lt
theorem Inv.sz (I : Inv X pins σ H s) : X.s₀.heap.objs.size ≤ s.heap.objs.size := Nat.le_trans I.ok.above (Nat.le_of_lt I.lt)
theorem Inv.nofs (I : Inv X pins σ H s) {a : Addr} (h : s.heap.objs.size ≤ a) : a ∉ X.fs := fun hb => by
  obtain ⟨_, o, ho, _⟩ := I.ok.funs.mem hb
  exact absurd (Nat.lt_of_lt_of_le (Heap.lt_size ho) (Nat.le_trans I.sz h)) (Nat.lt_irrefl _)
theorem Inv.cne (I : Inv X pins σ H s) : ∀ x c, X.env.cells.lookup x = some c → c ≠ X.env.locals := fun x c e z => by
  obtain ⟨v, o, ho, hd⟩ := I.cell x c e
  obtain ⟨m, ⟨o', es, ep, ho', hd', _⟩, _⟩ := I.loc
  rw [z, ho'] at ho; cases ho; rw [hd'] at hd; cases hd
theorem Inv.funs (I : Inv X pins σ H s) : s.heap.FunFrames X.base X.outer := by
  have all : ∀ (l : List Env), (∀ b ∈ frs l, b ∈ X.fs) → X.s₀.heap.FunFrames X.base l → s.heap.FunFrames X.base l := by
    intro l
    induction l with
    | nil => intro _ _; trivial
    | cons env r ih =>
      intro hs hl
      obtain ⟨hk, ⟨L, o, hf, hn, ho, hd⟩, hr⟩ := hl
      have hL : L ∈ X.fs := hs L (by unfold frs; rw [List.filterMap_cons, hf]; exact List.mem_cons_self)
      obtain ⟨sl, e⟩ := I.base.slot L o ho (I.ok.frf L hL) hL fun z => I.ok.exfs L z hL
      exact ⟨hk, ⟨L, _, hf, hn, e, hd⟩, ih (fun b hb => hs b (by unfold frs; rw [List.filterMap_cons, hf]; exact List.mem_cons_of_mem _ hb)) hr⟩
  exact all X.outer (fun _ hb => hb) I.ok.funs
theorem Inv.stack (I : Inv X pins σ H s) : s.heap.FunFrames X.base X.stack := by
  rcases I.ok.stk with e | ⟨e, hf⟩
  · rw [e]; exact I.funs
  · rw [e]
    obtain ⟨m, hn, _⟩ := I.loc
    refine .cons (by rw [I.ok.kind]; decide) hf hn ?_ I.funs
    exact Heap.get?_none_of_le (Nat.le_trans I.ok.bsz I.ok.above)
theorem Inv.stkSub (I : Inv X pins σ H s) : ∀ b ∈ frs X.stack, b ∈ X.env.locals :: X.fs := fun b hb => by
  rcases I.ok.stk with e | ⟨e, hf⟩
  · rw [e] at hb; exact List.mem_cons_of_mem _ hb
  · rw [e] at hb
    unfold frs at hb
    rw [List.filterMap_cons, hf] at hb
    exact hb
theorem Inv.stkFree (I : Inv X pins σ H s) : ∀ b ∈ frs X.stack, H b = none := fun b hb => by
  rcases List.mem_cons.mp (I.stkSub b hb) with e | hb
  · rw [e]; exact I.free
  · obtain ⟨_, o, ho, _⟩ := I.ok.funs.mem hb
    exact I.base.free b o ho (I.ok.frf b hb) fun z => I.ok.exfs b z hb
theorem Inv.step {g' : Array GenState} {t' : Nat} {d' : Drawn} {ch : List Addr} (I : Inv X pins σ H s)
    (hch : ∀ b ∈ ch, (b ∈ X.ex ∨ X.s₀.heap.objs.size ≤ b) ∧ b ≠ X.env.locals ∧ (∀ x c, X.env.cells.lookup x = some c → c ≠ b) ∧ ∀ p ∈ X.pn ++ pins, p.1 ≠ b)
    (keep : ∀ b o, b ≠ X.env.locals → b ∉ X.fs → b ∉ ch → s.heap.get? b = some o → H b = none → h'.get? b = some o)
    (slot : ∀ b o, b ≠ X.env.locals → b ∈ X.fs → b ∉ ch → s.heap.get? b = some o → H b = none → ∃ sl, h'.get? b = some { o with slots := sl }) (free : ∀ b o, b ∉ ch → s.heap.get? b = some o → H b = none → H' b = none)
    (there : ∀ b o, b ∉ ch → s.heap.get? b = some o → ∃ o', h'.get? b = some o')
    (tups : ∀ b xs, H b = some (.tup xs) → H' b = some (.tup xs)) (frzs : ∀ b o u, H b = some (.frz o u) → H' b = some (.frz o u)) (tbls : ∀ b ps, H b = some (.tbl ps) → ∃ more, H' b = some (.tbl (ps ++ more)))
    (ns : ∀ m, s.heap.Ns X.env.locals m → h'.Ns X.env.locals m) (hok : HOk X.prog X.w H' h') (hg : AllBare g') :
    Inv X pins σ H' { s with heap := h', gens := g', drawn := d', toks := t' } := by
  have neL : ∀ b o, X.s₀.heap.get? b = some o → b ≠ X.env.locals := fun b o e => Nat.ne_of_lt (Nat.lt_of_lt_of_le (Heap.lt_size e) I.ok.above)
  have neC : ∀ b o, X.s₀.heap.get? b = some o → b ∉ X.ex → b ∉ ch := fun b o e hx hb => by
    rcases (hch b hb).1 with z | z
    · exact hx z
    · exact absurd (Nat.lt_of_lt_of_le (Heap.lt_size e) z) (Nat.lt_irrefl _)
  have cellK : ∀ x c, X.env.cells.lookup x = some c → ∀ v, s.heap.IsCell c v → h'.IsCell c v := fun x c e v ⟨o, ho, hd⟩ => by
    have nch : c ∉ ch := fun z => (hch c z).2.2.1 x c e rfl
    by_cases hc : c ∈ X.fs
    · obtain ⟨sl, q⟩ := slot c o (I.cne x c e) hc nch ho (I.freeC x c e)
      exact ⟨_, q, hd⟩
    · exact ⟨o, keep c o (I.cne x c e) hc nch ho (I.freeC x c e), hd⟩
  refine ⟨I.ok, I.os, hg, ⟨fun b o e n hb hx => ?_, fun b o e n hb hx => ?_, fun b o e n hx => ?_, fun b o e hx => ?_, fun b xs e => tups b xs (I.base.tups b xs e), fun b o xs e => frzs b o xs (I.base.frzs b o xs e), fun b ps e => ?_⟩, ?_, fun x c e => ?_, ?_, fun x c e => ?_, fun p hp => ?_, hok, I.len⟩
  · exact keep b o (neL b o e) hb (neC b o e hx) (I.base.keep b o e n hb hx) (I.base.free b o e n hx)
  · obtain ⟨sl, e1⟩ := I.base.slot b o e n hb hx
    obtain ⟨sl', e2⟩ := slot b _ (neL b o e) hb (neC b o e hx) e1 (I.base.free b o e n hx)
    exact ⟨sl', e2⟩
  · obtain ⟨o', e1⟩ := I.base.there b o e hx
    exact free b o' (neC b o e hx) e1 (I.base.free b o e n hx)
  · obtain ⟨o', e1⟩ := I.base.there b o e hx
    exact there b o' (neC b o e hx) e1
  · obtain ⟨m1, e1⟩ := I.base.tbls b ps e
    obtain ⟨m2, e2⟩ := tbls b _ e1
    exact ⟨m1 ++ m2, by rw [e2, Array.append_assoc]⟩
  · obtain ⟨m, hn, hl⟩ := I.loc
    refine ⟨m, ns m hn, fun i x v e1 e2 e3 => ?_⟩
    obtain ⟨u, r, l⟩ := hl i x v e1 e2 e3
    refine ⟨u, r, ?_⟩
    rcases l with l | ⟨k, c, e, z⟩
    · exact .inl l
    · exact .inr ⟨k, c, e, cellK x c e _ z⟩
  · obtain ⟨v, z⟩ := I.cell x c e
    exact ⟨v, cellK x c e v z⟩
  · obtain ⟨m, ⟨o, _, _, ho, _⟩, _⟩ := I.loc
    exact free _ o (fun z => (hch _ z).2.1 rfl) ho I.free
  · obtain ⟨v, o, ho, hd⟩ := I.cell x c e
    exact free c o (fun z => (hch c z).2.2.1 x c e rfl) ho (I.freeC x c e)
  · obtain ⟨e, n, ne, nf, d⟩ := I.pin p hp
    have nch : p.1 ∉ ch := fun z => (hch p.1 z).2.2.2 p hp rfl
    exact ⟨keep p.1 p.2 ne nf nch e n, free p.1 p.2 nch e n, ne, nf, d⟩
theorem Inv.un {t' : Nat} (I : Inv X pins σ H s) (u : Un X.fs [] H H' s.heap h') (hok : HOk X.prog X.w H' h') : Inv X pins σ H' { s with heap := h', toks := t' } := by
  obtain ⟨m, ⟨o, es, ep, ho, r⟩, _⟩ := id I.loc
  obtain ⟨sl, hL⟩ := u.any ho I.free (by simp)
  exact I.step (g' := s.gens) (d' := s.drawn) (ch := []) (fun _ z => nomatch z) (fun b o _ hb _ e n => u.keep b o e n hb (by simp)) (fun b o _ hb _ e n => u.slot b o e n hb (by simp)) (fun b o _ e n => u.free b o e n (by simp)) (fun b o _ e => u.there b o e (by simp)) u.tups u.frzs u.tbls (fun m' hm => by
    obtain ⟨o', es', ep', ho', r'⟩ := hm
    rw [ho] at ho'; cases ho'
    exact ⟨_, es', ep', hL, r'⟩) hok I.bare
theorem Inv.call {g' : Array GenState} {t' : Nat} {d' : Drawn} {ch : List Addr} (I : Inv X pins σ H s) (u : Un (frs X.stack) ch H H' s.heap h') (hok : HOk X.prog X.w H' h') (hg : AllBare g')
    (hch : ∀ b ∈ ch, (b ∈ X.ex ∨ X.s₀.heap.objs.size ≤ b) ∧ b ≠ X.env.locals ∧ (∀ x c, X.env.cells.lookup x = some c → c ≠ b) ∧ ∀ p ∈ X.pn ++ pins, p.1 ≠ b) :
    Inv X pins σ H' { s with heap := h', gens := g', drawn := d', toks := t' } := by
  obtain ⟨m, ⟨o, es, ep, ho, r⟩, _⟩ := id I.loc
  obtain ⟨sl, hL⟩ := u.any ho I.free fun z => (hch _ z).2.1 rfl
  exact I.step (ch := ch) hch (fun b o hL hb hc e n => u.keep b o e n (fun z => (List.mem_cons.mp (I.stkSub b z)).elim hL hb) hc) (fun b o _ _ hc e n => u.any e n hc) (fun b o hc e n => u.free b o e n hc) (fun b o hc e => u.there b o e hc) u.tups u.frzs u.tbls (fun m' hm => by
    obtain ⟨o', es', ep', ho', r'⟩ := hm
    rw [ho] at ho'; cases ho'
    exact ⟨_, es', ep', hL, r'⟩) hok hg
theorem Inv.turned {t' : Nat} {it : Addr} (I : Inv X pins σ H s) (k : ∀ b o, b ≠ it → s.heap.get? b = some o → h'.get? b = some o) (hn : H it = none) (hL : it ≠ X.env.locals)
    (h1 : it ∈ X.ex ∨ X.s₀.heap.objs.size ≤ it) (h2 : ∀ x c, X.env.cells.lookup x = some c → c ≠ it) (h3 : ∀ p ∈ X.pn ++ pins, p.1 ≠ it) : Inv X pins σ H { s with heap := h', toks := t' } := by
  have nit : ∀ b u, H b = some u → b ≠ it := fun b u e z => by rw [z, hn] at e; cases e
  refine I.step (g' := s.gens) (d' := s.drawn) (ch := [it]) (fun b hb => ?_) (fun b o _ _ hc e _ => k b o (fun z => hc (by simp [z])) e) (fun b o _ _ hc e _ => ⟨o.slots, k b o (fun z => hc (by simp [z])) e⟩) (fun _ _ _ _ n => n)
    (fun b o hc e => ⟨o, k b o (fun z => hc (by simp [z])) e⟩) (fun _ _ e => e) (fun _ _ _ e => e) (fun b ps e => ⟨#[], by rw [e]; simp⟩) (fun m hm => ?_) (fun b u e => ?_) I.bare
  · have e : b = it := by simpa using hb
    subst e
    exact ⟨h1, hL, h2, h3⟩
  · obtain ⟨o, es, ep, ho, r⟩ := hm
    exact ⟨o, es, ep, k _ o (Ne.symm hL) ho, r⟩
  · refine (I.hok b u e).stay (fun c v hc q => k c v ?_ q) (fun _ q => q) fun _ _ q => q
    rcases hc with z | z
    · rw [z]; exact nit b u e
    · exact nit c _ z
theorem Inv.tok (I : Inv X pins σ H s) (t : Nat) : Inv X pins σ H { s with toks := t } := I.un (h' := s.heap) (t' := t) Un.refl I.hok
theorem Inv.kept {t' : Nat} (I : Inv X pins σ H s) (k : ∀ b u, s.heap.get? b = some u → h'.get? b = some u) : Inv X pins σ H { s with heap := h', toks := t' } := I.un (Un.kept k) (I.hok.kept k)
theorem Inv.laid {a : Addr} {o : HO} {t' : Nat} (I : Inv X pins σ H s) (k : ∀ b u, s.heap.get? b = some u → h'.get? b = some u) (hp : s.heap.objs.size ≤ a) (new : ObjOk X.prog X.w (upd H a o) h' a o) :
    Inv X pins σ (upd H a o) { s with heap := h', toks := t' } := I.un (Un.laid k hp (I.hok.fresh hp)) (I.hok.laid k hp new)
theorem Inv.write {x e : Addr} {o : HO} {t' : Nat} (I : Inv X pins σ H s) (mu : Mut (H x)) (he : e = x ∨ H e = some (.own x)) (k : ∀ b u, b ≠ e → s.heap.get? b = some u → h'.get? b = some u) (heo : ∃ u, h'.get? e = some u)
    (new : ObjOk X.prog X.w (upd H x o) h' x o) : Inv X pins σ (upd H x o) { s with heap := h', toks := t' } := I.un (Un.write mu he k heo) (I.hok.write mu he k heo new)
theorem Inv.pins_of {pins' : List (Addr × Obj)} (I : Inv X pins σ H s) (h : ∀ p ∈ pins', s.heap.get? p.1 = some p.2 ∧ H p.1 = none ∧ p.1 ≠ X.env.locals ∧ p.1 ∉ X.fs ∧ ∀ v, p.2.data ≠ .cell v) : Inv X pins' σ H s :=
  ⟨I.ok, I.os, I.bare, I.base, I.loc, I.cell, I.free, I.freeC, fun p hp => (List.mem_append.mp hp).elim (fun z => I.pin p (List.mem_append_left _ z)) (h p), I.hok, I.len⟩
theorem nodup_ix {N : List Str} (hN : N.Nodup) {i j : Nat} {x : Str} (a : N[i]? = some x) (b : N[j]? = some x) : i = j := by
  obtain ⟨h1, e1⟩ := List.getElem?_eq_some_iff.mp a
  obtain ⟨h2, e2⟩ := List.getElem?_eq_some_iff.mp b
  exact (List.getElem_inj hN).mp (e1.trans e2.symm)
theorem store_ok2 {M : Model} {A : Around} {E : Value → Shared → Prop} {i : Nat} {x : Str} {v : V} {u : Value} {Q : Unit → Shared → Prop} (I : Inv X pins σ H s) (hN : X.N.Nodup) (hi : X.N[i]? = some x) (hx : Loc X.env.scope x) (r : RelV v u)
    (h : ∀ s', Inv X pins (σ.set i (some v)) H s' → (∃ a, Heap.SameBut a s.heap s'.heap ∧ (a = X.env.locals ∨ X.env.cells.lookup x = some a)) → Q () s') (hf : X.fn x = true ∨ X.env.scope.names.lookup x = some .local := by first | exact .inl rfl | exact .inr rfl | assumption) : wpAny M A (storeName X.env x u) Q E s := by
  obtain ⟨m, hn, hl⟩ := id I.loc
  have hcls : (X.env.scope.kind == .class || (X.env.scope.kind == .module && X.env.locals != X.env.globals)) = false := by rw [I.ok.kind]; rfl
  have hiσ : i < σ.length := by rw [I.len]; exact (List.getElem?_eq_some_iff.mp hi).1
  have cne := I.cne
  have tracked : ∀ {a : Addr} {h' : Heap}, (∃ o, s.heap.get? a = some o ∧ H a = none) → Heap.SameBut a s.heap h' → HOk X.prog X.w H h' := fun {a h'} ha hs b ob e => by
    obtain ⟨_, _, hfree⟩ := ha
    refine (I.hok b ob e).stay (fun c w' hc q => (hs.2 c ?_).trans q) (fun _ q => q) fun _ _ q => q
    rintro rfl
    rcases hc with rfl | hc
    · rw [hfree] at e; cases e
    · rw [hfree] at hc; cases hc
  rcases hx with hk | hk
  · refine wpAny_storeName_local hk hn (fun h' hn' hs => ?_) hcls
    obtain ⟨oL, _, _, hoL, _⟩ := id hn
    refine h _ ⟨I.ok, I.os, I.bare, ⟨fun b o e n hb hx => ?_, fun b o e n hb hx => ?_, I.base.free, fun b o e hx => ?_, I.base.tups, I.base.frzs, I.base.tbls⟩, ⟨_, hn', fun j y v' e1 e2 e3 => ?_⟩, fun y c e => ?_, I.free, I.freeC, fun p hp => ?_, tracked ⟨oL, hoL, I.free⟩ hs, by simpa using I.len⟩ ⟨_, hs, .inl rfl⟩
    · exact (hs.2 b (Nat.ne_of_lt (Nat.lt_of_lt_of_le (Heap.lt_size e) I.ok.above))).trans (I.base.keep b o e n hb hx)
    · obtain ⟨sl, e1⟩ := I.base.slot b o e n hb hx
      exact ⟨sl, (hs.2 b (Nat.ne_of_lt (Nat.lt_of_lt_of_le (Heap.lt_size e) I.ok.above))).trans e1⟩
    · obtain ⟨o', e1⟩ := I.base.there b o e hx
      exact ⟨o', (hs.2 b (Nat.ne_of_lt (Nat.lt_of_lt_of_le (Heap.lt_size e) I.ok.above))).trans e1⟩
    · by_cases hj : j = i
      · subst hj
        rw [hi] at e1; cases e1
        rw [List.getElem?_set_self hiσ] at e2
        cases e2
        exact ⟨u, r, .inl ⟨hk, by simp⟩⟩
      · rw [List.getElem?_set_ne (Ne.symm hj)] at e2
        obtain ⟨u', r', q⟩ := hl j y v' e1 e2 e3
        refine ⟨u', r', ?_⟩
        rcases q with ⟨k, e⟩ | ⟨k, c, e, z⟩
        · refine .inl ⟨k, ?_⟩
          have : y ≠ x := fun e => hj (nodup_ix hN e1 (e ▸ hi))
          simp [this, e]
        · exact .inr ⟨k, c, e, z.sameBut hs (cne y c e)⟩
    · obtain ⟨w', z⟩ := I.cell y c e
      exact ⟨w', z.sameBut hs (cne y c e)⟩
    · obtain ⟨e, n, ne, nf, d⟩ := I.pin p hp
      exact ⟨(hs.2 p.1 ne).trans e, n, ne, nf, d⟩
  · have hfn : X.fn x = true := by
      rcases hf with z | z
      · exact z
      · rw [z] at hk; cases hk
    obtain ⟨c, hc⟩ := I.ok.has x (.inl hk)
    obtain ⟨w', z⟩ := I.cell x c hc
    refine wpAny_storeName_cell I.ok.kind hk hc z (fun h' hc' hs => ?_)
    obtain ⟨oc, hoc, hocd⟩ := id z
    refine h { s with heap := h' } ⟨I.ok, I.os, I.bare, ⟨fun b o e n hb hx => ?_, fun b o e n hb hx => ?_, I.base.free, fun b o e hx => ?_, I.base.tups, I.base.frzs, I.base.tbls⟩, ⟨m, hn.sameBut hs (Ne.symm (cne x c hc)), fun j y v' e1 e2 e3 => ?_⟩, fun y c' e => ?_, I.free, I.freeC, fun p hp => ?_, tracked ⟨oc, hoc, I.freeC x c hc⟩ hs, by simpa using I.len⟩ ⟨c, hs, .inr hc⟩
    · exact (hs.2 b (Nat.ne_of_lt (Nat.lt_of_lt_of_le (Heap.lt_size e) (I.ok.cab x c hfn hc)))).trans (I.base.keep b o e n hb hx)
    · obtain ⟨sl, e1⟩ := I.base.slot b o e n hb hx
      exact ⟨sl, (hs.2 b (Nat.ne_of_lt (Nat.lt_of_lt_of_le (Heap.lt_size e) (I.ok.cab x c hfn hc)))).trans e1⟩
    · obtain ⟨o', e1⟩ := I.base.there b o e hx
      exact ⟨o', (hs.2 b (Nat.ne_of_lt (Nat.lt_of_lt_of_le (Heap.lt_size e) (I.ok.cab x c hfn hc)))).trans e1⟩
    · by_cases hj : j = i
      · subst hj
        rw [hi] at e1; cases e1
        rw [List.getElem?_set_self hiσ] at e2
        cases e2
        exact ⟨u, r, .inr ⟨.inl hk, c, hc, hc'⟩⟩
      · rw [List.getElem?_set_ne (Ne.symm hj)] at e2
        obtain ⟨u', r', q⟩ := hl j y v' e1 e2 e3
        refine ⟨u', r', ?_⟩
        rcases q with q | ⟨k, c', e, z'⟩
        · exact .inl q
        · refine .inr ⟨k, c', e, z'.sameBut hs ?_⟩
          rintro rfl
          exact hj (nodup_ix hN e1 (I.ok.inj _ _ _ e hc ▸ hi))
    · by_cases hcc : c' = c
      · subst hcc; exact ⟨_, hc'⟩
      · obtain ⟨w2, z2⟩ := I.cell y c' e
        exact ⟨w2, z2.sameBut hs hcc⟩
    · obtain ⟨e, n, ne, nf, d⟩ := I.pin p hp
      refine ⟨(hs.2 p.1 ?_).trans e, n, ne, nf, d⟩
      intro q
      rw [q, hoc] at e
      have q' : oc = p.2 := Option.some.inj e
      exact d w' (by rw [← q']; exact hocd)
theorem store_ok {M : Model} {A : Around} {E : Value → Shared → Prop} {i : Nat} {x : Str} {v : V} {u : Value} {Q : Unit → Shared → Prop} (I : Inv X pins σ H s) (hN : X.N.Nodup) (hi : X.N[i]? = some x) (hx : Loc X.env.scope x) (r : RelV v u)
    (h : ∀ s', Inv X pins (σ.set i (some v)) H s' → Q () s') (hf : X.fn x = true ∨ X.env.scope.names.lookup x = some .local := by first | exact .inl rfl | exact .inr rfl | assumption) : wpAny M A (storeName X.env x u) Q E s :=
  store_ok2 I hN hi hx r (fun s' I' _ => h s' I') hf
theorem Inv.call' {s' : Shared} {ch : List Addr} (I : Inv X pins σ H s) (ho : s'.os = s.os) (u : Un (frs X.stack) ch H H' s.heap s'.heap) (hok : HOk X.prog X.w H' s'.heap) (hg : AllBare s'.gens)
    (hch : ∀ b ∈ ch, (b ∈ X.ex ∨ X.s₀.heap.objs.size ≤ b) ∧ b ≠ X.env.locals ∧ (∀ x c, X.env.cells.lookup x = some c → c ≠ b) ∧ ∀ p ∈ X.pn ++ pins, p.1 ≠ b) : Inv X pins σ H' s' := by
  obtain ⟨h', g', d', t', o'⟩ := s'
  have e : o' = s.os := ho
  subst e
  exact I.call (g' := g') (t' := t') (d' := d') u hok hg hch
end
abbrev XK := Value → Option Addr → Hp → Prop
abbrev St := List (Option V)
abbrev VK := V → Hp → Prop
abbrev TE := St → Hp → VK → Prop
abbrev TT := St → Hp → (Bool → Hp → Prop) → Prop
abbrev TA := St → Hp → (List V → Hp → Prop) → Prop
structure Ends where
  nx : St → Hp → Prop
  rt : VK
  bk : St → Hp → Prop := fun _ _ => False
  ct : St → Hp → Prop := fun _ _ => False
abbrev TS := Ends → St → Hp → Prop
def EP (X : Cx) (pins : List (Addr × Obj)) (σ : St) (Q : VK) (u : Value) (s' : Shared) : Prop := ∃ v H', Inv X pins σ H' s' ∧ RelV v u ∧ Q v H'
def TP (X : Cx) (pins : List (Addr × Obj)) (σ : St) (Q : Bool → Hp → Prop) (b : Bool) (s' : Shared) : Prop := ∃ H', Inv X pins σ H' s' ∧ Q b H'
def AP (X : Cx) (pins : List (Addr × Obj)) (σ : St) (Q : List V → Hp → Prop) (us : List Value) (s' : Shared) : Prop := ∃ vs H', Inv X pins σ H' s' ∧ Vals vs us ∧ Q vs H'
def SP (X : Cx) (pins : List (Addr × Obj)) (D : Ends) (f : Flow) (s' : Shared) : Prop :=
  match f with
  | .next => ∃ σ' H', Inv X pins σ' H' s' ∧ D.nx σ' H'
  | .brk => ∃ σ' H', Inv X pins σ' H' s' ∧ D.bk σ' H'
  | .cont => ∃ σ' H', Inv X pins σ' H' s' ∧ D.ct σ' H'
  | .ret u => ∃ v σ' H', Inv X pins σ' H' s' ∧ RelV v u ∧ D.rt v H'
def PE (X : Cx) (e : Expr) (t : TE) : Prop :=
  ∀ (pins : List (Addr × Obj)) (s : Shared) (σ : St) (H : Hp) (Q : VK), Inv X pins σ H s → t σ H Q → wpAny (model X.prog X.w) X.A (eval e X.env) (EP X pins σ Q) X.xe s
def PT (X : Cx) (e : Expr) (t : TT) : Prop :=
  ∀ (pins : List (Addr × Obj)) (s : Shared) (σ : St) (H : Hp) (Q : Bool → Hp → Prop), Inv X pins σ H s → t σ H Q → wpAny (model X.prog X.w) X.A (isTrue e X.env (eval e X.env)) (TP X pins σ Q) X.xe s
def PW (X : Cx) (e : Expr) (t : TT) : Prop :=
  ∀ (whole : Sem Value) (pins : List (Addr × Obj)) (s : Shared) (σ : St) (H : Hp) (Q : Bool → Hp → Prop), Inv X pins σ H s → t σ H Q → wpAny (model X.prog X.w) X.A (isTrue e X.env whole) (TP X pins σ Q) X.xe s
theorem PW.pt {X : Cx} {e : Expr} {t : TT} (h : PW X e t) : PT X e t := h _
def PA (X : Cx) (es : List Expr) (t : TA) : Prop :=
  ∀ (pos : Pos) (pins : List (Addr × Obj)) (s : Shared) (σ : St) (H : Hp) (Q : List V → Hp → Prop), Inv X pins σ H s → t σ H Q → wpAny (model X.prog X.w) X.A (spliced (backTo pos (starEach es X.env))) (AP X pins σ Q) X.xe s
def PS (X : Cx) (st : Stmt) (t : TS) : Prop :=
  ∀ (pins : List (Addr × Obj)) (s : Shared) (σ : St) (H : Hp) (D : Ends), Inv X pins σ H s → t D σ H → wpAny (model X.prog X.w) X.A (exec st X.env) (SP X pins D) X.xe s
def PSs (X : Cx) (st : List Stmt) (t : TS) : Prop :=
  ∀ (pins : List (Addr × Obj)) (s : Shared) (σ : St) (H : Hp) (D : Ends), Inv X pins σ H s → t D σ H → wpAny (model X.prog X.w) X.A (execs st X.env) (SP X pins D) X.xe s
theorem thn {α : Type} {t : Sem α} {Q Q' : α → Shared → Prop} {M : Model} {A : Around} {E : Value → Shared → Prop} {s : Shared} (h : wpAny M A t Q E s) (hQ : ∀ a s, Q a s → Q' a s) : wpAny M A t Q' E s := wpAny_mono h hQ fun _ _ x => x
end L2
namespace L2
open PySem PySem.Spec PyProof.Rows
section
variable {X : Cx}
def tVar (i : Nat) : TE := fun σ H Q => ∃ v, σ[i]? = some (some v) ∧ Q v H
def tC (v : V) : TE := fun _ H Q => Q v H
theorem pe_var {i : Nat} {x : Str} {pos : Pos} (hN : X.N[i]? = some x) (hv : Vis X.env.scope x) (hd : (x == ("__debug__" : Str)) = false := by decide) (hcd : (x == ("__classdict__" : Str)) = false := by decide) : PE X (.Name x pos) (tVar i) := by
  intro pins s σ H Q I h
  obtain ⟨v, e, h⟩ := h
  obtain ⟨m, hn, hl⟩ := I.loc
  obtain ⟨u, r, l⟩ := hl i x v hN e hv
  have fin : EP X pins σ Q u s := ⟨v, H, I, r, h⟩
  rcases l with ⟨hk, hm⟩ | ⟨hk, c, hc, hcell⟩
  · exact wpAny_Name (wpAny_loadName_local I.ok.kind hk hn hm fin) hd
  · rcases hk with hk | hk
    · exact wpAny_Name (wpAny_loadName_cell I.ok.kind hk hc hcell fin) hd
    · exact wpAny_Name (wpAny_loadName_free I.ok.kind hk hc hcell fin hcd) hd
theorem pe_int {i j pos} : PE X (.Constant (.int i) j pos) (tC (.int i)) := fun _ _ _ H _ I h => wpAny_Constant_int ⟨.int i, H, I.tok _, ⟨_, rfl⟩, h⟩
theorem pe_bl {b j pos} : PE X (.Constant (.bool b) j pos) (tC (.bl b)) := fun _ _ _ H _ I h => Constant_bool ⟨.bl b, H, I, rfl, h⟩
theorem pe_non {j pos} : PE X (.Constant .none j pos) (tC .non) := fun _ _ _ H _ I h => Constant_none ⟨.non, H, I, rfl, h⟩
theorem pe_str {x j pos} : PE X (.Constant (.str x) j pos) (tC (.str x)) := fun _ _ _ H _ I h => Calls.Constant_str ⟨.str x, H, I.tok _, ⟨_, rfl⟩, h⟩
def Gl (X : Cx) (x : Str) : Prop := X.env.kindOf x = some .globalImplicit
theorem ld_glob {E : Value → Shared → Prop} {pins : List (Addr × Obj)} {s : Shared} {σ : St} {H : Hp} {x : Str} {u : Value} {pos : Pos} {Q : Value → Shared → Prop} (I : Inv X pins σ H s) (hg : Gl X x) (hm : X.mg x = some u) (h : Q u s)
    (hd : (x == ("__debug__" : Str)) = false := by decide) : wpAny (model X.prog X.w) X.A (eval (.Name x pos) X.env) Q E s :=
  Calls.Name_function_global I.ok.kind hg (Calls.loadGlobal_global (by rw [I.ok.glob]; exact I.mod.glob.keeps I.bk) hm h) hd
theorem ld_blt {E : Value → Shared → Prop} {pins : List (Addr × Obj)} {s : Shared} {σ : St} {H : Hp} {x : Str} {u : Value} {pos : Pos} {Q : Value → Shared → Prop} (I : Inv X pins σ H s) (hg : Gl X x) (hm : X.mg x = none) (hv : bootBuiltins x = some u) (h : Q u s)
    (hn : x ≠ "__name__" := by decide) (hd : (x == ("__debug__" : Str)) = false := by decide) : wpAny (model X.prog X.w) X.A (eval (.Name x pos) X.env) Q E s := by
  obtain ⟨mb, h1, h2⟩ := I.mod.blt
  exact Calls.Name_function_global I.ok.kind hg (Calls.loadGlobal_builtin (by rw [I.ok.glob]; exact I.mod.glob.keeps I.bk) hm (by rw [I.ok.blt]; exact h1.keeps I.bk) ((h2 x hn).trans hv) h) hd
theorem pe_glob {x : Str} {v : V} {u : Value} {pos : Pos} (hg : Gl X x) (hm : X.mg x = some u) (r : RelV v u) (hd : (x == ("__debug__" : Str)) = false := by decide) : PE X (.Name x pos) (tC v) :=
  fun _ _ _ H _ I h => ld_glob I hg hm ⟨v, H, I, r, h⟩ hd
theorem pe_bltn {x : Str} {v : V} {u : Value} {pos : Pos} (hg : Gl X x) (hm : X.mg x = none) (hv : bootBuiltins x = some u) (r : RelV v u) (hn : x ≠ "__name__" := by decide) (hd : (x == ("__debug__" : Str)) = false := by decide) : PE X (.Name x pos) (tC v) :=
  fun _ _ _ H _ I h => ld_blt I hg hm hv ⟨v, H, I, r, h⟩ hn hd
variable {a b : Expr} {ta tb : TE} {pos : Pos}
def PC (X : Cx) (op : CmpOp) (a b : Expr) (t : TE) : Prop :=
  ∀ (pins : List (Addr × Obj)) (s : Shared) (σ : St) (H : Hp) (Q : VK), Inv X pins σ H s → t σ H Q →
    wpAny (model X.prog X.w) X.A (eval a X.env) (fun v s₁ => wpAny (model X.prog X.w) X.A (eval b X.env) (fun u s₂ => wpAny (model X.prog X.w) X.A (compareOp op v u) (EP X pins σ Q) X.xe s₂) X.xe s₁) X.xe s
def tB (t : TE) : TT := fun σ H Q => t σ H fun x H1 => ∃ c, x = .bl c ∧ Q c H1
theorem pe_cmp {op : CmpOp} {t : TE} (h : PC X op a b t) (h1 : behindInMarks op b = false := by first | exact nobehind _ (by decide) (by decide) | rfl) : PE X (.Compare a [op] [b] pos) t := fun pins s σ H Q I hw => wpAny_Compare1 (h pins s σ H Q I hw) h1
theorem pt_cmp {op : CmpOp} {t : TE} (h : PC X op a b t) (h1 : behindInMarks op b = false := by first | exact nobehind _ (by decide) (by decide) | rfl) : PT X (.Compare a [op] [b] pos) (tB t) := by
  intro pins s σ H Q I hw
  refine wpAny_isTrue_Compare1 (thn (h pins s σ H _ I hw) fun v s1 h1 => thn h1 fun u s2 h2 => thn h2 fun c s3 ⟨x, H1, I1, r1, q1⟩ => ?_) h1
  obtain ⟨d, rfl, q⟩ := q1
  cases r1
  exact wpAny_truthy_bool ⟨H1, I1, q⟩
theorem pt_val {e : Expr} {t : TE} (h : PE X e t) (he : ∀ whole, isTrue e X.env whole = (do let v ← whole; standAt e.pos; holding [v] (truthy v)) := by intro _; rfl) : PT X e (tB t) := by
  intro pins s σ H Q I hw
  refine isTrue_plain (thn (h pins s σ H _ I hw) fun v s1 ⟨x, H1, I1, r1, q1⟩ => ?_) (he _)
  obtain ⟨d, rfl, q⟩ := q1
  cases r1
  exact wpAny_truthy_bool ⟨H1, I1, q⟩
variable {tA tB' : TT} {rest : List Expr}
def tAnd (t u : TT) : TT := fun σ H Q => t σ H fun c H1 => if c = true then u σ H1 Q else Q false H1
def tOr (t u : TT) : TT := fun σ H Q => t σ H fun c H1 => if c = true then Q true H1 else u σ H1 Q
def tNot (t : TT) : TT := fun σ H Q => t σ H fun c H1 => Q (!c) H1
theorem pw_and1 (ha : PT X a tA) : PW X (.BoolOp .And [a] pos) tA := by
  intro wh pins s σ H Q I h
  refine isTrue_and (thn (ha pins s σ H Q I h) fun c s1 e => ?_)
  cases c with
  | true => exact isTrue_and_nil e
  | false => exact e
theorem pw_or1 (ha : PT X a tA) : PW X (.BoolOp .Or [a] pos) tA := by
  intro wh pins s σ H Q I h
  refine isTrue_or (thn (ha pins s σ H Q I h) fun c s1 e => ?_)
  cases c with
  | false => exact isTrue_or_nil e
  | true => exact e
theorem pw_and (ha : PT X a tA) (hb : PW X (.BoolOp .And (b :: rest) pos) tB') : PW X (.BoolOp .And (a :: b :: rest) pos) (tAnd tA tB') := by
  intro wh pins s σ H Q I h
  refine isTrue_and (thn (ha pins s σ H _ I h) fun c s1 ⟨H1, I1, q1⟩ => ?_)
  cases c with
  | true => exact hb wh pins s1 σ H1 Q I1 q1
  | false => exact ⟨H1, I1, q1⟩
theorem pw_or (ha : PT X a tA) (hb : PW X (.BoolOp .Or (b :: rest) pos) tB') : PW X (.BoolOp .Or (a :: b :: rest) pos) (tOr tA tB') := by
  intro wh pins s σ H Q I h
  refine isTrue_or (thn (ha pins s σ H _ I h) fun c s1 ⟨H1, I1, q1⟩ => ?_)
  cases c with
  | true => exact ⟨H1, I1, q1⟩
  | false => exact hb wh pins s1 σ H1 Q I1 q1
theorem pt_not (ha : PT X a tA) : PT X (.UnaryOp .Not a pos) (tNot tA) := by
  intro pins s σ H Q I h
  exact isTrue_not (ha pins s σ H (fun c H1 => Q (!c) H1) I h)
def tAndV (ta tb : TE) : TE := fun σ H Q => ta σ H fun x H1 => ∃ c, x = .bl c ∧ if c = true then tb σ H1 Q else Q (.bl false) H1
def tOrV (ta tb : TE) : TE := fun σ H Q => ta σ H fun x H1 => ∃ c, x = .bl c ∧ if c = true then Q (.bl true) H1 else tb σ H1 Q
theorem pe_one {op} {t : TE} (h : PE X a t) : PE X (.BoolOp op [a] pos) t := fun pins s σ H Q I hw => BoolOp_one (h pins s σ H Q I hw)
theorem pe_and (ha : PE X a ta) (hb : PE X (.BoolOp .And (b :: rest) pos) tb) : PE X (.BoolOp .And (a :: b :: rest) pos) (tAndV ta tb) := by
  intro pins s σ H Q I h
  refine BoolOp_and (thn (ha pins s σ H _ I h) fun v s1 ⟨x, H1, I1, r1, q1⟩ => ?_)
  obtain ⟨c, rfl, q1⟩ := q1
  cases r1
  refine wpAny_truthy_bool ?_
  cases c with
  | true => exact hb pins s1 σ H1 Q I1 q1
  | false => exact ⟨.bl false, H1, I1, rfl, q1⟩
theorem pe_or (ha : PE X a ta) (hb : PE X (.BoolOp .Or (b :: rest) pos) tb) : PE X (.BoolOp .Or (a :: b :: rest) pos) (tOrV ta tb) := by
  intro pins s σ H Q I h
  refine BoolOp_or (thn (ha pins s σ H _ I h) fun v s1 ⟨x, H1, I1, r1, q1⟩ => ?_)
  obtain ⟨c, rfl, q1⟩ := q1
  cases r1
  refine wpAny_truthy_bool ?_
  cases c with
  | false => exact hb pins s1 σ H1 Q I1 q1
  | true => exact ⟨.bl true, H1, I1, rfl, q1⟩
def tIf (t : TT) (ta tb : TE) : TE := fun σ H Q => t σ H fun c H1 => if c = true then ta σ H1 Q else tb σ H1 Q
theorem pe_ifExp {c : Expr} (hc : PT X c tA) (ha : PE X a ta) (hb : PE X b tb) : PE X (.IfExp c a b pos) (tIf tA ta tb) := by
  intro pins s σ H Q I h
  refine wpAny_IfExp (thn (hc pins s σ H _ I h) fun d s1 ⟨H1, I1, q1⟩ => ?_)
  cases d with
  | true => exact ha pins s1 σ H1 Q I1 q1
  | false => exact hb pins s1 σ H1 Q I1 q1
end
end L2
namespace L2
open PySem PySem.Spec PyProof.Rows
def SqL (K : PySem.W.Frag) (H : Hp) (a : Addr) (xs : List V) : Prop :=
  Rd H a (.lst xs) ∨
    ∃ (o : Obj) (its : Array Value) (n : Nat), K.lookup a = some o ∧ o.cls = .type "list" ∧ o.dict = none ∧ o.data = .seq its n ∧ its.size ≤ sizeLine ∧ Vals xs its.toList
def SqT (K : PySem.W.Frag) (H : Hp) (a : Addr) (xs : List V) : Prop :=
  Rd H a (.tup xs) ∨
    ∃ (o : Obj) (its : Array Value) (n : Nat), K.lookup a = some o ∧ o.cls = .type "tuple" ∧ o.data = .seq its n ∧ its.size ≤ sizeLine ∧ Vals xs its.toList
def absV : Value → Option V
  | .none => some .non
  | .bool b => some (.bl b)
  | .int i _ => some (.int i)
  | .str x _ => some (.str x)
  | .bytes b _ => some (.byt b)
  | .float b _ => some (.flt b)
  | .ref a => some (.ref a)
  | .type n => some (.ty n)
  | _ => none
theorem RelV.abs {x : V} {u : Value} (r : RelV x u) : absV u = some x := by
  cases x with
  | non => cases r; rfl
  | bl _ => cases r; rfl
  | int _ => obtain ⟨t, rfl⟩ := r; rfl
  | str _ => obtain ⟨t, rfl⟩ := r; rfl
  | byt _ => obtain ⟨t, rfl⟩ := r; rfl
  | flt _ => obtain ⟨t, rfl⟩ := r; rfl
  | ref _ => cases r; rfl
  | ty _ => cases r; rfl
theorem RelV.inj {x y : V} {u : Value} (r : RelV x u) (q : RelV y u) : x = y := Option.some.inj (r.abs.symm.trans q.abs)
theorem Vals.inj : ∀ {xs ys : List V} {us : List Value}, Vals xs us → Vals ys us → xs = ys
  | _, _, _, .nil, .nil => rfl
  | _, _, _, .cons r t, .cons r' t' => by rw [r.inj r', Vals.inj t t']
section
variable {X : Cx} {pins : List (Addr × Obj)} {σ : St} {H : Hp} {s : Shared} {a : Addr} {xs ys : List V}
theorem SqL.of {K : PySem.W.Frag} (h : H a = some (.lst xs)) : SqL K H a xs := .inl (.inl h)
theorem SqT.of {K : PySem.W.Frag} (h : H a = some (.tup xs)) : SqT K H a xs := .inl (.inl h)
theorem Inv.list (I : Inv X pins σ H s) (h : SqL X.K H a xs) : ∃ its : List Value, Vals xs its ∧ PlainL s.heap a its.toArray ∧ xs.length ≤ sizeLine := by
  rcases h with h | ⟨o, its, n, hk, hc, hd, hs, hz, r⟩
  · obtain ⟨z, its, n, r, e⟩ := h.ok I.hok
    exact ⟨its, r, ⟨_, n, e, rfl, rfl, rfl⟩, z⟩
  · refine ⟨its.toList, r, ⟨o, n, I.kIn a o hk, hc, hd, by simpa using hs⟩, ?_⟩
    have e := r.length
    simp only [Array.length_toList] at e
    omega
theorem Inv.tuple (I : Inv X pins σ H s) (h : SqT X.K H a xs) : ∃ its : List Value, Vals xs its ∧ IsTup s.heap a its.toArray ∧ xs.length ≤ sizeLine := by
  rcases h with h | ⟨o, its, n, hk, hc, hs, hz, r⟩
  · obtain ⟨z, its, r, p⟩ := h.ok I.hok
    exact ⟨its, r, p, z⟩
  · refine ⟨its.toList, r, ⟨o, I.kIn a o hk, hc, n, by simpa using hs⟩, ?_⟩
    have e := r.length
    simp only [Array.length_toList] at e
    omega
theorem Inv.list_inj (I : Inv X pins σ H s) (h : SqL X.K H a xs) (h' : SqL X.K H a ys) : xs = ys := by
  obtain ⟨its, r, ⟨o, n, e, _, _, d⟩, _⟩ := I.list h
  obtain ⟨its', r', ⟨o', n', e', _, _, d'⟩, _⟩ := I.list h'
  rw [e] at e'; cases e'
  rw [d] at d'
  injection d' with d1 _
  have : its = its' := by simpa using congrArg Array.toList d1
  subst this
  exact r.inj r'
theorem Inv.tuple_inj (I : Inv X pins σ H s) (h : SqT X.K H a xs) (h' : SqT X.K H a ys) : xs = ys := by
  obtain ⟨its, r, ⟨o, e, _, n, d⟩, _⟩ := I.tuple h
  obtain ⟨its', r', ⟨o', e', _, n', d'⟩, _⟩ := I.tuple h'
  rw [e] at e'; cases e'
  rw [d] at d'
  injection d' with d1 _
  have : its = its' := by simpa using congrArg Array.toList d1
  subst this
  exact r.inj r'
end
abbrev Cx.wish (X : Cx) (E : Value → Shared → Prop) : Cx := { X with xe := E }
abbrev Cx.nox (X : Cx) : Cx := X.wish fun _ _ => False
theorem Cx.Ok.wish {X : Cx} (ok : X.Ok) (E : Value → Shared → Prop) : (X.wish E).Ok :=
  ⟨ok.mod, ok.kind, ok.glob, ok.blt, ok.above, ok.inj, ok.has, ok.cab, ok.hd, ok.frames, ok.stk, ok.exf, ok.bs, ok.bsz, ok.noex, ok.exfs, ok.funs, ok.frf⟩
theorem Cx.Ok.unwish {X : Cx} {E : Value → Shared → Prop} (ok : (X.wish E).Ok) : X.Ok :=
  ⟨ok.mod, ok.kind, ok.glob, ok.blt, ok.above, ok.inj, ok.has, ok.cab, ok.hd, ok.frames, ok.stk, ok.exf, ok.bs, ok.bsz, ok.noex, ok.exfs, ok.funs, ok.frf⟩
section
variable {X : Cx} {pins : List (Addr × Obj)} {σ : St} {H : Hp} {s : Shared} {E : Value → Shared → Prop}
theorem Inv.wish (I : Inv X pins σ H s) (E : Value → Shared → Prop) : Inv (X.wish E) pins σ H s := ⟨I.ok.wish E, I.os, I.bare, I.base, I.loc, I.cell, I.free, I.freeC, I.pin, I.hok, I.len⟩
theorem Inv.unwish (I : Inv (X.wish E) pins σ H s) : Inv X pins σ H s := ⟨I.ok.unwish, I.os, I.bare, I.base, I.loc, I.cell, I.free, I.freeC, I.pin, I.hok, I.len⟩
theorem SP.unwish {D : Ends} {f : Flow} {s' : Shared} (h : SP (X.wish E) pins D f s') : SP X pins D f s' := by
  cases f with
  | next => obtain ⟨σ', H', I, q⟩ := h; exact ⟨σ', H', I.unwish, q⟩
  | brk => obtain ⟨σ', H', I, q⟩ := h; exact ⟨σ', H', I.unwish, q⟩
  | cont => obtain ⟨σ', H', I, q⟩ := h; exact ⟨σ', H', I.unwish, q⟩
  | ret u => obtain ⟨v, σ', H', I, r, q⟩ := h; exact ⟨v, σ', H', I.unwish, r, q⟩
theorem PSs.nox {st : List Stmt} {t : TS} (h : PSs X.nox st t) : PSs X st t := fun pins s σ H D I hw =>
  wpAny_mono (h pins s σ H D (I.wish _) hw) (fun _ _ q => q.unwish) fun _ _ z => False.elim z
end
section
variable {X : Cx} {st : Stmt} {rest : List Stmt} {t u : TS} {e : Expr} {te : TE} {pos : Pos}
def tNext : TS := fun D σ H => D.nx σ H
def tSeq (t u : TS) : TS := fun D σ H => t { D with nx := u D } σ H
theorem pss_nil : PSs X [] tNext := fun _ _ σ H _ I h => wpAny_execs_nil ⟨σ, H, I, h⟩
theorem pss_cons (h1 : PS X st t) (h2 : PSs X rest u) : PSs X (st :: rest) (tSeq t u) := by
  intro pins s σ H D I h
  refine wpAny_execs_cons (thn (h1 pins s σ H { D with nx := u D } I h) fun f s1 q => ?_)
  cases f with
  | next =>
    obtain ⟨σ', H', I', q⟩ := q
    exact h2 pins s1 σ' H' D I' q
  | ret v => exact q
  | brk => exact q
  | cont => exact q
theorem pss_one (h1 : PS X st t) : PSs X [st] t := by
  intro pins s σ H D I h
  refine wpAny_execs_cons (thn (h1 pins s σ H D I h) fun f s1 q => ?_)
  cases f with
  | next => exact wpAny_execs_nil q
  | ret v => exact q
  | brk => exact q
  | cont => exact q
theorem Inv.quiet {pins : List (Addr × Obj)} {σ : St} {H : Hp} {s : Shared} (I : Inv X pins σ H s) : interactive X.env = false := by simp [interactive, I.ok.kind]
def tDrop (te : TE) : TS := fun D σ H => te σ H fun _ H1 => D.nx σ H1
theorem ps_expr (he : PE X e te) (hs : swapsWith e none pos.line X.env = pure false := by rfl) : PS X (.Expr e pos) (tDrop te) := by
  intro pins s σ H D I h
  exact wpAny_Expr_any (thn (he pins s σ H _ I h) fun v s1 ⟨x, H1, I1, r1, q1⟩ => ⟨σ, H1, I1, q1⟩) I.quiet hs
def tRet (te : TE) : TS := fun D σ H => te σ H D.rt
theorem ps_ret (he : PE X e te) : PS X (.Return (some e) pos) (tRet te) := by
  intro pins s σ H D I h
  exact wpAny_Return_some (thn (he pins s σ H _ I h) fun v s1 ⟨x, H1, I1, r1, q1⟩ => ⟨x, σ, H1, I1, r1, q1⟩)
def tIfS (c : TT) (t u : TS) : TS := fun D σ H => c σ H fun b H1 => if b = true then t D σ H1 else u D σ H1
theorem ps_if {c : Expr} {a b : List Stmt} {tc : TT} (hc : PT X c tc) (ha : PSs X a t) (hb : PSs X b u) : PS X (.If c a b pos) (tIfS tc t u) := by
  intro pins s σ H D I h
  refine wpAny_If (thn (hc pins s σ H _ I h) fun d s1 ⟨H1, I1, q1⟩ => ?_)
  cases d with
  | true => exact ha pins s1 σ H1 D I1 q1
  | false => exact hb pins s1 σ H1 D I1 q1
end
abbrev TG := V → St → Hp → (St → Hp → Prop) → Prop
def PG (X : Cx) (target : Expr) (t : TG) : Prop :=
  ∀ (pins : List (Addr × Obj)) (s : Shared) (σ : St) (H : Hp) (v : V) (u : Value) (Q : St → Hp → Prop), Inv X pins σ H s → RelV v u → t v σ H Q →
    wpAny (model X.prog X.w) X.A (assign target X.env u) (fun _ s' => ∃ σ' H', Inv X pins σ' H' s' ∧ Q σ' H') X.xe s
abbrev TSet := V → V → V → Hp → (Hp → Prop) → Prop
def PSet (X : Cx) (t : TSet) : Prop :=
  ∀ (pins : List (Addr × Obj)) (s : Shared) (σ : St) (H : Hp) (o i v : V) (ov iv u : Value) (Q : Hp → Prop), Inv X pins σ H s → RelV o ov → RelV i iv → RelV v u → t o i v H Q →
    wpAny (model X.prog X.w) X.A (setItem ov iv u) (fun _ s' => ∃ H', Inv X pins σ H' s' ∧ Q H') X.xe s
section
variable {X : Cx} {pos : Pos}
def gName (i : Nat) : TG := fun v σ H Q => Q (σ.set i (some v)) H
theorem pg_name {i : Nat} {x : Str} (hN : X.N.Nodup) (hi : X.N[i]? = some x) (hx : Loc X.env.scope x) (hf : X.fn x = true ∨ X.env.scope.names.lookup x = some .local := by first | exact .inl rfl | exact .inr rfl | assumption) : PG X (.Name x pos) (gName i) := by
  intro pins s σ H v u Q I r h
  exact wpAny_assign_Name (store_ok I hN hi hx r (fun s' I' => ⟨_, H, I', h⟩) hf)
def gSub (to ti : TE) (t : TSet) : TG := fun v σ H Q => to σ H fun o H1 => ti σ H1 fun i H2 => t o i v H2 fun H3 => Q σ H3
theorem pg_sub {o i : Expr} {to ti : TE} {t : TSet} (ho : PE X o to) (hi : PE X i ti) (hs : PSet X t)
    (ha : ∀ v, assign (.Subscript o i pos) X.env v = (do
      let ov ← holding [v] (eval o X.env)
      let iv ← holding [v, ov] (eval i X.env)
      standAt pos
      holding [v, ov, iv] (setItem ov iv v)
      release [v, ov, iv] []) := by intro _; rfl) : PG X (.Subscript o i pos) (gSub to ti t) := by
  intro pins s σ H v u Q I r h
  rw [ha]
  refine wpAny_bind (wpAny_holding (thn (ho pins s σ H _ I h) fun ov s1 ⟨x, H1, I1, r1, q1⟩ => ?_))
  refine wpAny_bind (wpAny_holding (thn (hi pins s1 σ H1 _ I1 q1) fun iv s2 ⟨y, H2, I2, r2, q2⟩ => ?_))
  refine wpAny_bind (wpAny_standAt (wpAny_bind (wpAny_holding (thn (hs pins s2 σ H2 x y v ov iv u _ I2 r1 r2 r q2) fun _ s3 ⟨H3, I3, q3⟩ => ?_))))
  exact wpAny_release ⟨σ, H3, I3, q3⟩
def tAsg (te : TE) (g : TG) : TS := fun D σ H => te σ H fun x H1 => g x σ H1 D.nx
theorem ps_asg {tg e : Expr} {te : TE} {g : TG} (he : PE X e te) (hg : PG X tg g) (hs : swapsWithSole [tg] e pos.line X.env = pure false := by rfl) (hw : swappedStores [tg] e X.env = pure none := by rfl)
    (h1 : (assignEach [tg] X.env).map (·.2) = [assign tg X.env] := by rfl) : PS X (.Assign [tg] e pos) (tAsg te g) := by
  intro pins s σ H D I h
  refine wpAny_Assign_stores (thn (he pins s σ H _ I h) fun v s1 ⟨x, H1, I1, r1, q1⟩ => ?_) hs hw
  rw [h1]
  exact thn (hg pins s1 σ H1 x v _ I1 r1 q1) fun _ s2 q => q
theorem ps_set {i : Nat} {x : Str} {e : Expr} {te : TE} {pos' : Pos} (hN : X.N.Nodup) (hi : X.N[i]? = some x) (hx : Loc X.env.scope x) (he : PE X e te) (hs : swapsWith e (some (.Name x pos')) pos.line X.env = pure false := by rfl) (hf : X.fn x = true ∨ X.env.scope.names.lookup x = some .local := by first | exact .inl rfl | exact .inr rfl | assumption) :
    PS X (.Assign [.Name x pos'] e pos) (tAsg te (gName i)) := by
  intro pins s σ H D I h
  refine wpAny_Assign_Name (thn (he pins s σ H _ I h) fun v s1 ⟨y, H1, I1, r1, q1⟩ => ?_) hs
  exact store_ok I1 hN hi hx r1 (fun s2 I2 => ⟨_, H1, I2, q1⟩) hf
end
section
variable {X : Cx} {pos : Pos}
def tWhile (c : TT) (tb : TS) : TS := fun D σ H => ∃ W : Nat → St → Hp → Prop, (∃ m, W m σ H) ∧ ∀ m σ H, W m σ H →
  c σ H fun b H1 => if b = true then ∃ N : St → Hp → Prop, (∀ σ' H', N σ' H' → ∃ m', m' < m ∧ W m' σ' H') ∧ tb { D with nx := N, ct := N, bk := D.nx } σ H1 else D.nx σ H1
theorem ps_while {c : Expr} {body : List Stmt} {tc : TT} {tb : TS} (hp : PassesOwn (model X.prog X.w) X.A X.env X.xe) (hc : PT X c tc) (hb : PSs X body tb) : PS X (.While c body [] pos) (tWhile tc tb) := by
  intro pins s σ H D I h
  obtain ⟨W, ⟨m0, w0⟩, turn⟩ := h
  refine wpAny_While (codeAny_whileLoop (fun n s' => ∃ σ' H', Inv X pins σ' H' s' ∧ W n σ' H') ?_ m0 ⟨σ, H, I, w0⟩)
  rintro n s1 ⟨σ1, H1, I1, w1⟩
  refine wpAny_passesOwn hp (thn (hc pins s1 σ1 H1 _ I1 (turn n σ1 H1 w1)) fun b s2 ⟨H2, I2, q2⟩ => ?_)
  cases b with
  | true =>
    obtain ⟨N, hN, q2⟩ := q2
    rw [if_pos rfl]
    refine wpAny_passesOwn hp (thn (hb pins s2 σ1 H2 _ I2 q2) fun f s3 q3 => ?_)
    cases f with
    | next =>
      obtain ⟨σ3, H3, I3, n3⟩ := q3
      obtain ⟨m', hm, w3⟩ := hN σ3 H3 n3
      exact ⟨m', hm, σ3, H3, I3, w3⟩
    | cont =>
      obtain ⟨σ3, H3, I3, n3⟩ := q3
      obtain ⟨m', hm, w3⟩ := hN σ3 H3 n3
      exact ⟨m', hm, σ3, H3, I3, w3⟩
    | brk => exact q3
    | ret v => exact q3
  | false =>
    rw [if_neg Bool.false_ne_true]
    exact wpAny_execs_nil ⟨σ1, H2, I2, q2⟩
end
structure It where
  go : Nat → Hp → Prop
  yld : Nat → Hp → V → Hp → Prop
  stop : Nat → Hp → Prop
def FpOk (X : Cx) (pins : List (Addr × Obj)) (H : Hp) (b : Addr) : Prop :=
  H b = none ∧ b ≠ X.env.locals ∧ b ∉ X.fs ∧ (b ∈ X.ex ∨ X.s₀.heap.objs.size ≤ b) ∧ (∀ x c, X.env.cells.lookup x = some c → c ≠ b) ∧ ∀ p ∈ X.pn ++ pins, p.1 ≠ b
theorem Inv.fpOk {X : Cx} {pins : List (Addr × Obj)} {σ : St} {H H' : Hp} {s : Shared} {b : Addr} (I : Inv X pins σ H s) (hb : s.heap.objs.size ≤ b) (hn : H' b = none) : FpOk X pins H' b := by
  refine ⟨hn, Nat.ne_of_gt (Nat.lt_of_lt_of_le I.lt hb), I.nofs hb, .inr (Nat.le_trans I.sz hb), fun x c e z => ?_, fun p hp z => ?_⟩
  · obtain ⟨v, q⟩ := I.cell x c e
    exact absurd (Nat.lt_of_lt_of_le q.lt (by rw [z]; exact hb)) (Nat.lt_irrefl _)
  · exact absurd (Nat.lt_of_lt_of_le (Heap.lt_size (I.pin p hp).1) (by rw [z]; exact hb)) (Nat.lt_irrefl _)
structure Turn (P : Program) (w : World) (K : PySem.W.Frag) (tg : Expr) (J : It) (fp : List Addr) (it : Addr) (tn : Nat → Heap → Prop) : Prop where
  mem : it ∈ fp
  obj : ∀ i h, tn i h → ∀ b ∈ fp, ∃ o, h.get? b = some o ∧ ∀ v, o.data ≠ .cell v
  keep : ∀ i h h', tn i h → (∀ b ∈ fp, ∀ o, h.get? b = some o → h'.get? b = some o) → tn i h'
  item : ∀ (X : Cx), X.prog = P → X.w = w → X.K = K → X.calm = true → ∀ (i : Nat) (pins : List (Addr × Obj)) (s : Shared) (σ : St) (H : Hp) (E : Value → Shared → Prop), Inv X pins σ H s → (∀ b ∈ fp, FpOk X pins H b) → tn i s.heap → J.go i H →
    wpAny (model P w) X.A (pyNext (.ref it)) (fun r s1 => ∃ u, r = some u ∧
      wpAny (model P w) X.A (letOwnedTupleGo tg (.ref it) u) (fun _ s2 => ∃ x H', Inv X pins σ H' s2 ∧ RelV x u ∧ J.yld i H x H' ∧ tn (i + 1) s2.heap ∧ ∀ b ∈ fp, H' b = none) E s1) E s
  done : ∀ (X : Cx), X.prog = P → X.w = w → X.K = K → X.calm = true → ∀ (i : Nat) (pins : List (Addr × Obj)) (s : Shared) (σ : St) (H : Hp) (E : Value → Shared → Prop), Inv X pins σ H s → (∀ b ∈ fp, FpOk X pins H b) → tn i s.heap → J.stop i H →
    wpAny (model P w) X.A (pyNext (.ref it)) (fun r s1 => r = none ∧ Inv X pins σ H s1) E s
  self : ∀ (A : Around) (i : Nat) (s : Shared) (Q : Value → Shared → Prop) (E : Value → Shared → Prop), tn i s.heap → Q (.ref it) s → wpAny (model P w) A (pyIter (.ref it)) Q E s
abbrev TI := St → Hp → (It → Hp → Prop) → Prop
def PIE (X : Cx) (pins : List (Addr × Obj)) (σ : St) (tg : Expr) (R : It → Hp → Prop) (itv : Value) (s2 : Shared) : Prop :=
  ∃ (it : Addr) (fp : List Addr) (tn : Nat → Heap → Prop) (J : It) (H' : Hp), itv = .ref it ∧ Inv X pins σ H' s2 ∧ Turn X.prog X.w X.K tg J fp it tn ∧ tn 0 s2.heap ∧ (∀ b ∈ fp, FpOk X pins H' b) ∧ R J H'
def PI (X : Cx) (tg iter : Expr) (wi : TI) : Prop :=
  ∀ (pins : List (Addr × Obj)) (s : Shared) (σ : St) (H : Hp) (R : It → Hp → Prop), Inv X pins σ H s → wi σ H R →
    wpAny (model X.prog X.w) X.A (eval iter X.env) (fun v s1 => wpAny (model X.prog X.w) X.A (pyIter v) (PIE X pins σ tg R) X.xe s1) X.xe s
theorem go_of {M : Model} {A : Around} {E : Value → Shared → Prop} {s : Shared} {tg : Expr} {it : Addr} {u : Value} {o : Obj} {n : String} {vs : Array Value} {Q : Unit → Shared → Prop} (ho : s.heap.get? it = some o) (hc : o.cls = .type n) (hd : o.data = .fields vs)
    (hn : ["enumerate", "zip", "dict_itemiterator", "dict_reverseitemiterator", "odict_iterator", "itertools.zip_longest", "itertools.pairwise"].contains n = false) (hQ : Q () s) : wpAny M A (letOwnedTupleGo tg (.ref it) u) Q E s := by
  unfold letOwnedTupleGo
  cases tg <;> first
    | exact wpAny_pure hQ
    | (cases u <;> first
        | exact wpAny_pure hQ
        | (refine wpAny_bind (wpAny_load ho ?_)
           rw [hc, hd]
           show wpAny M A (if (["enumerate", "zip", "dict_itemiterator", "dict_reverseitemiterator", "odict_iterator", "itertools.zip_longest", "itertools.pairwise"].contains n && vs[0]? == some (rawInt _)) = true then _ else _) Q E s
           rw [if_neg (by intro h; rw [hn, Bool.false_and] at h; cases h)]
           exact wpAny_pure hQ))
def Itl (K : PySem.W.Frag) (a : Addr) : It :=
  ⟨fun i H => ∃ xs x, SqL K H a xs ∧ xs[i]? = some x, fun i H x H' => H' = H ∧ ∀ xs, SqL K H a xs → xs[i]? = some x, fun i H => ∃ xs, SqL K H a xs ∧ xs.length ≤ i⟩
def Itt (K : PySem.W.Frag) (a : Addr) : It :=
  ⟨fun i H => ∃ xs x, SqT K H a xs ∧ xs[i]? = some x, fun i H x H' => H' = H ∧ ∀ xs, SqT K H a xs → xs[i]? = some x, fun i H => ∃ xs, SqT K H a xs ∧ xs.length ≤ i⟩
def Itr (lo : Int) (n : Nat) : It := ⟨fun i _ => i < n, fun i H x H' => H' = H ∧ x = .int (lo + i), fun i _ => n ≤ i⟩
theorem turn_list {P : Program} {w : World} {K : PySem.W.Frag} {tg : Expr} (a it : Addr) : Turn P w K tg (Itl K a) [it] it (fun i h => h.IsListIter it a i) where
  mem := by simp
  obj := fun i h st b hb => by
    have e : b = it := by simpa using hb
    subst e
    obtain ⟨o, e, c, d⟩ := st
    exact ⟨o, e, fun v z => by rw [d] at z; cases z⟩
  keep := fun i h h' st k => st.at fun o e => k it (by simp) o e
  item := by
    intro X hP hw hK hc i pins s σ H E I hf st hg
    subst hP hw hK
    obtain ⟨xs, x, hq, hx⟩ := hg
    obtain ⟨its, rv, p, hz⟩ := I.list hq
    obtain ⟨u, hu, ru⟩ := rv.get hx
    obtain ⟨f0, f1, f2, f3, f4, f5⟩ := hf it (by simp)
    refine wpAny_pyNext_list_item st p.isList (x := u) (by simpa using hu) fun h' st' sb => ?_
    have I1 : Inv X pins σ H { s with heap := h' } := I.turned (t' := s.toks) (fun b o hb e => (sb.2 b hb).trans e) f0 f1 f3 f4 f5
    obtain ⟨o, e, c, d⟩ := id st'
    exact ⟨u, rfl, go_of (s := { s with heap := h' }) e c d (by decide) ⟨x, H, I1, ru, ⟨rfl, fun ys hy => by rw [I.list_inj hy hq]; exact hx⟩, st', fun b hb => (hf b hb).1⟩⟩
  done := by
    intro X hP hw hK hc i pins s σ H E I hf st hg
    subst hP hw hK
    obtain ⟨xs, hq, hx⟩ := hg
    obtain ⟨its, rv, p, hz⟩ := I.list hq
    obtain ⟨f0, f1, f2, f3, f4, f5⟩ := hf it (by simp)
    have hl := rv.length
    exact wpAny_pyNext_list_end (I.ok.hd hc) st p.isList (by simp; omega) fun h' eb => ⟨rfl, I.turned (t' := s.toks) (fun b o hb e => eb b o hb e) f0 f1 f3 f4 f5⟩
  self := fun _ _ _ _ _ st h => wpAny_pyIter_listiter st h
theorem turn_tuple {P : Program} {w : World} {K : PySem.W.Frag} {tg : Expr} (a it : Addr) : Turn P w K tg (Itt K a) [it] it (fun i h => h.IsTupleIter it a i) where
  mem := by simp
  obj := fun i h st b hb => by
    have e : b = it := by simpa using hb
    subst e
    obtain ⟨o, e, c, d⟩ := st
    exact ⟨o, e, fun v z => by rw [d] at z; cases z⟩
  keep := fun i h h' st k => st.at fun o e => k it (by simp) o e
  item := by
    intro X hP hw hK hc i pins s σ H E I hf st hg
    subst hP hw hK
    obtain ⟨xs, x, hq, hx⟩ := hg
    obtain ⟨its, rv, p, hz⟩ := I.tuple hq
    obtain ⟨u, hu, ru⟩ := rv.get hx
    obtain ⟨f0, f1, f2, f3, f4, f5⟩ := hf it (by simp)
    refine wpAny_pyNext_tuple_item st (show s.heap.IsTuple a its.toArray from p) (x := u) (by simpa using hu) fun h' st' sb => ?_
    have I1 : Inv X pins σ H { s with heap := h' } := I.turned (t' := s.toks) (fun b o hb e => (sb.2 b hb).trans e) f0 f1 f3 f4 f5
    obtain ⟨o, e, c, d⟩ := id st'
    exact ⟨u, rfl, go_of (s := { s with heap := h' }) e c d (by decide) ⟨x, H, I1, ru, ⟨rfl, fun ys hy => by rw [I.tuple_inj hy hq]; exact hx⟩, st', fun b hb => (hf b hb).1⟩⟩
  done := by
    intro X hP hw hK hc i pins s σ H E I hf st hg
    subst hP hw hK
    obtain ⟨xs, hq, hx⟩ := hg
    obtain ⟨its, rv, p, hz⟩ := I.tuple hq
    obtain ⟨f0, f1, f2, f3, f4, f5⟩ := hf it (by simp)
    have hl := rv.length
    exact wpAny_pyNext_tuple_end (I.ok.hd hc) st (show s.heap.IsTuple a its.toArray from p) (by simp; omega) fun h' eb => ⟨rfl, I.turned (t' := s.toks) (fun b o hb e => eb b o hb e) f0 f1 f3 f4 f5⟩
  self := fun _ _ _ _ _ st h => wpAny_pyIter_tupleiter st h
theorem turn_range {P : Program} {w : World} {K : PySem.W.Frag} {tg : Expr} (it : Addr) (lo : Int) (n : Nat) : Turn P w K tg (Itr lo n) [it] it (fun i h => IsRangeIter h it (lo + (i : Nat) * 1) ((n : Int) - (i : Nat)) 1) where
  mem := by simp
  obj := fun i h st b hb => by
    have e : b = it := by simpa using hb
    subst e
    exact ⟨_, st, fun v z => by
      have z' : Data.fields _ = Data.cell v := z
      cases z'⟩
  keep := fun i h h' st k => k it (by simp) _ st
  item := by
    intro X hP hw hK hc i pins s σ H E I hf st hg
    subst hP hw hK
    obtain ⟨f0, f1, f2, f3, f4, f5⟩ := hf it (by simp)
    have W := Walks.range (prog := X.prog) (w := X.w) (I.ok.hd hc) it lo 1 n
    refine W.item i s _ _ hg st fun v h' tk hv st' kk => ?_
    obtain ⟨t, rfl⟩ := hv
    have I1 : Inv X pins σ H { s with heap := h', toks := tk } := I.turned (fun b o hb e => kk b o (by simpa using hb) e) f0 f1 f3 f4 f5
    refine ⟨_, rfl, go_of (s := { s with heap := h', toks := tk }) (n := "range_iterator") st' rfl rfl (by decide) ⟨.int (lo + i), H, I1, ⟨t, ?_⟩, ⟨rfl, rfl⟩, st', fun b hb => (hf b hb).1⟩⟩
    rw [Int.mul_one]
  done := by
    intro X hP hw hK hc i pins s σ H E I hf st hg
    subst hP hw hK
    obtain ⟨f0, f1, f2, f3, f4, f5⟩ := hf it (by simp)
    exact wpAny_pyNext_range_end (I.ok.hd hc) st (by have : n ≤ i := hg; omega) fun h' eb => ⟨rfl, I.turned (t' := s.toks) (fun b o hb e => eb b o hb e) f0 f1 f3 f4 f5⟩
  self := fun _ _ _ _ _ st h => wpAny_pyIter_rangeiter st h
end L2
namespace L2
open PySem PySem.Spec PyProof.Rows
section
variable {X : Cx} {tg : Expr}
theorem range_it {pins : List (Addr × Obj)} {σ : St} {H : Hp} {s : Shared} {R : It → Hp → Prop} {E : Value → Shared → Prop} {lo hi : Int} {t u v : Tok} {tk : Nat} (I : Inv X pins σ H s) (h1 : -(2 ^ 62) ≤ lo) (h2 : lo < 2 ^ 62) (h3 : -(2 ^ 62) ≤ hi) (h4 : hi < 2 ^ 62)
    (q : R (Itr lo (hi - lo).toNat) H) : wpAny (model X.prog X.w) X.A (pyIter (.ref s.heap.objs.size)) (PIE X pins σ tg R) E { s with heap := s.heap.push { cls := .type "range", data := .fields #[.int lo t, .int hi u, .int 1 v] }, toks := tk } := by
  refine wpAny_pyIter_range (IsRange.new ..) (small_one h1 h2 h3 h4) ?_
  have I1 : Inv X pins σ H { s with heap := s.heap.push { cls := .type "range", data := .fields #[.int lo t, .int hi u, .int 1 v] }, toks := tk } := I.kept fun b o e => Heap.get?_push_of_some _ e
  refine ⟨(s.heap.push { cls := .type "range", data := .fields #[.int lo t, .int hi u, .int 1 v] }).objs.size, [(s.heap.push { cls := .type "range", data := .fields #[.int lo t, .int hi u, .int 1 v] }).objs.size], _, _, H, rfl,
    I1.kept (t' := tk) fun b o e => Heap.get?_push_of_some _ e, turn_range _ lo (hi - lo).toNat, ?_, fun b hb => ?_, q⟩
  · have e1 : lo + ((0 : Nat) : Int) * 1 = lo := by simp
    have e2 : (((hi - lo).toNat : Nat) : Int) - ((0 : Nat) : Int) = Builtin.Range.rangeSize lo hi 1 := by rw [rangeSize_one]; split <;> omega
    show IsRangeIter _ _ (lo + ((0 : Nat) : Int) * 1) ((((hi - lo).toNat : Nat) : Int) - ((0 : Nat) : Int)) 1
    rw [e1, e2]
    exact Heap.get?_push_size _ rfl
  · have e : b = (s.heap.push { cls := .type "range", data := .fields #[.int lo t, .int hi u, .int 1 v] }).objs.size := by simpa using hb
    subst e
    exact I1.fpOk (Nat.le_refl _) (I1.hok.fresh (Nat.le_refl _))
def iRng1 (ta : TA) : TI := fun σ H R => ta σ H fun vs H1 => ∃ j : Int, vs = [.int j] ∧ -(2 ^ 62) ≤ j ∧ j < 2 ^ 62 ∧ R (Itr 0 j.toNat) H1
theorem pi_range1 {a : Expr} {ta : TA} {p pos : Pos} (hg : Gl X "range") (hm : X.mg "range" = none) (ha : PA X [a] ta) (hs : starEach [a] X.env = [(false, eval a X.env)] := by rfl) : PI X tg (.Call (.Name "range" p) [a] [] pos) (iRng1 ta) := by
  intro pins s σ H R I h
  refine Call_ (ld_blt I hg hm boot_range (PyProof.Rows.callWith_type1 (thn (ha pos pins s σ H _ I h) fun us s1 ⟨vs, H1, I1, r1, q1⟩ => ?_) hs rfl))
  obtain ⟨j, e, q1, q2, q⟩ := q1
  subst e
  cases r1 with
  | cons r rr =>
    cases rr
    obtain ⟨t, rfl⟩ := r
    exact call_range_1 (range_it I1 (by omega) (by omega) q1 q2 (by simpa using q))
def tFor (wi : TI) (g : TG) (tb : TS) : TS := fun D σ H => wi σ H fun J H1 => ∃ W : Nat → Nat → St → Hp → Prop, (∃ m, W 0 m σ H1) ∧ ∀ i m σ H, W i m σ H →
  (J.stop i H ∧ D.nx σ H) ∨ (J.go i H ∧ ∃ N : St → Hp → Prop, (∀ σ' H', N σ' H' → ∃ m', m' < m ∧ W (i + 1) m' σ' H') ∧ ∀ x H', J.yld i H x H' → g x σ H' fun σ2 H2 => tb { D with nx := N, ct := N, bk := D.nx } σ2 H2)
def pinsAt (fp : List Addr) (h : Heap) : List (Addr × Obj) := fp.filterMap fun b => (h.get? b).map fun o => (b, o)
theorem mem_pinsAt {fp : List Addr} {h : Heap} {b : Addr} {o : Obj} (hb : b ∈ fp) (e : h.get? b = some o) : (b, o) ∈ pinsAt fp h := List.mem_filterMap.mpr ⟨b, hb, by rw [e]; rfl⟩
theorem of_pinsAt {fp : List Addr} {h : Heap} {p : Addr × Obj} (hp : p ∈ pinsAt fp h) : p.1 ∈ fp ∧ h.get? p.1 = some p.2 := by
  obtain ⟨b, hb, e⟩ := List.mem_filterMap.mp hp
  cases q : h.get? b with
  | none => rw [q] at e; cases e
  | some o =>
    rw [q] at e
    have e' : (b, o) = p := Option.some.inj e
    subst e'
    exact ⟨hb, q⟩
theorem Inv.pinned {pins : List (Addr × Obj)} {σ : St} {H : Hp} {s : Shared} {fp : List Addr} (I : Inv X pins σ H s) (hf : ∀ b ∈ fp, FpOk X pins H b) (ho : ∀ b ∈ fp, ∃ o, s.heap.get? b = some o ∧ ∀ v, o.data ≠ .cell v) : Inv X (pins ++ pinsAt fp s.heap) σ H s :=
  I.pins_of fun p hp => (List.mem_append.mp hp).elim (fun z => I.pin p (List.mem_append_right _ z)) fun z => by
    obtain ⟨hb, e⟩ := of_pinsAt z
    obtain ⟨f0, f1, f2, _⟩ := hf p.1 hb
    obtain ⟨o, e', d⟩ := ho p.1 hb
    rw [e] at e'; cases e'
    exact ⟨e, f0, f1, f2, d⟩
theorem Inv.unpinned {pins pl : List (Addr × Obj)} {σ : St} {H : Hp} {s : Shared} (I : Inv X (pins ++ pl) σ H s) : Inv X pins σ H s := I.pins_of fun p hp => I.pin p (List.mem_append_right _ (List.mem_append_left _ hp))
theorem ps_for {iter : Expr} {body : List Stmt} {wi : TI} {g : TG} {tb : TS} {pos : Pos} (hp : PassesOwn (model X.prog X.w) X.A X.env X.xe) (hc : X.calm = true) (hi : PI X tg iter wi) (hg : PG X tg g) (hb : PSs X body tb)
    (hs : ∀ x, foldedSetIterable iter X.env x = pure x := by intro _; rfl) : PS X (.For tg iter body [] pos) (tFor wi g tb) := by
  intro pins s σ H D I h
  refine wpAny_For (thn (hi pins s σ H _ I h) fun v s1 h1 => thn h1 fun itv s2 h2 => ?_) hs
  obtain ⟨it, fp, tn, J, H2, e, I2, T, st2, f2, W, ⟨m0, w0⟩, turn⟩ := h2
  subst e
  -- what stays true of the iterator's objects through the loop
  have stat : ∀ {H' : Hp}, (∀ b ∈ fp, H' b = none) → ∀ b ∈ fp, FpOk X pins H' b := fun hn b hb => ⟨hn b hb, (f2 b hb).2⟩
  refine codeAny_forLoop_any (fun n s' => ∃ i σ' H', Inv X pins σ' H' s' ∧ tn i s'.heap ∧ (∀ b ∈ fp, H' b = none) ∧ W i n σ' H') ?_ m0 ⟨0, σ, H2, I2, st2, fun b hb => (f2 b hb).1, w0⟩
  rintro n s3 ⟨i, σ3, H3, I3, st3, fr3, w3⟩
  rcases turn i n σ3 H3 w3 with ⟨stop, qn⟩ | ⟨go, N, hN, step⟩
  · refine wpAny_passesOwn hp (thn (T.done X rfl rfl rfl hc i pins s3 σ3 H3 X.xe I3 (stat fr3) st3 stop) fun r s4 ⟨hr, I4⟩ => ?_)
    subst hr
    exact wpAny_execs_nil ⟨σ3, H3, I4, qn⟩
  · refine wpAny_passesOwn hp (thn (T.item X rfl rfl rfl hc i pins s3 σ3 H3 X.xe I3 (stat fr3) st3 go) fun r s4 ⟨u, hr, h4⟩ => ?_)
    subst hr
    refine wpAny_passesOwn hp (thn h4 fun _ s5 ⟨x, H5, I5, r5, y5, st5, fr5⟩ => ?_)
    have I5' := I5.pinned (stat fr5) (T.obj _ _ st5)
    refine wpAny_passesOwn hp (thn (hg _ s5 σ3 H5 x u _ I5' r5 (step x H5 y5)) fun _ s6 ⟨σ6, H6, I6, q6⟩ => ?_)
    refine wpAny_passesOwn hp (thn (hb _ s6 σ6 H6 _ I6 q6) fun f s7 q7 => ?_)
    have again : ∀ {σ7 : St} {H7 : Hp}, Inv X (pins ++ pinsAt fp s5.heap) σ7 H7 s7 → N σ7 H7 → ∃ m, m < n ∧ ∃ i σ' H', Inv X pins σ' H' s7 ∧ tn i s7.heap ∧ (∀ b ∈ fp, H' b = none) ∧ W i m σ' H' := fun {σ7 H7} I7 n7 => by
      obtain ⟨m', hm, w7⟩ := hN σ7 H7 n7
      refine ⟨m', hm, i + 1, σ7, H7, I7.unpinned, T.keep _ _ _ st5 fun b hb o e => (I7.pin (b, o) (List.mem_append_right _ (List.mem_append_right _ (mem_pinsAt hb e)))).1, fun b hb => ?_, w7⟩
      obtain ⟨o, e, d⟩ := T.obj _ _ st5 b hb
      exact (I7.pin (b, o) (List.mem_append_right _ (List.mem_append_right _ (mem_pinsAt hb e)))).2.1
    cases f with
    | next => obtain ⟨σ7, H7, I7, n7⟩ := q7; exact again I7 n7
    | cont => obtain ⟨σ7, H7, I7, n7⟩ := q7; exact again I7 n7
    | brk => obtain ⟨σ7, H7, I7, q7⟩ := q7; exact ⟨σ7, H7, I7.unpinned, q7⟩
    | ret v => obtain ⟨x7, σ7, H7, I7, r7, q7⟩ := q7; exact ⟨x7, σ7, H7, I7.unpinned, r7, q7⟩
end
theorem for_list {K : PySem.W.Frag} {a : Addr} {xs : List V} {g : TG} {tb : TS} {D : Ends} {σ : St} {H : Hp} (Pv : Nat → St → Hp → Prop) (h0 : Pv 0 σ H) (hl : ∀ i σ H, i ≤ xs.length → Pv i σ H → SqL K H a xs)
    (hs : ∀ i x σ H, xs[i]? = some x → Pv i σ H → g x σ H fun σ2 H2 => tb { D with nx := Pv (i + 1), ct := Pv (i + 1), bk := D.nx } σ2 H2) (hd : ∀ σ H, Pv xs.length σ H → D.nx σ H) :
    ∃ W : Nat → Nat → St → Hp → Prop, (∃ m, W 0 m σ H) ∧ ∀ i m σ H, W i m σ H →
      ((Itl K a).stop i H ∧ D.nx σ H) ∨ ((Itl K a).go i H ∧ ∃ N : St → Hp → Prop, (∀ σ' H', N σ' H' → ∃ m', m' < m ∧ W (i + 1) m' σ' H') ∧ ∀ x H', (Itl K a).yld i H x H' → g x σ H' fun σ2 H2 => tb { D with nx := N, ct := N, bk := D.nx } σ2 H2) := by
  refine ⟨fun i m σ H => m = xs.length - i ∧ i ≤ xs.length ∧ Pv i σ H, ⟨xs.length, by simp, Nat.zero_le _, h0⟩, ?_⟩
  rintro i m σ H ⟨rfl, hi, p⟩
  have q := hl i σ H hi p
  by_cases hlt : i < xs.length
  · refine .inr ⟨⟨xs, xs[i], q, by simp [hlt]⟩, Pv (i + 1), fun σ' H' p' => ⟨xs.length - (i + 1), by omega, rfl, hlt, p'⟩, fun x H' y => ?_⟩
    obtain ⟨e, y⟩ := y
    subst e
    exact hs i x σ _ (y xs q) p
  · have e : i = xs.length := by omega
    subst e
    exact .inl ⟨⟨xs, q, Nat.le_refl _⟩, hd σ H p⟩
theorem for_tup {K : PySem.W.Frag} {a : Addr} {xs : List V} {g : TG} {tb : TS} {D : Ends} {σ : St} {H : Hp} (Pv : Nat → St → Hp → Prop) (h0 : Pv 0 σ H) (hl : ∀ i σ H, i ≤ xs.length → Pv i σ H → SqT K H a xs)
    (hs : ∀ i x σ H, xs[i]? = some x → Pv i σ H → g x σ H fun σ2 H2 => tb { D with nx := Pv (i + 1), ct := Pv (i + 1), bk := D.nx } σ2 H2) (hd : ∀ σ H, Pv xs.length σ H → D.nx σ H) :
    ∃ W : Nat → Nat → St → Hp → Prop, (∃ m, W 0 m σ H) ∧ ∀ i m σ H, W i m σ H →
      ((Itt K a).stop i H ∧ D.nx σ H) ∨ ((Itt K a).go i H ∧ ∃ N : St → Hp → Prop, (∀ σ' H', N σ' H' → ∃ m', m' < m ∧ W (i + 1) m' σ' H') ∧ ∀ x H', (Itt K a).yld i H x H' → g x σ H' fun σ2 H2 => tb { D with nx := N, ct := N, bk := D.nx } σ2 H2) := by
  refine ⟨fun i m σ H => m = xs.length - i ∧ i ≤ xs.length ∧ Pv i σ H, ⟨xs.length, by simp, Nat.zero_le _, h0⟩, ?_⟩
  rintro i m σ H ⟨rfl, hi, p⟩
  have q := hl i σ H hi p
  by_cases hlt : i < xs.length
  · refine .inr ⟨⟨xs, xs[i], q, by simp [hlt]⟩, Pv (i + 1), fun σ' H' p' => ⟨xs.length - (i + 1), by omega, rfl, hlt, p'⟩, fun x H' y => ?_⟩
    obtain ⟨e, y⟩ := y
    subst e
    exact hs i x σ _ (y xs q) p
  · have e : i = xs.length := by omega
    subst e
    exact .inl ⟨⟨xs, q, Nat.le_refl _⟩, hd σ H p⟩
theorem for_range {lo : Int} {n : Nat} {g : TG} {tb : TS} {D : Ends} {σ : St} {H : Hp} (Pv : Nat → St → Hp → Prop) (h0 : Pv 0 σ H)
    (hs : ∀ i σ H, i < n → Pv i σ H → g (.int (lo + i)) σ H fun σ2 H2 => tb { D with nx := Pv (i + 1), ct := Pv (i + 1), bk := D.nx } σ2 H2) (hd : ∀ σ H, Pv n σ H → D.nx σ H) :
    ∃ W : Nat → Nat → St → Hp → Prop, (∃ m, W 0 m σ H) ∧ ∀ i m σ H, W i m σ H →
      ((Itr lo n).stop i H ∧ D.nx σ H) ∨ ((Itr lo n).go i H ∧ ∃ N : St → Hp → Prop, (∀ σ' H', N σ' H' → ∃ m', m' < m ∧ W (i + 1) m' σ' H') ∧ ∀ x H', (Itr lo n).yld i H x H' → g x σ H' fun σ2 H2 => tb { D with nx := N, ct := N, bk := D.nx } σ2 H2) := by
  refine ⟨fun i m σ H => m = n - i ∧ i ≤ n ∧ Pv i σ H, ⟨n, by simp, Nat.zero_le _, h0⟩, ?_⟩
  rintro i m σ H ⟨rfl, hi, p⟩
  by_cases hlt : i < n
  · refine .inr ⟨hlt, Pv (i + 1), fun σ' H' p' => ⟨n - (i + 1), by omega, rfl, hlt, p'⟩, fun x H' y => ?_⟩
    obtain ⟨e, y⟩ := y
    subst e y
    exact hs i σ _ hlt p
  · have e : i = n := by omega
    subst e
    exact .inl ⟨Nat.le_refl _, hd σ H p⟩
theorem while_by {c : TT} {tb : TS} {D : Ends} {σ : St} {H : Hp} (Pv : St → Hp → Prop) (μ : St → Hp → Nat) (h0 : Pv σ H)
    (hs : ∀ σ H, Pv σ H → c σ H fun b H1 => if b = true then tb { D with nx := fun σ' H' => Pv σ' H' ∧ μ σ' H' < μ σ H, ct := fun σ' H' => Pv σ' H' ∧ μ σ' H' < μ σ H, bk := D.nx } σ H1 else D.nx σ H1)
    (mono : ∀ σ H Q Q', (∀ b H1, Q b H1 → Q' b H1) → c σ H Q → c σ H Q') : tWhile c tb D σ H := by
  refine ⟨fun m σ H => m = μ σ H ∧ Pv σ H, ⟨_, rfl, h0⟩, ?_⟩
  rintro m σ H ⟨rfl, p⟩
  refine mono σ H _ _ (fun b H1 q => ?_) (hs σ H p)
  cases b with
  | true => exact ⟨_, fun σ' H' ⟨p', l⟩ => ⟨_, l, rfl, p'⟩, q⟩
  | false => exact q
end L2
namespace L2
open PySem PySem.Spec PyProof.Rows
abbrev R2 := V → V → Hp → VK → Prop
def OpR (X : Cx) (f : Value → Value → Sem Value) (r : R2) : Prop :=
  ∀ (pins : List (Addr × Obj)) (s : Shared) (σ : St) (H : Hp) (x y : V) (v u : Value) (Q : VK), Inv X pins σ H s → RelV x v → RelV y u → r x y H Q →
    wpAny (model X.prog X.w) X.A (f v u) (EP X pins σ Q) X.xe s
def UnR (X : Cx) (f : Value → Sem Value) (r : V → Hp → VK → Prop) : Prop :=
  ∀ (pins : List (Addr × Obj)) (s : Shared) (σ : St) (H : Hp) (x : V) (v : Value) (Q : VK), Inv X pins σ H s → RelV x v → r x H Q →
    wpAny (model X.prog X.w) X.A (f v) (EP X pins σ Q) X.xe s
def CallR (X : Cx) (f : Value) (r : List V → Hp → VK → Prop) : Prop :=
  ∀ (pins : List (Addr × Obj)) (s : Shared) (σ : St) (H : Hp) (xs : List V) (us : List Value) (Q : VK), Inv X pins σ H s → Vals xs us → r xs H Q →
    wpAny (model X.prog X.w) X.A (call f us) (EP X pins σ Q) X.xe s
def TruR (X : Cx) (r : V → Hp → (Bool → Hp → Prop) → Prop) : Prop :=
  ∀ (pins : List (Addr × Obj)) (s : Shared) (σ : St) (H : Hp) (x : V) (v : Value) (Q : Bool → Hp → Prop), Inv X pins σ H s → RelV x v → r x H Q →
    wpAny (model X.prog X.w) X.A (truthy v) (TP X pins σ Q) X.xe s
def tOp (r : R2) (ta tb : TE) : TE := fun σ H Q => ta σ H fun x H1 => tb σ H1 fun y H2 => r x y H2 Q
def tUn (r : V → Hp → VK → Prop) (ta : TE) : TE := fun σ H Q => ta σ H fun x H1 => r x H1 Q
def rI (C : Int → Int → Prop) (g : Int → Int → V) : R2 := fun x y H Q => ∃ i j, x = .int i ∧ y = .int j ∧ C i j ∧ Q (g i j) H
def rI0 (g : Int → Int → V) : R2 := fun x y H Q => ∃ i j, x = .int i ∧ y = .int j ∧ Q (g i j) H
def rU (g : Int → V) : V → Hp → VK → Prop := fun x H Q => ∃ i, x = .int i ∧ Q (g i) H
section
variable {X : Cx} {a b c : Expr} {ta tb tc : TE} {pos : Pos}
theorem binT (ha : PE X a ta) (hb : PE X b tb) {pins : List (Addr × Obj)} {s : Shared} {σ : St} {H : Hp} {R : V → V → Hp → Prop} (I : Inv X pins σ H s)
    (h : ta σ H fun x H1 => tb σ H1 fun y H2 => R x y H2) {Q : Value → Shared → Prop} {f : Value → Value → Sem Value}
    (hf : ∀ v u s2 x y H2, Inv X pins σ H2 s2 → RelV x v → RelV y u → R x y H2 → wpAny (model X.prog X.w) X.A (f v u) Q X.xe s2) :
    wpAny (model X.prog X.w) X.A (eval a X.env) (fun v s₁ => wpAny (model X.prog X.w) X.A (eval b X.env) (fun u s₂ => wpAny (model X.prog X.w) X.A (f v u) Q X.xe s₂) X.xe s₁) X.xe s := by
  refine thn (ha pins s σ H _ I h) fun v s1 ⟨x, H1, I1, r1, q1⟩ => ?_
  refine thn (hb pins s1 σ H1 _ I1 q1) fun u s2 ⟨y, H2, I2, r2, q2⟩ => ?_
  exact hf v u s2 x y H2 I2 r1 r2 q2
theorem pe_op {op : Operator} {r : R2} (ho : OpR X (binaryOp op) r) (ha : PE X a ta) (hb : PE X b tb) : PE X (.BinOp a op b pos) (tOp r ta tb) := by
  intro pins s σ H Q I h
  exact wpAny_BinOp (binT ha hb I h fun v u s2 x y H2 I2 rx ry q => ho pins s2 σ H2 x y v u Q I2 rx ry q)
theorem pe_un {op : UnaryOp} {r : V → Hp → VK → Prop} (ho : UnR X (unaryOp op) r) (ha : PE X a ta) : PE X (.UnaryOp op a pos) (tUn r ta) := by
  intro pins s σ H Q I h
  exact UnaryOp_ (thn (ha pins s σ H _ I h) fun v s1 ⟨x, H1, I1, r1, q1⟩ => ho pins s1 σ H1 x v Q I1 r1 q1)
theorem opI {f : Value → Value → Sem Value} {C : Int → Int → Prop} {g : Int → Int → Int}
    (rule : ∀ (i j : Int) (t u : Tok) (s : Shared) (Q : Value → Shared → Prop) (E : Value → Shared → Prop), C i j → Q (.int (g i j) s.toks) { s with toks := s.toks + 1 } → wpAny (model X.prog X.w) X.A (f (.int i t) (.int j u)) Q E s) :
    OpR X f (rI C fun i j => .int (g i j)) := by
  intro pins s σ H x y v u Q I rx ry h
  obtain ⟨i, j, rfl, rfl, hc, q⟩ := h
  obtain ⟨t, rfl⟩ := rx
  obtain ⟨t', rfl⟩ := ry
  exact rule i j t t' s _ _ hc ⟨.int (g i j), H, I.tok _, ⟨_, rfl⟩, q⟩
theorem opI0 {f : Value → Value → Sem Value} {g : Int → Int → Int}
    (rule : ∀ (i j : Int) (t u : Tok) (s : Shared) (Q : Value → Shared → Prop) (E : Value → Shared → Prop), Q (.int (g i j) s.toks) { s with toks := s.toks + 1 } → wpAny (model X.prog X.w) X.A (f (.int i t) (.int j u)) Q E s) :
    OpR X f (rI0 fun i j => .int (g i j)) := by
  intro pins s σ H x y v u Q I rx ry h
  obtain ⟨i, j, rfl, rfl, q⟩ := h
  obtain ⟨t, rfl⟩ := rx
  obtain ⟨t', rfl⟩ := ry
  exact rule i j t t' s _ _ ⟨.int (g i j), H, I.tok _, ⟨_, rfl⟩, q⟩
theorem opB0 {f : Value → Value → Sem Value} {g : Int → Int → Bool}
    (rule : ∀ (i j : Int) (t u : Tok) (s : Shared) (Q : Value → Shared → Prop) (E : Value → Shared → Prop), Q (.bool (g i j)) s → wpAny (model X.prog X.w) X.A (f (.int i t) (.int j u)) Q E s) :
    OpR X f (rI0 fun i j => .bl (g i j)) := by
  intro pins s σ H x y v u Q I rx ry h
  obtain ⟨i, j, rfl, rfl, q⟩ := h
  obtain ⟨t, rfl⟩ := rx
  obtain ⟨t', rfl⟩ := ry
  exact rule i j t t' s _ _ ⟨.bl (g i j), H, I, rfl, q⟩
def CDiv (i j : Int) : Prop := 0 < j ∧ j < 1073741824
def CPow (i j : Int) : Prop := 0 ≤ j ∧ j ≤ 1000000 ∧ i.natAbs < 2 ^ 64
def CMul (i j : Int) : Prop := (-(2 ^ 64) < i ∧ i < 2 ^ 64) ∨ (-(2 ^ 64) < j ∧ j < 2 ^ 64)
theorem CMul.ok {i j : Int} (h : CMul i j) : IntMulOk i j := by
  rcases h with ⟨h1, h2⟩ | ⟨h1, h2⟩
  · exact .of_left (intBits_le_64 h1 h2)
  · exact .of_right (intBits_le_64 h1 h2)
theorem op_add : OpR X (binaryOp .Add) (rI0 fun i j => .int (i + j)) := opI0 fun _ _ _ _ _ _ _ q => add_int q
theorem op_sub : OpR X (binaryOp .Sub) (rI0 fun i j => .int (i - j)) := opI0 fun _ _ _ _ _ _ _ q => sub_int q
theorem op_mul : OpR X (binaryOp .Mult) (rI CMul fun i j => .int (i * j)) := opI fun _ _ _ _ _ _ _ hc q => mul_int q hc.ok
theorem op_fdiv : OpR X (binaryOp .FloorDiv) (rI CDiv fun i j => .int (i / j)) := opI fun i j _ _ _ _ _ hc q => by
  have h1 : (0 : Int) < j := hc.1
  have h2 : j < 1073741824 := hc.2
  exact floordiv_int (by omega) (by rw [Int.fdiv_eq_ediv_of_nonneg i (by omega)]; exact q) (.inl (PyProof.noPylong_small (by omega)))
theorem op_mod : OpR X (binaryOp .Mod) (rI (fun _ j => 0 < j) fun i j => .int (i % j)) := opI fun i j _ _ _ _ _ hc q => by
  have h1 : (0 : Int) < j := hc
  exact mod_int' (by omega) (by rw [Int.fmod_eq_emod_of_nonneg i (by omega)]; exact q)
theorem op_pow : OpR X (binaryOp .Pow) (rI CPow fun i j => .int (i ^ j.toNat)) := opI fun _ _ _ _ _ _ _ hc q => pow_int_small hc.1 hc.2.1 hc.2.2 q
theorem unI {f : Value → Sem Value} {g : Int → Int}
    (rule : ∀ (i : Int) (t : Tok) (s : Shared) (Q : Value → Shared → Prop) (E : Value → Shared → Prop), Q (.int (g i) s.toks) { s with toks := s.toks + 1 } → wpAny (model X.prog X.w) X.A (f (.int i t)) Q E s) :
    UnR X f (rU fun i => .int (g i)) := by
  intro pins s σ H x v Q I rx h
  obtain ⟨i, rfl, q⟩ := h
  obtain ⟨t, rfl⟩ := rx
  exact rule i t s _ _ ⟨.int (g i), H, I.tok _, ⟨_, rfl⟩, q⟩
theorem un_neg : UnR X (unaryOp .USub) (rU fun i => .int (-i)) := unI fun _ _ _ _ _ q => neg_int q
end
def scal : V → V → Bool
  | .non, .non => true | .non, .int _ => true | .int _, .non => true | .non, .bl _ => true | .bl _, .non => true | .non, .str _ => true | .str _, .non => true
  | .int _, .int _ => true | .bl _, .bl _ => true | .str _, .str _ => true | .byt _, .byt _ => true
  | .int _, .str _ => true | .str _, .int _ => true | .bl _, .str _ => true | .str _, .bl _ => true
  | _, _ => false
def rEq : R2 := fun x y H Q => scal x y = true ∧ Q (.bl (decide (x = y))) H
def rNe : R2 := fun x y H Q => scal x y = true ∧ Q (.bl (!decide (x = y))) H
theorem dec_int {i j : Int} : decide (V.int i = V.int j) = (i == j) := by
  rw [Bool.eq_iff_iff]
  simp
theorem dec_bl {i j : Bool} : decide (V.bl i = V.bl j) = (i == j) := by
  rw [Bool.eq_iff_iff]
  simp
theorem dec_str {i j : Str} : decide (V.str i = V.str j) = (i == j) := by
  rw [Bool.eq_iff_iff]
  simp
theorem dec_byt {i j : Array UInt8} : decide (V.byt i = V.byt j) = (i.toList == j.toList) := by
  rw [Bool.eq_iff_iff]
  cases i
  cases j
  simp
section
variable {X : Cx} {a b c : Expr} {ta tb tc : TE} {pos : Pos}
theorem fin_bl {pins : List (Addr × Obj)} {σ : St} {H : Hp} {s : Shared} {Q : VK} {k k' : Bool} (I : Inv X pins σ H s) (q : Q (.bl k) H) (e : k = k') : EP X pins σ Q (.bool k') s := by
  subst e
  exact ⟨.bl k, H, I, rfl, q⟩
theorem op_eq : OpR X (compareOp .Eq) rEq := by
  intro pins s σ H x y v u Q I rx ry h
  obtain ⟨hs, q⟩ := h
  cases x with
  | non =>
    cases rx
    cases y with
    | non => cases ry; exact PySem.EqNone.eq_none_none (fin_bl I q (by simp))
    | bl j => cases ry; exact PySem.EqNone.eq_none_bool (fin_bl I q (by simp))
    | int j => obtain ⟨t', rfl⟩ := ry; exact PySem.EqNone.eq_none_int (fin_bl I q (by simp))
    | str j => obtain ⟨t', rfl⟩ := ry; exact PySem.EqNone.eq_none_str (fin_bl I q (by simp))
    | _ => exact absurd (show false = true from hs) Bool.false_ne_true
  | bl i =>
    cases rx
    cases y with
    | non => cases ry; exact PySem.EqNone.eq_bool_none (fin_bl I q (by simp))
    | bl j => cases ry; exact eq_bool (fin_bl I q dec_bl)
    | str j => obtain ⟨t', rfl⟩ := ry; exact PySem.EqMixed.eq_bool_str (fin_bl I q (by simp))
    | _ => exact absurd (show false = true from hs) Bool.false_ne_true
  | int i =>
    obtain ⟨t, rfl⟩ := rx
    cases y with
    | non => cases ry; exact PySem.EqNone.eq_int_none (fin_bl I q (by simp))
    | int j => obtain ⟨t', rfl⟩ := ry; exact eq_int (fin_bl I q dec_int)
    | str j => obtain ⟨t', rfl⟩ := ry; exact PySem.EqMixed.eq_int_str (fin_bl I q (by simp))
    | _ => exact absurd (show false = true from hs) Bool.false_ne_true
  | str i =>
    obtain ⟨t, rfl⟩ := rx
    cases y with
    | non => cases ry; exact PySem.EqNone.eq_str_none (fin_bl I q (by simp))
    | bl j => cases ry; exact PySem.EqMixed.eq_str_bool (fin_bl I q (by simp))
    | int j => obtain ⟨t', rfl⟩ := ry; exact PySem.EqMixed.eq_str_int (fin_bl I q (by simp))
    | str j => obtain ⟨t', rfl⟩ := ry; exact eq_str (fin_bl I q dec_str)
    | _ => exact absurd (show false = true from hs) Bool.false_ne_true
  | byt i =>
    obtain ⟨t, rfl⟩ := rx
    cases y with
    | byt j => obtain ⟨t', rfl⟩ := ry; exact PySem.W.eq_bytes (fin_bl I q dec_byt)
    | _ => exact absurd (show false = true from hs) Bool.false_ne_true
  | _ => cases y <;> exact absurd (show false = true from hs) Bool.false_ne_true
theorem op_ne : OpR X (compareOp .NotEq) rNe := by
  intro pins s σ H x y v u Q I rx ry h
  obtain ⟨hs, q⟩ := h
  cases x with
  | non =>
    cases rx
    cases y with
    | non => cases ry; exact PySem.EqNone.ne_none_none (fin_bl I q (by simp))
    | bl j => cases ry; exact PySem.EqNone.ne_none_bool (fin_bl I q (by simp))
    | int j => obtain ⟨t', rfl⟩ := ry; exact PySem.EqNone.ne_none_int (fin_bl I q (by simp))
    | str j => obtain ⟨t', rfl⟩ := ry; exact PySem.EqNone.ne_none_str (fin_bl I q (by simp))
    | _ => exact absurd (show false = true from hs) Bool.false_ne_true
  | bl i =>
    cases rx
    cases y with
    | non => cases ry; exact PySem.EqNone.ne_bool_none (fin_bl I q (by simp))
    | bl j => cases ry; exact ne_bool (fin_bl I q (congrArg not dec_bl))
    | str j => obtain ⟨t', rfl⟩ := ry; exact PySem.EqMixed.ne_bool_str (fin_bl I q (by simp))
    | _ => exact absurd (show false = true from hs) Bool.false_ne_true
  | int i =>
    obtain ⟨t, rfl⟩ := rx
    cases y with
    | non => cases ry; exact PySem.EqNone.ne_int_none (fin_bl I q (by simp))
    | int j => obtain ⟨t', rfl⟩ := ry; exact ne_int (fin_bl I q (congrArg not dec_int))
    | str j => obtain ⟨t', rfl⟩ := ry; exact PySem.EqMixed.ne_int_str (fin_bl I q (by simp))
    | _ => exact absurd (show false = true from hs) Bool.false_ne_true
  | str i =>
    obtain ⟨t, rfl⟩ := rx
    cases y with
    | non => cases ry; exact PySem.EqNone.ne_str_none (fin_bl I q (by simp))
    | bl j => cases ry; exact PySem.EqMixed.ne_str_bool (fin_bl I q (by simp))
    | int j => obtain ⟨t', rfl⟩ := ry; exact PySem.EqMixed.ne_str_int (fin_bl I q (by simp))
    | str j => obtain ⟨t', rfl⟩ := ry; exact ne_str (fin_bl I q (congrArg not dec_str))
    | _ => exact absurd (show false = true from hs) Bool.false_ne_true
  | byt i =>
    obtain ⟨t, rfl⟩ := rx
    cases y with
    | byt j => obtain ⟨t', rfl⟩ := ry; exact PySem.W.ne_bytes (fin_bl I q (congrArg not dec_byt))
    | _ => exact absurd (show false = true from hs) Bool.false_ne_true
  | _ => cases y <;> exact absurd (show false = true from hs) Bool.false_ne_true
theorem op_lt : OpR X (compareOp .Lt) (rI0 fun i j => .bl (decide (i < j))) := opB0 fun _ _ _ _ _ _ _ q => lt_int q
theorem op_le : OpR X (compareOp .LtE) (rI0 fun i j => .bl (decide (i ≤ j))) := opB0 fun _ _ _ _ _ _ _ q => le_int q
theorem op_gt : OpR X (compareOp .Gt) (rI0 fun i j => .bl (decide (j < i))) := opB0 fun _ _ _ _ _ _ _ q => gt_int q
theorem op_ge : OpR X (compareOp .GtE) (rI0 fun i j => .bl (decide (j ≤ i))) := opB0 fun _ _ _ _ _ _ _ q => ge_int q
theorem op_lt_str : OpR X (compareOp .Lt) (fun x y H Q => ∃ i j, x = .str i ∧ y = .str j ∧ Q (.bl (decide (i.cps.toList < j.cps.toList))) H) := by
  intro pins s σ H x y v u Q I rx ry h
  obtain ⟨i, j, rfl, rfl, q⟩ := h
  obtain ⟨t, rfl⟩ := rx
  obtain ⟨t', rfl⟩ := ry
  exact lt_str (fin_bl I q rfl)
theorem op_in_str : OpR X (compareOp .In) (fun x y H Q => ∃ i j, x = .str i ∧ y = .str j ∧ Q (.bl (!(Builtin.Str.occurrences j i 0 j.length 1).isEmpty)) H) := by
  intro pins s σ H x y v u Q I rx ry h
  obtain ⟨i, j, rfl, rfl, q⟩ := h
  obtain ⟨t, rfl⟩ := rx
  obtain ⟨t', rfl⟩ := ry
  exact in_str (fin_bl I q rfl)
theorem op_isN : OpR X (compareOp .Is) (fun x y H Q => y = .non ∧ Q (.bl (decide (x = .non))) H) := by
  intro pins s σ H x y v u Q I rx ry h
  obtain ⟨rfl, q⟩ := h
  cases ry
  refine is_none_gen (fin_bl I q ?_)
  cases x <;> first
    | (cases rx; rfl)
    | (obtain ⟨t, rfl⟩ := rx; rfl)
theorem nomark (b : Expr) {op : CmpOp} (h : op ≠ .In := by decide) (h2 : op ≠ .NotIn := by decide) : behindInMarks op b = false := by
  have e1 : (op == CmpOp.In) = false := by cases op <;> first | rfl | exact absurd rfl h
  have e2 : (op == CmpOp.NotIn) = false := by cases op <;> first | rfl | exact absurd rfl h2
  cases b <;> simp [behindInMarks, e1, e2]
theorem pe_cmpR {op : CmpOp} {r : R2} (ho : OpR X (compareOp op) r) (ha : PE X a ta) (hb : PE X b tb) (hm : behindInMarks op b = false) : PE X (.Compare a [op] [b] pos) (tOp r ta tb) := by
  intro pins s σ H Q I h
  exact wpAny_Compare1 (binT ha hb I h fun v u s2 x y H2 I2 rx ry q => ho pins s2 σ H2 x y v u Q I2 rx ry q) hm
def tTest (t : TE) : TT := fun σ H Q => t σ H fun x H' => ∃ k, x = .bl k ∧ Q k H'
theorem pt_cmpR {op : CmpOp} {r : R2} (ho : OpR X (compareOp op) r) (ha : PE X a ta) (hb : PE X b tb) (hm : behindInMarks op b = false) : PT X (.Compare a [op] [b] pos) (tTest (tOp r ta tb)) := by
  intro pins s σ H Q I h
  refine wpAny_isTrue_Compare1 (thn (ha pins s σ H _ I h) fun v s1 ⟨x, H1, I1, r1, q1⟩ => thn (hb pins s1 σ H1 _ I1 q1) fun u s2 ⟨y, H2, I2, r2, q2⟩ =>
    thn (ho pins s2 σ H2 x y v u _ I2 r1 r2 q2) fun c s3 ⟨z, H3, I3, r3, k, e, q3⟩ => ?_) hm
  subst e
  cases r3
  exact wpAny_truthy_bool ⟨H3, I3, q3⟩
def TruV (K : PySem.W.Frag) (x : V) (H : Hp) (k : Bool) : Prop :=
  match x with
  | .non => k = false
  | .bl b => k = b
  | .int i => k = (i != 0)
  | .str y => y.length ≤ sizeLine ∧ k = ((y.length : Int) != 0)
  | .byt y => y.size ≤ sizeLine ∧ k = ((y.size : Int) != 0)
  | .ref p => (∃ xs, SqL K H p xs ∧ k = !xs.isEmpty) ∨ (∃ xs, SqT K H p xs ∧ k = !xs.isEmpty) ∨ ∃ kvs, H p = some (.dK kvs) ∧ k = !kvs.isEmpty
  | _ => False
theorem isEmpty_kv {κ : Type} {kvs : List (κ × V)} {vs : List (κ × Value)} (r : KV kvs vs) : (!vs.isEmpty) = !kvs.isEmpty := by
  cases r <;> rfl
theorem isEmpty_of {xs : List V} {its : List Value} (r : Vals xs its) : (!its.toArray.isEmpty) = !xs.isEmpty := by
  cases r <;> simp
theorem line63 : (sizeLine : Nat) < 2 ^ 63 := by rw [sizeLine_eq]; decide
theorem tru_ok : TruR X (fun x H Q => ∃ k, TruV X.K x H k ∧ Q k H) := by
  intro pins s σ H x v Q I rx h
  obtain ⟨k, e, q⟩ := h
  have hl := line63
  have hs : sizeLine = 16777216 := sizeLine_eq
  cases x with
  | non =>
    cases rx
    have e' : k = false := e
    subst e'
    exact truthy_none ⟨H, I, q⟩
  | bl b =>
    cases rx
    have e' : k = b := e
    subst e'
    exact wpAny_truthy_bool ⟨H, I, q⟩
  | int i =>
    obtain ⟨t, rfl⟩ := rx
    have e' : k = (i != 0) := e
    subst e'
    exact PySem.P.truthy_int ⟨H, I, q⟩
  | str y =>
    obtain ⟨t, rfl⟩ := rx
    obtain ⟨hy, e'⟩ : y.length ≤ sizeLine ∧ k = ((y.length : Int) != 0) := e
    subst e'
    exact PySem.P.truthy_str (by omega) ⟨H, I.tok _, q⟩
  | byt y =>
    obtain ⟨t, rfl⟩ := rx
    obtain ⟨hy, e'⟩ : y.size ≤ sizeLine ∧ k = ((y.size : Int) != 0) := e
    subst e'
    exact PySem.W.truthy_bytes (by omega) ⟨H, I.tok _, q⟩
  | ref p =>
    cases rx
    have e' : (∃ xs, SqL X.K H p xs ∧ k = !xs.isEmpty) ∨ (∃ xs, SqT X.K H p xs ∧ k = !xs.isEmpty) ∨ ∃ kvs, H p = some (.dK kvs) ∧ k = !kvs.isEmpty := e
    rcases e' with ⟨xs, hx, e'⟩ | ⟨xs, hx, e'⟩ | ⟨kvs, hx, e'⟩
    · subst e'
      obtain ⟨its, r, pl, hz⟩ := I.list hx
      have hlen := r.length
      exact wpAny_truthy_list pl.isList (by simp only [List.size_toArray]; omega) ⟨H, I.tok _, by rw [isEmpty_of r]; exact q⟩
    · subst e'
      obtain ⟨its, r, pl, hz⟩ := I.tuple hx
      have hlen := r.length
      exact truthy_tuple pl (by simp only [List.size_toArray]; omega) ⟨H, I.tok _, by rw [isEmpty_of r]; exact q⟩
    · subst e'
      obtain ⟨hz, hS, vs, r, m⟩ : kvs.length ≤ sizeLine ∧ (p == sysModules) = false ∧ ∃ vs, KV kvs vs ∧ s.heap.DictOf (mixKind X.prog X.w) p vs := I.hok p _ hx
      have hlen : kvs.length = vs.length := Paired.length r
      exact wpAny_truthy_dict hS m (by omega) ⟨H, I.tok _, by rw [isEmpty_kv r]; exact q⟩
  | _ => exact (show False from e).elim
theorem op_add_str : OpR X (binaryOp .Add) (fun x y H Q => ∃ i j, x = .str i ∧ y = .str j ∧ i.length + j.length ≤ sizeLine ∧ Q (.str (i ++ j)) H) := by
  intro pins s σ H x y v u Q I rx ry h
  obtain ⟨i, j, rfl, rfl, hz, q⟩ := h
  obtain ⟨t, rfl⟩ := rx
  obtain ⟨t', rfl⟩ := ry
  exact add_str (fun t' tk => ⟨.str (i ++ j), H, I.tok _, ⟨_, rfl⟩, q⟩) hz
theorem vals1 {x : V} {us : List Value} (r : Vals [x] us) : ∃ u, us = [u] ∧ RelV x u := by
  cases r with
  | cons r1 r2 => cases r2; exact ⟨_, rfl, r1⟩
theorem vals2 {x y : V} {us : List Value} (r : Vals [x, y] us) : ∃ u w', us = [u, w'] ∧ RelV x u ∧ RelV y w' := by
  cases r with
  | cons r1 r2 =>
    cases r2 with
    | cons r3 r4 => cases r4; exact ⟨_, _, rfl, r1, r3⟩
theorem call_min2 (hc : X.calm = true) : CallR X (.builtin "min") (fun xs H Q => ∃ i j, xs = [.int i, .int j] ∧ Q (.int (if j < i then j else i)) H) := by
  intro pins s σ H xs us Q I r h
  obtain ⟨i, j, rfl, q⟩ := h
  obtain ⟨u, w', rfl, ⟨t, rfl⟩, ⟨t', rfl⟩⟩ := vals2 r
  refine min_two_ints (I.ok.hd hc) fun h' tk k => ⟨_, H, I.kept k, ?_, q⟩
  by_cases hj : j < i
  · rw [if_pos hj, if_pos hj]; exact ⟨_, rfl⟩
  · rw [if_neg hj, if_neg hj]; exact ⟨_, rfl⟩
theorem call_int1 : CallR X (.type "int") (fun xs H Q => (∃ i, xs = [.int i] ∧ Q (.int i) H) ∨ ∃ k, xs = [.bl k] ∧ Q (.int (if k then 1 else 0)) H) := by
  intro pins s σ H xs us Q I r h
  rcases h with ⟨i, rfl, q⟩ | ⟨k, rfl, q⟩
  · obtain ⟨u, rfl, t, rfl⟩ := vals1 r
    exact call_int_int ⟨.int i, H, I, ⟨_, rfl⟩, q⟩
  · obtain ⟨u, rfl, r1⟩ := vals1 r
    cases r1
    exact call_int_bool ⟨.int (if k then 1 else 0), H, I.tok _, ⟨_, rfl⟩, q⟩
end
end L2
namespace L2
open PySem PySem.Spec PyProof.Rows
structure ObjM (h : Heap) (x dx C : Addr) (mA : Str → Option Value) : Prop where
  obj : h.get? x = some (PySem.W.instObj C dx)
  ns : h.Ns1 dx mA
  ne : dx ≠ x
theorem lookIn_ns {h : Heap} {dx : Addr} {mA : Str → Option Value} (n : h.Ns1 dx mA) : ∃ od, h.get? dx = some od ∧ ∀ name, PySem.W.lookIn name od = some (mA name) := by
  obtain ⟨o, es, ep, ho, hd, hk, _, hm⟩ := n
  refine ⟨o, ho, fun name => ?_⟩
  have e := hm name
  unfold nsFind findBy at e
  rw [← Array.find?_toList] at e
  unfold PySem.W.lookIn
  rw [hd]
  dsimp only
  split
  · rename_i y q
    rw [q] at e
    exact congrArg some e
  · rename_i q
    rw [q] at e
    have a : es.toList.any (·.refKey) = false := by
      rw [List.any_eq_false]
      intro y hy
      obtain ⟨z, t, hkey⟩ := hk y (Array.mem_toList_iff.mp hy)
      simp [DictEntry.refKey, hkey]
    have a' : ¬ es.toList.any (·.refKey) = true := by rw [a]; exact Bool.false_ne_true
    rw [if_neg a']
    exact congrArg some e
theorem ObjM.look {h : Heap} {x dx C : Addr} {mA : Str → Option Value} (I : ObjM h x dx C mA) : ∃ od, PySem.W.InstAt h x (PySem.W.instObj C dx) C (some od) ∧ ∀ name, PySem.W.lookIn name od = some (mA name) :=
  let ⟨od, ho, hl⟩ := lookIn_ns I.ns
  ⟨od, ⟨I.obj, rfl, rfl, ho⟩, hl⟩
section
variable {prog : Program} {w : World} {A : Around} {E : Value → Shared → Prop} {s : Shared} {K : PySem.W.Frag} {x dx C f : Addr} {mA : Str → Option Value} {name : Str} {v : Value}
end
section
variable {P : Program} {w : World} {H H' : Hp} {h h' : Heap} {a C dx : Addr} {fs fs' : List (Str × V)}
theorem ins_get (hok : HOk P w H h) (e : H a = some (.ins C dx fs)) : ∃ mA, ObjM h a dx C mA ∧ (∀ f, RelO (fs.lookup f) (mA f)) ∧ PySem.Within mA (fs.map (·.1)) ∧ fs.length ≤ 1000 ∧ H dx = some (.own a) := by
  obtain ⟨d, z, ne, ob, mA, n, r, q⟩ := (show ObjOk P w H h a (.ins C dx fs) from hok a _ e)
  exact ⟨mA, ⟨ob, n, ne⟩, r, q, z, d⟩
end
structure Cls (K : PySem.W.Frag) (C : Addr) : Prop where
  pg : PySem.W.plainGet K C Str.empty = true
  hd : PySem.W.hasDictIn K C = true
  po : PySem.W.plainOver K C = true
  sa : PySem.W.findIn K (.ref C) "__setattr__" = some (some (.builtin "object.__setattr__"))
theorem Cls.get {K : PySem.W.Frag} {C : Addr} (c : Cls K C) (f : Str) : PySem.W.plainGet K C f = true := c.pg
section
variable {X : Cx} {pins : List (Addr × Obj)} {σ : St} {H : Hp} {s : Shared} {a C dx : Addr} {fs : List (Str × V)} {f : Str} {v : V} {A : Around} {E : Value → Shared → Prop}
end
section
variable {X : Cx} {o e value : Expr} {f : Str} {pos pos' tpos : Pos} {ta tv : TE}
end
section
variable {X : Cx} {pins : List (Addr × Obj)} {σ : St} {H : Hp} {s : Shared} {A : Around} {E : Value → Shared → Prop} {Q : Value → Shared → Prop} {c : Value} {b : Bool}
inductive TyOf (K : PySem.W.Frag) (H : Hp) : V → Value → Prop where
  | non : TyOf K H .non (.type "NoneType")
  | bl (x : Bool) : TyOf K H (.bl x) (.type "bool")
  | int (i : Int) : TyOf K H (.int i) (.type "int")
  | str (x : Str) : TyOf K H (.str x) (.type "str")
  | flt (x : UInt64) : TyOf K H (.flt x) (.type "float")
  | lst {a : Addr} {xs : List V} (e : H a = some (.lst xs)) : TyOf K H (.ref a) (.type "list")
  | frz {a : Addr} {o : Obj} {xs : List V} (e : H a = some (.frz o (.lst xs))) : TyOf K H (.ref a) (.type "list")
  | tup {a : Addr} {xs : List V} (e : H a = some (.tup xs)) : TyOf K H (.ref a) (.type "tuple")
  | dK {a : Addr} {kvs : List (Key × V)} (e : H a = some (.dK kvs)) : TyOf K H (.ref a) (.type "dict")
  | dT {a : Addr} {kvs : List (List Key × V)} (e : H a = some (.dT kvs)) : TyOf K H (.ref a) (.type "dict")
  | ins {a C dx : Addr} {fs : List (Str × V)} (e : H a = some (.ins C dx fs)) (cl : Cls K C) (ha : PySem.W.findIn K (.ref C) "__class__" = some (some (.builtin "object.__class__")))
      (hn : PySem.W.specialIn K (.builtin "object.__class__") "__get__" = some (some (.builtin "getset_descriptor.__get__"))) (htk : PySem.W.takesIn K (.builtin "object.__class__") = some true)
      (hm : PySem.W.mroIn K C (.type "object") = some true) : TyOf K H (.ref a) (.ref C)
theorem isinst_ok {x : V} {u t : Value} (I : Inv X pins σ H s) (rx : RelV x u) (ty : TyOf X.K H x t) (e : PySem.W.kitOne X.K t c = some b) (h : ∀ tk, Q (.bool b) { s with toks := tk }) :
    wpAny (model X.prog X.w) A (call (.builtin "isinstance") [u, c]) Q E s := by
  cases ty with
  | non => cases (show u = Value.none from rx); exact PySem.W.kia_one PySem.W.kitx_none I.kIn True.intro e (fun z => nomatch z) h
  | bl y => cases (show u = Value.bool y from rx); exact PySem.W.kia_one PySem.W.kitx_bool I.kIn True.intro e (fun z => nomatch z) h
  | int i => obtain ⟨t, q⟩ := (show ∃ t, u = Value.int i t from rx); cases q; exact PySem.W.kia_one PySem.W.kitx_int I.kIn True.intro e (fun z => nomatch z) h
  | str y => obtain ⟨t, q⟩ := (show ∃ t, u = Value.str y t from rx); cases q; exact PySem.W.kia_one PySem.W.kitx_str I.kIn True.intro e (fun z => nomatch z) h
  | flt y => obtain ⟨t, q⟩ := (show ∃ t, u = Value.float y t from rx); cases q; exact PySem.W.kia_one PySem.W.kitx_float I.kIn True.intro e (fun z => nomatch z) h
  | @lst a xs ea =>
    cases (show u = Value.ref a from rx)
    obtain ⟨_, _, n, _, h1⟩ := (show ObjOk X.prog X.w H s.heap a (.lst xs) from I.hok a _ ea)
    exact PySem.W.kia_one PySem.W.kitx_list I.kIn ⟨_, h1, rfl⟩ e (fun z => nomatch z) h
  | @frz a ob xs ea =>
    cases (show u = Value.ref a from rx)
    obtain ⟨_, _, _, n, _, h1⟩ := (show ObjOk X.prog X.w H s.heap a (.frz ob (.lst xs)) from I.hok a _ ea)
    exact PySem.W.kia_one PySem.W.kitx_list I.kIn ⟨_, h1, rfl⟩ e (fun z => nomatch z) h
  | @tup a xs ea =>
    cases (show u = Value.ref a from rx)
    obtain ⟨_, _, _, p⟩ := (show ObjOk X.prog X.w H s.heap a (.tup xs) from I.hok a _ ea)
    obtain ⟨o, h1, h2, _⟩ := p
    exact PySem.W.kia_one PySem.W.kitx_tuple I.kIn ⟨o, h1, h2⟩ e (fun z => nomatch z) h
  | @dK a kvs ea =>
    cases (show u = Value.ref a from rx)
    obtain ⟨_, _, vs, _, p⟩ := (show ObjOk X.prog X.w H s.heap a (.dK kvs) from I.hok a _ ea)
    obtain ⟨o, es, ep, h1, h2, _⟩ := p
    exact PySem.W.kia_one PySem.W.kitx_dict I.kIn ⟨o, h1, h2.1⟩ e (fun z => nomatch z) h
  | @dT a kvs ea =>
    cases (show u = Value.ref a from rx)
    obtain ⟨_, _, xs, _, o, es, ep, h1, h2, _⟩ := (show ObjOk X.prog X.w H s.heap a (.dT kvs) from I.hok a _ ea)
    exact PySem.W.kia_one PySem.W.kitx_dict I.kIn ⟨o, h1, h2.1⟩ e (fun z => nomatch z) h
  | @ins a C dx fs ea cl ha hn htk hm =>
    cases (show u = Value.ref a from rx)
    obtain ⟨mA, O, _⟩ := ins_get I.hok ea
    obtain ⟨od, J, _⟩ := O.look
    exact PySem.W.kia_one (PySem.W.kitx_own (cl.get _) cl.hd ha hn htk hm) I.kIn J e (fun z => nomatch z) h
end
end L2
namespace L2
open PySem PySem.Spec PyProof.Rows
structure Room (k : Nat) (A : Around) : Prop where
  hd : A.handled = none
  dp : A.depth + 3 * k + 5 < recursionLimit
  un : A.units + 16 * k + 200 < cLine
  gd : A.guards = some []
theorem Room.mono {j k : Nat} {A : Around} (r : Room k A) (h : j ≤ k) : Room j A := ⟨r.hd, by have := r.dp; omega, by have := r.un; omega, r.gd⟩
theorem Room.deeper {k : Nat} {A : Around} (r : Room (k + 1) A) (env : Env) : Room k (A.deeper env) :=
  ⟨r.hd, by have := r.dp; show A.depth + 1 + 3 * k + 5 < _; omega, by have := r.un; show A.units + 3 + 16 * k + 200 < _; omega, r.gd⟩
theorem Room.depth {k : Nat} {A : Around} (r : Room k A) : A.depth < recursionLimit := by have := r.dp; omega
theorem Room.units {k : Nat} {A : Around} (r : Room k A) : A.units + 64 < cLine := by have := r.un; omega
def tNil : TA := fun _ H Q => Q [] H
def tCons (ta : TE) (tr : TA) : TA := fun σ H Q => ta σ H fun x H1 => tr σ H1 fun xs H2 => Q (x :: xs) H2
section
variable {X : Cx} {e : Expr} {es : List Expr} {te : TE} {t : TA} {pos : Pos}
theorem pa_nil : PA X [] tNil := fun _ _ _ _ H Q I h => Calls.spliced_nil ⟨[], H, I, .nil, h⟩
theorem pa_cons (ha : PE X e te) (hr : PA X es t) (hs : starEach (e :: es) X.env = (false, eval e X.env) :: starEach es X.env := by rfl) : PA X (e :: es) (tCons te t) := by
  intro pos pins s σ H Q I h
  rw [hs]
  show wpAny _ _ (spliced ((false, eval e X.env) :: backTo pos (starEach es X.env))) _ _ s
  refine Calls.spliced_cons (thn (ha pins s σ H _ I h) fun u s1 ⟨x, H1, I1, r1, q1⟩ => ?_)
  exact thn (hr pos pins s1 σ H1 _ I1 q1) fun us s2 ⟨xs, H2, I2, r2, q2⟩ => ⟨x :: xs, H2, I2, .cons r1 r2, q2⟩
def tTup (t : TA) : TE := fun σ H Q => t σ H fun xs H1 => xs.length ≤ sizeLine ∧ ∀ p, H1 p = none → Q (.ref p) (upd H1 p (.tup xs))
def tLst (t : TA) : TE := fun σ H Q => t σ H fun xs H1 => xs.length ≤ sizeLine ∧ ∀ p, H1 p = none → Q (.ref p) (upd H1 p (.lst xs))
theorem pe_tup {x1} (h : PA X es t) : PE X (.Tuple es x1 pos) (tTup t) := by
  intro pins s σ H Q I hq
  refine wpAny_Tuple_spliced (thn (h pos pins s σ H _ I hq) fun us s1 ⟨xs, H1, I1, r, z, q⟩ => ⟨by rw [← r.length]; exact z, ?_⟩)
  have hf : H1 s1.heap.objs.size = none := I1.hok.fresh (Nat.le_refl _)
  refine ⟨.ref s1.heap.objs.size, upd H1 s1.heap.objs.size (.tup xs), I1.laid (t' := s1.toks) (fun b u e => Heap.get?_push_of_some _ e) (Nat.le_refl _) ?_, rfl, q _ hf⟩
  exact ⟨z, us, r, ⟨_, Heap.get?_push_size _ rfl, rfl, _, rfl⟩⟩
theorem pe_lst (h : PA X es t) : PE X (.List es pos) (tLst t) := by
  intro pins s σ H Q I hq
  refine wpAny_List_spliced (thn (h pos pins s σ H _ I hq) fun us s1 ⟨xs, H1, I1, r, z, q⟩ => ⟨by rw [← r.length]; exact z, ?_⟩)
  have hf : H1 s1.heap.objs.size = none := I1.hok.fresh (Nat.le_refl _)
  refine ⟨.ref s1.heap.objs.size, upd H1 s1.heap.objs.size (.lst xs), I1.laid (t' := s1.toks) (fun b u e => Heap.get?_push_of_some _ e) (Nat.le_refl _) ?_, rfl, q _ hf⟩
  exact ⟨z, us, 0, r, Heap.get?_push_size _ rfl⟩
end
abbrev Sp := List V → Hp → VK → XK → Prop
abbrev CXT := List Env → Hp → Shared → XK → Value → Shared → Prop
structure Env0 (P : Program) (w : World) (K : PySem.W.Frag) (mg : Str → Option Value) (base : Heap) (A : Around) (outer : List Env) (s : Shared) (H : Hp) : Prop where
  frames : A.frames = some outer
  mod : Mod K mg base
  bs : ∀ b o, base.get? b = some o → s.heap.get? b = some o ∧ H b = none
  bsz : base.objs.size ≤ s.heap.objs.size
  funs : s.heap.FunFrames base outer
  frf : ∀ b ∈ frs outer, H b = none
  hok : HOk P w H s.heap
  bare : AllBare s.gens
def CE (outer : List Env) (P : Program) (w : World) (H : Hp) (s : Shared) (Q : VK) (u : Value) (s' : Shared) : Prop :=
  ∃ v H', s'.os = s.os ∧ AllBare s'.gens ∧ Un (frs outer) [] H H' s.heap s'.heap ∧ HOk P w H' s'.heap ∧ RelV v u ∧ Q v H'
def CR (CX : CXT) (outer : List Env) (P : Program) (w : World) (H : Hp) (s : Shared) (Q : VK) (E : XK) (r : Result) (s' : Shared) : Prop :=
  match r with
  | .ok (.ret u) => CE outer P w H s Q u s'
  | .ok _ => False
  | .error e => CX outer H s E e s'
structure FnOk (P : Program) (w : World) (K : PySem.W.Frag) (mg : Str → Option Value) (base : Heap) (CX : CXT) (k : Nat) (f : Addr) (fd : FuncData) (ps : List Str) (sp : Sp) : Prop where
  len : ∀ vs H Q E, sp vs H Q E → vs.length = ps.length
  run : ∀ (A : Around) (outer : List Env) (s : Shared) (H : Hp) (args : Args) (us : List Value) (vs : List V) (Q : VK) (E : XK), Room k A → Env0 P w K mg base A outer s H → BindsTo s fd args (ps.zip us) → Vals vs us → sp vs H Q E →
    codeAny (model P w) A (.call (.ref f) args) (CR CX outer P w H s Q E) s
section
variable {X : Cx} {pins : List (Addr × Obj)} {σ : St} {H : Hp} {s s' : Shared}
theorem Inv.env0 (I : Inv X pins σ H s) : Env0 X.prog X.w X.K X.mg X.base X.A X.stack s H :=
  ⟨I.ok.frames, I.ok.mod, I.bs, Nat.le_trans I.ok.bsz I.sz, I.stack, I.stkFree, I.hok, I.bare⟩
theorem Inv.after {Q : VK} {u : Value} (I : Inv X pins σ H s) (h : CE X.stack X.prog X.w H s Q u s') : EP X pins σ Q u s' := by
  obtain ⟨v, H', os, bare, un, hok, r, q⟩ := h
  obtain ⟨hh, g, d, t, os'⟩ := s'
  obtain rfl : os' = s.os := os
  exact ⟨v, H', I.call (h' := hh) (g' := g) (d' := d) (t' := t) (ch := []) un hok bare (fun b z => absurd z (by simp)), r, q⟩
end
def tCall (sp : Sp) (dvs : List V) (E : XK) (t : TA) : TE := fun σ H Q => t σ H fun vs H1 => sp (vs ++ dvs) H1 Q E
def Binds (K : PySem.W.Frag) (fd : FuncData) (ps : List Str) (ds : List Value) : Prop :=
  ∀ (s : Shared) (us : List Value), K.In s.heap → (us ++ ds).length = ps.length → BindsTo s fd ⟨us, []⟩ (ps.zip (us ++ ds))
theorem Binds.all {K : PySem.W.Frag} {fd : FuncData} {ps : List Str} (h : ∀ us : List Value, us.length = ps.length → bindArgs fd ⟨us, []⟩ = pure (ps.zip us)) : Binds K fd ps [] := fun s us _ hl => by
  rw [List.append_nil] at hl ⊢
  exact .of_eq (h us hl)
def Passes (CX : CXT) (X : Cx) (E : XK) : Prop := ∀ (pins : List (Addr × Obj)) (σ : St) (H : Hp) (s : Shared) (e : Value) (s' : Shared), Inv X pins σ H s → CX X.stack H s E e s' → X.xe e s'
section
variable {X : Cx} {CX : CXT} {k : Nat} {f C : Addr} {fd : FuncData} {ps : List Str} {sp : Sp} {dvs : List V} {ds : List Value} {E : XK} {x m : Str} {p pos apos : Pos} {e o : Expr} {es : List Expr} {ta : TE} {t : TA}
theorem run_fn {pins : List (Addr × Obj)} {σ : St} {H : Hp} {s : Shared} {Q : VK} {us : List Value} {vs : List V} (F : FnOk X.prog X.w X.K X.mg X.base CX k f fd ps sp) (hr : Room k X.A) (hb : Binds X.K fd ps ds) (hd : Vals dvs ds) (hx : Passes CX X E)
    (I : Inv X pins σ H s) (r : Vals vs us) (h : sp (vs ++ dvs) H Q E) : wpAny (model X.prog X.w) X.A (call (.ref f) us) (EP X pins σ Q) X.xe s := by
  have r2 : Vals (vs ++ dvs) (us ++ ds) := r.append hd
  have hl : (us ++ ds).length = ps.length := by rw [← r2.length]; exact F.len _ _ _ _ h
  refine wpAny_call (codeAny_mono (F.run X.A X.stack s H ⟨us, []⟩ (us ++ ds) (vs ++ dvs) Q E hr I.env0 (hb s us I.kIn hl) r2 h) fun r s' hq => ?_)
  cases r with
  | error e => exact hx pins σ H s e s' I hq
  | ok fl =>
    cases fl with
    | ret u => exact I.after hq
    | next => exact False.elim hq
    | brk => exact False.elim hq
    | cont => exact False.elim hq
theorem pe_call (F : FnOk X.prog X.w X.K X.mg X.base CX k f fd ps sp) (hr : Room k X.A) (hg : Gl X x) (hm : X.mg x = some (.ref f)) (hk : PySem.W.keepIn X.K (.ref f) = true) (hb : Binds X.K fd ps ds) (hd : Vals dvs ds) (hx : Passes CX X E)
    (ha : PA X (e :: es) t) (hdb : (x == ("__debug__" : Str)) = false := by decide) (he : starEach (e :: es) X.env = (false, eval e X.env) :: starEach es X.env := by rfl) (hpl : (backTo pos (starEach es X.env)).any (·.1) = false := by rfl) :
    PE X (.Call (.Name x p) (e :: es) [] pos) (tCall sp dvs E t) := by
  intro pins s σ H Q I h
  refine wpAny_Call_Name_kw (ld_glob I hg hm ?_ hdb)
  refine PySem.W.callWith_K (h₀ := X.base) I.ok.mod.kin hk (thn (ha pos pins s σ H _ I h) fun us s1 ⟨vs, H1, I1, r, q⟩ => ⟨I1.kIn, ?_⟩) he hpl
  exact run_fn F hr hb hd hx I1 r q
end
section
variable {X : Cx} {CX : CXT} {k : Nat} {f C : Addr} {fd : FuncData} {ps ks : List Str} {sp : Sp} {E : XK} {x m : Str} {p pos apos kpos : Pos} {e o : Expr} {es : List Expr} {kws : List Keyword} {te ta : TE} {t tk : TA} {nm : Option Str}
variable {g : List Value → List Value → List Value} {gV : List V → List V → List V}
end
structure FnScope (N P : List Str) (sc : Scope) : Prop where
  kind : sc.kind = .function
  co : sc.isCoroutine = false
  gen : sc.isGenerator = false
  nd : N.Nodup
  pre : N.take P.length = P
  par : ∀ x ∈ P, sc.names.lookup x = some .local ∨ sc.names.lookup x = some .cell
  nofree : ∀ y ∈ sc.names, y.2 ≠ .free
theorem bindL_out {kindOf : Str → Option NameKind} {x : Str} : ∀ {binds : List (Str × Value)} {m : Str → Option Value}, (∀ v, (x, v) ∉ binds) → bindL kindOf binds m x = m x
  | [], _, _ => rfl
  | (n, v) :: r, m, h => by
    unfold bindL
    rw [bindL_out fun w hw => h w (List.mem_cons_of_mem _ hw)]
    split
    · have : x ≠ n := by rintro rfl; exact h v List.mem_cons_self
      simp [this]
    · rfl
theorem bindC_out {kindOf : Str → Option NameKind} {x : Str} : ∀ {binds : List (Str × Value)} {m : Str → Option Value}, (∀ v, (x, v) ∉ binds) → bindC kindOf binds m x = m x
  | [], _, _ => rfl
  | (n, v) :: r, m, h => by
    unfold bindC
    rw [bindC_out fun w hw => h w (List.mem_cons_of_mem _ hw)]
    split
    · rfl
    · have : x ≠ n := by rintro rfl; exact h v List.mem_cons_self
      simp [this]
theorem bindL_get {kindOf : Str → Option NameKind} {x : Str} {v : Value} : ∀ {P : List Str} {vs : List Value} {i : Nat} {m : Str → Option Value}, P.Nodup → P[i]? = some x → vs[i]? = some v → kindOf x = some .local →
    bindL kindOf (P.zip vs) m x = some v
  | [], _, _, _, _, h, _, _ => by simp at h
  | _ :: _, [], _, _, _, _, h, _ => by simp at h
  | p :: P, w :: vs, 0, m, nd, h1, h2, hk => by
    simp at h1 h2; subst h1; subst h2
    show bindL kindOf ((p, w) :: P.zip vs) m p = _
    unfold bindL
    rw [bindL_out fun v hv => (List.nodup_cons.mp nd).1 (List.of_mem_zip hv).1, if_pos hk]
    simp
  | p :: P, w :: vs, i + 1, m, nd, h1, h2, hk => by
    show bindL kindOf ((p, w) :: P.zip vs) m x = _
    unfold bindL
    exact bindL_get (i := i) (List.nodup_cons.mp nd).2 (by simpa using h1) (by simpa using h2) hk
theorem bindC_get {kindOf : Str → Option NameKind} {x : Str} {v : Value} : ∀ {P : List Str} {vs : List Value} {i : Nat} {m : Str → Option Value}, P.Nodup → P[i]? = some x → vs[i]? = some v → kindOf x ≠ some .local →
    bindC kindOf (P.zip vs) m x = some v
  | [], _, _, _, _, h, _, _ => by simp at h
  | _ :: _, [], _, _, _, _, h, _ => by simp at h
  | p :: P, w :: vs, 0, m, nd, h1, h2, hk => by
    simp at h1 h2; subst h1; subst h2
    show bindC kindOf ((p, w) :: P.zip vs) m p = _
    unfold bindC
    rw [bindC_out fun v hv => (List.nodup_cons.mp nd).1 (List.of_mem_zip hv).1, if_neg hk]
    simp
  | p :: P, w :: vs, i + 1, m, nd, h1, h2, hk => by
    show bindC kindOf ((p, w) :: P.zip vs) m x = _
    unfold bindC
    exact bindC_get (i := i) (List.nodup_cons.mp nd).2 (by simpa using h1) (by simpa using h2) hk
def start (N : List Str) (vs : List V) : St := vs.map some ++ List.replicate (N.length - vs.length) none
def cxOf (CX : CXT) (P : Program) (w : World) (K : PySem.W.Frag) (mg : Str → Option Value) (base : Heap) (N : List Str) (qual : Str) (scope : Scope) (f : Addr) (cd : Value) (A : Around) (outer : List Env) (s : Shared) (H : Hp) (E : XK) : Cx where
  prog := P
  w := w
  K := K
  mg := mg
  base := base
  A := A.deeper (envOfC qual scope s.heap.objs.size f cd)
  N := N
  s₀ := s
  H₀ := H
  env := envOfC qual scope s.heap.objs.size f cd
  outer := outer
  stack := envOfC qual scope s.heap.objs.size f cd :: outer
  ex := []
  calm := true
  fn := fun _ => true
  pn := []
  xe := fun e s' => wpAny (model P w) (A.deeper (envOfC qual scope s.heap.objs.size f cd)) (leaving (envOfC qual scope s.heap.objs.size f cd) e) (fun _ s'' => CX outer H s E e s'') (fun e' s'' => CX outer H s E e' s'') s'
theorem cell_has {sc : Scope} {n : Nat} {x : Str} (h : sc.names.lookup x = some .cell) : ∃ c, (cellsFrom n sc.names []).lookup x = some c := by
  have q := PySem.W.cellsFrom_some sc.names n [] (.inl h)
  exact Option.isSome_iff_exists.mp q
theorem inv_start {CX : CXT} {P : Program} {w : World} {K : PySem.W.Frag} {mg : Str → Option Value} {base : Heap} {N ps : List Str} {qual : Str} {scope : Scope} {f : Addr} {cd : Value} {A : Around} {outer : List Env} {s s1 : Shared} {H : Hp} {E : XK} {us : List Value} {vs : List V}
    (S : FnScope N ps scope) (hd : A.handled = none) (e0 : Env0 P w K mg base A outer s H) (hl : vs.length = ps.length) (r : Vals vs us)
    (x : InCallC s s.heap.objs.size (bindL (envOfC qual scope s.heap.objs.size f cd).kindOf (ps.zip us) fun _ => none) (cellsFrom (s.heap.objs.size + 1) scope.names []) (bindC (envOfC qual scope s.heap.objs.size f cd).kindOf (ps.zip us) fun _ => none) s1) :
    Inv (cxOf CX P w K mg base N qual scope f cd A outer s H E) [] (start N vs) H s1 := by
  have hpl : ps.length ≤ N.length := by have := congrArg List.length S.pre; rw [List.length_take] at this; omega
  obtain ⟨h1, tk, rfl, hk⟩ := x.done
  have noA : ∀ b : Addr, b ∉ (cxOf CX P w K mg base N qual scope f cd A outer s H E).ex := fun b z => absurd (show b ∈ ([] : List Addr) from z) (by simp)
  refine ⟨⟨e0.mod, S.kind, rfl, rfl, Nat.le_refl _, fun y z c h1 h2 => ?_, fun y hy => ?_, fun y c _ h => ?_, fun _ => hd, Around.frames_deeper e0.frames, .inr ⟨rfl, rfl⟩, fun b z => absurd z (noA b), e0.bs, e0.bsz, fun b _ _ => noA b, fun b z => absurd z (noA b), e0.funs, e0.frf⟩,
    rfl, e0.bare, Un.kept hk, ⟨_, x.toInCall.ns, fun i y v h1 h2 h3 => ?_⟩, fun y c h => ⟨_, x.cell y c h⟩, e0.hok.fresh (Nat.le_refl _), fun y c h => ?_, fun p hp => absurd (show p ∈ ([] : List (Addr × Obj)) from hp) (by simp), e0.hok.kept hk, ?_⟩
  · exact name_of_addr x.apart (PySem.mem_of_lookup h1) (PySem.mem_of_lookup h2)
  · have hy : scope.names.lookup y = some .cell ∨ scope.names.lookup y = some .free := hy
    rcases hy with hy | hy
    · exact cell_has hy
    · exact absurd rfl (S.nofree _ (PySem.mem_of_lookup hy))
  · exact Nat.le_of_lt (x.above y c (PySem.mem_of_lookup h))
  · have hi : i < vs.length := by
      unfold start at h2
      by_cases hi : i < vs.length
      · exact hi
      · rw [List.getElem?_append_right (by simpa using hi)] at h2
        rw [List.getElem?_replicate] at h2
        split at h2 <;> cases h2
    have ha : vs[i]? = some v := by
      unfold start at h2
      rw [List.getElem?_append_left (by simpa using hi), List.getElem?_map] at h2
      cases e : vs[i]? with
      | none => rw [e] at h2; cases h2
      | some a => rw [e] at h2; cases h2; rfl
    obtain ⟨u, hu, rv⟩ := r.get ha
    have hp : ps[i]? = some y := by
      rw [← S.pre, List.getElem?_take_of_lt (by omega)]; exact h1
    have ndP : ps.Nodup := by rw [← S.pre]; exact S.nd.sublist (List.take_sublist _ _)
    refine ⟨u, rv, ?_⟩
    rcases S.par y (List.mem_of_getElem? hp) with k | k
    · exact .inl ⟨k, bindL_get ndP hp hu k⟩
    · obtain ⟨c, e⟩ := cell_has (n := s.heap.objs.size + 1) k
      refine .inr ⟨.inl k, c, e, ?_⟩
      have q := x.cell y c e
      rw [bindC_get ndP hp hu (by show scope.names.lookup y ≠ _; rw [k]; decide)] at q
      exact q
  · exact e0.hok.fresh (Nat.le_of_lt (x.above y c (PySem.mem_of_lookup h)))
  · unfold start
    show _ = N.length
    rw [List.length_append, List.length_map, List.length_replicate]
    omega
theorem fn_of {CX : CXT} {P : Program} {w : World} {K : PySem.W.Frag} {mg : Str → Option Value} {base : Heap} {k : Nat} {f : Addr} {name qual : Str} {params : Arguments} {body : List Stmt} {scope : Scope} {dV kV doc pm cdv ct oc : Value} {an od : Option Addr}
    {osl : Array (Option Value)} {N ps : List Str} {sp : Sp} (lk : K.lookup f = some ⟨oc, od, .func (PySem.W.fnOf name qual params body scope dV kV doc pm an cdv ct), osl⟩) (hcd : PySem.W.codeIn K cdv qual = true) (S : FnScope N ps scope)
    (len : ∀ vs H Q E, sp vs H Q E → vs.length = ps.length)
    (hbody : ∀ (A : Around) (outer : List Env) (s : Shared) (H : Hp) (vs : List V) (Q : VK) (E : XK), Room k (A.deeper (envOfC qual scope s.heap.objs.size f cdv)) → sp vs H Q E →
      ∃ t, PSs (cxOf CX P w K mg base N qual scope f cdv A outer s H E) body t ∧ t { nx := fun _ H' => Q .non H', rt := Q } (start N vs) H) :
    FnOk P w K mg base CX (k + 1) f (PySem.W.fnOf name qual params body scope dV kV doc pm an cdv ct) ps sp := by
  refine ⟨len, fun A outer s H args us vs Q E hr e0 hb r hsp => ?_⟩
  have hl := len _ _ _ _ hsp
  have KX : K.In s.heap := e0.mod.kin.keeps fun b o e => (e0.bs b o e).1
  have lim : s.heap.NoLimit := e0.mod.nolimit.keeps fun b o e => (e0.bs b o e).1
  have hkind : ∀ y ∈ ps.zip us, scope.names.lookup y.1 = some .local ∨ (scope.names.lookup y.1 = some .cell ∧ ((cellsFrom (s.heap.objs.size + 1) scope.names []).lookup y.1).isSome = true) := fun ⟨n, v⟩ hy => by
    rcases S.par n (List.of_mem_zip hy).1 with q | q
    · exact .inl q
    · exact .inr ⟨q, PySem.W.cellsFrom_some _ _ _ (.inl q)⟩
  refine codeAny_call_function hr.depth (KX _ _ lk) rfl S.co S.gen rfl (PySem.W.codeRec_of KX hcd) (hb _ _ _ _ ?_)
  refine wpAny_newFunctionEnv_cells S.kind hkind fun env he s1 x => ?_
  subst he
  refine ⟨lim.keeps x.toInCall.keep, codeAny_func ?_⟩
  obtain ⟨t, ht, hq⟩ := hbody A outer s H vs Q E (hr.deeper _) hsp
  have I : Inv (cxOf CX P w K mg base N qual scope f cdv A outer s H E) [] (start N vs) H s1 := inv_start S hr.hd e0 hl r x
  refine wpAny_mono (ht [] s1 (start N vs) H _ I hq) (fun fl s' hs => ?_) fun e s' hs => hs
  have fin : ∀ {σ' : St} {H' : Hp} {v : V} {u : Value}, Inv (cxOf CX P w K mg base N qual scope f cdv A outer s H E) [] σ' H' s' → RelV v u → Q v H' → CE outer P w H s Q u s' :=
    fun {σ' H' v u} J rv q => ⟨v, H', J.os, J.bare, J.base, J.hok, rv, q⟩
  cases fl with
  | ret u =>
    obtain ⟨v, σ', H', J, rv, q⟩ := hs
    exact fin J rv q
  | next =>
    obtain ⟨σ', H', J, q⟩ := hs
    exact fin (v := V.non) (u := Value.none) J rfl q
  | brk =>
    obtain ⟨_, _, _, q⟩ := hs
    exact False.elim q
  | cont =>
    obtain ⟨_, _, _, q⟩ := hs
    exact False.elim q
end L2
namespace L2
open PySem PySem.Spec PyProof.Rows
section
variable {X : Cx} {x : Str} {p pos : Pos} {e : Expr} {es : List Expr} {t : TA} {id T : String} {r : List V → Hp → VK → Prop}
def tCB (r : List V → Hp → VK → Prop) (t : TA) : TE := fun σ H Q => t σ H fun vs H1 => r vs H1 Q
theorem pe_callB (hc : CallR X (.builtin id) r) (hg : Gl X x) (hm : X.mg x = none) (hv : bootBuiltins x = some (.builtin id)) (ha : PA X (e :: es) t) (hn : x ≠ "__name__" := by decide) (hdb : (x == ("__debug__" : Str)) = false := by decide)
    (he : starEach (e :: es) X.env = (false, eval e X.env) :: starEach es X.env := by rfl) (hpl : (backTo pos (starEach es X.env)).any (·.1) = false := by rfl) : PE X (.Call (.Name x p) (e :: es) [] pos) (tCB r t) := by
  intro pins s σ H Q I h
  refine wpAny_Call_Name_kw (ld_blt I hg hm hv ?_ hn hdb)
  exact PyProof.Rows.callWith_builtin1 (thn (ha pos pins s σ H _ I h) fun us s1 ⟨vs, H1, I1, r1, q1⟩ => hc pins s1 σ H1 vs us Q I1 r1 q1) he hpl
theorem pe_callTy (hc : CallR X (.type T) r) (hg : Gl X x) (hm : X.mg x = none) (hv : bootBuiltins x = some (.type T)) (ha : PA X (e :: es) t) (hn : x ≠ "__name__" := by decide) (hdb : (x == ("__debug__" : Str)) = false := by decide)
    (he : starEach (e :: es) X.env = (false, eval e X.env) :: starEach es X.env := by rfl) (hpl : (backTo pos (starEach es X.env)).any (·.1) = false := by rfl) : PE X (.Call (.Name x p) (e :: es) [] pos) (tCB r t) := by
  intro pins s σ H Q I h
  refine wpAny_Call_Name_kw (ld_blt I hg hm hv ?_ hn hdb)
  exact PyProof.Rows.callWith_type1 (thn (ha pos pins s σ H _ I h) fun us s1 ⟨vs, H1, I1, r1, q1⟩ => hc pins s1 σ H1 vs us Q I1 r1 q1) he hpl
end
end L2
namespace HT
open PySem PyProof.Rows
section
open PySem.SeqAt
open PySem.AutoSeq1 (wpAny_loadPart')
open PySem.MeetsSeq PySem.MeetsSeq2 PySem.MeetsSeq3
end
section
variable {prog : Program} {w : World} {A : Around} {E : Value → Shared → Prop} {s : Shared}
theorem cat_tup {t b : Addr} {vs ws : List Value} {Q : Value → Shared → Prop} (ht : IsTup s.heap t vs.toArray) (hb : IsTup s.heap b ws.toArray) (hv : vs ≠ [])
    (h1 : ws = [] → Q (.ref t) s) (h2 : ws ≠ [] → Q (.ref s.heap.objs.size) { s with heap := s.heap.push { cls := .type "tuple", data := .seq (vs ++ ws).toArray } })
    (hsz : vs.length + ws.length ≤ sizeLine) : wpAny (model prog w) A (binaryOp .Add (.ref t) (.ref b)) Q E s := by
  obtain ⟨⟨cls, dd, data, sl⟩, ho, hc, n, hd⟩ := id ht
  obtain ⟨⟨cls2, dd2, data2, sl2⟩, ho2, hc2, n2, hd2⟩ := id hb
  simp only at hc hd hc2 hd2
  subst hc hd hc2 hd2
  have e : vs.toArray ++ ws.toArray = (vs ++ ws).toArray := by simp
  by_cases hw : ws = []
  · exact concat_meets ⟨_, ho, rfl⟩ ⟨_, ho2, rfl⟩ noFill_tuple_add seq_tuple_add PySem.F.slot_tuple_add PySem.F.entry_tuple_add (PySem.F.args_tuple_add_2 _ _)
      (tuple_addW1 t b vs.toArray ws.toArray n n2 dd dd2 sl sl2 (by simpa using hv) (by simp [hw])) ⟨ho, ho2, h1 hw⟩
  · refine concat_meets ⟨_, ho, rfl⟩ ⟨_, ho2, rfl⟩ noFill_tuple_add seq_tuple_add PySem.F.slot_tuple_add PySem.F.entry_tuple_add (PySem.F.args_tuple_add_2 _ _)
      (tuple_addW2 t b vs.toArray ws.toArray n n2 dd dd2 sl sl2 (by simpa using hv) (by simpa using hw) (by rw [List.size_toArray, List.size_toArray]; exact hsz)) ⟨ho, ho2, ?_⟩
    rw [e]
    exact h2 hw
def sIx (n d : Nat) : Option Int → Nat
  | none => d
  | some v => if v < 0 then (v + (n : Int)).toNat else min v.toNat n
theorem sIx_le (n d : Nat) (hd : d ≤ n) (o : Option Int) : sIx n d o ≤ n := by
  cases o with
  | none => exact hd
  | some v =>
    show (if v < 0 then (v + (n : Int)).toNat else min v.toNat n) ≤ n
    by_cases hv : v < 0
    · rw [if_pos hv]; omega
    · rw [if_neg hv]; exact Nat.min_le_right _ _
theorem clip_eq (v : Int) (n d : Nat) : (if v < 0 then max (v + (n : Int)) 0 else min v (n : Int)) = ((sIx n d (some v) : Nat) : Int) := by
  show (if v < 0 then max (v + (n : Int)) 0 else min v (n : Int)) = (((if v < 0 then (v + (n : Int)).toNat else min v.toNat n) : Nat) : Int)
  by_cases hv : v < 0
  · simp only [if_pos hv]; omega
  · simp only [if_neg hv]; omega
theorem adjust_gen (lo hi : Option Int) (n : Nat) : Builtin.Slice.sliceAdjust lo hi 1 (n : Int) = (((sIx n 0 lo : Nat) : Int), ((sIx n n hi : Nat) : Int)) := by
  have h1 : ¬ ((1 : Int) < 0) := by omega
  unfold Builtin.Slice.sliceAdjust
  simp only [h1, if_false]
  refine Prod.ext ?_ ?_
  · cases lo with
    | none => rfl
    | some v => exact clip_eq v n 0
  · cases hi with
    | none => rfl
    | some v => exact clip_eq v n n
theorem places_gen (i j : Nat) : Builtin.Slice.slicePlaces (i : Int) (j : Int) 1 = j - i := by
  unfold Builtin.Slice.slicePlaces
  have h1 : (1 : Int) > 0 := by omega
  simp only [h1, if_true, Int.ediv_one]
  split <;> omega
theorem slicePart_ {v : Value} {o : Option Int} {Q : Option Int → Shared → Prop} (p : IsPart v o) (h : Q o s) : wpAny (model prog w) A (Builtin.Slice.slicePartIndex v) Q E s := by
  cases p with
  | none => exact slicePart_none h
  | int i t => exact slicePart_int h
theorem sliceApplied_gen {sl : Addr} {vl vu : Value} {lo hi : Option Int} {n : Nat} {Q : Int × Int × Nat → Shared → Prop} (hs : s.heap.IsSliceOf sl vl vu .none) (pl : IsPart vl lo) (pu : IsPart vu hi)
    (h : Q (((sIx n 0 lo : Nat) : Int), 1, sIx n n hi - sIx n 0 lo) s) : wpAny (model prog w) A (Builtin.Slice.sliceApplied (.ref sl) (pure (n : Int))) Q E s := by
  obtain ⟨os, hos, hcs, hds⟩ := id hs
  unfold Builtin.Slice.sliceApplied Builtin.Slice.sliceFields
  refine wpAny_bind (wpAny_bind (wpAny_field hos hds (x := vl) rfl (wpAny_bind (wpAny_field hos hds (x := vu) rfl (wpAny_bind (wpAny_field hos hds (x := .none) rfl (wpAny_pure ?_)))))))
  refine wpAny_bind (slicePart_none ?_)
  show wpAny _ _ (if ((1 : Int) == 0) = true then _ else _) _ _ s
  rw [if_neg (by decide)]
  refine wpAny_bind (slicePart_ pl (wpAny_bind (slicePart_ pu (wpAny_bind (wpAny_pure ?_)))))
  show wpAny _ _ (match Builtin.Slice.sliceAdjust lo hi 1 (n : Int) with | (lo, hi) => pure (lo, (1 : Int), Builtin.Slice.slicePlaces lo hi 1)) _ _ s
  rw [adjust_gen lo hi n]
  show wpAny _ _ (pure (((sIx n 0 lo : Nat) : Int), (1 : Int), Builtin.Slice.slicePlaces ((sIx n 0 lo : Nat) : Int) ((sIx n n hi : Nat) : Int) 1)) _ _ s
  rw [places_gen]
  exact wpAny_pure h
theorem pick_gen (xs : Array Value) (i k : Nat) : ((List.range k).filterMap fun (m : Nat) => xs[((i : Int) + (m : Int) * 1).toNat]?).toArray = ((xs.toList.drop i).take k).toArray := by
  have e : (fun (m : Nat) => xs[((i : Int) + (m : Int) * 1).toNat]?) = fun m => xs[i + m]? := by
    funext m
    have : ((i : Int) + (m : Int) * 1).toNat = i + m := by omega
    rw [this]
  rw [e]
  have := pick_run xs i k
  rw [List.filterMap_map] at this
  have e2 : ((fun x => xs[x]?) ∘ fun x => i + x) = fun m => xs[i + m]? := rfl
  rw [e2] at this
  rw [this]
theorem getItem_tuple_cut {t sl : Addr} {items : Array Value} {vl vu : Value} {lo hi : Option Int} {Q : Value → Shared → Prop} (ht : IsTup s.heap t items) (hs : s.heap.IsSliceOf sl vl vu .none) (pl : IsPart vl lo) (pu : IsPart vu hi)
    (hw : ¬ (sIx items.size 0 lo = 0 ∧ sIx items.size items.size hi = items.size))
    (h : Q (.ref s.heap.objs.size) { s with heap := s.heap.push { cls := .type "tuple", data := .seq ((items.toList.drop (sIx items.size 0 lo)).take (sIx items.size items.size hi - sIx items.size 0 lo)).toArray } })
    (hsz : items.size ≤ sizeLine) : wpAny (model prog w) A (getItem (.ref t) (.ref sl)) Q E s := by
  have htake : sizeOk (.seq ((items.toList.drop (sIx items.size 0 lo)).take (sIx items.size items.size hi - sIx items.size 0 lo)).toArray) := by
    show ((items.toList.drop (sIx items.size 0 lo)).take (sIx items.size items.size hi - sIx items.size 0 lo)).toArray.size ≤ sizeLine
    rw [List.size_toArray, List.length_take, List.length_drop, Array.length_toList]
    omega
  have hj : sIx items.size items.size hi ≤ items.size := sIx_le _ _ (Nat.le_refl _) hi
  obtain ⟨os, hos, hcs, hds⟩ := id hs
  have hTs : s.TypeIs (.ref sl) "slice" := ⟨os, hos, hcs⟩
  unfold getItem
  try with_reducible refine wpAny_holding ?_
  first | refine wpAny_bind (wpAny_pure ?_) | skip
  refine wpAny_bind (wpAny_sequenceKey ht.typeIs (by decide) ?_)
  refine wpAny_bind (wpAny_callSpecial?_slot (name := Str.ofString "__getitem__") ht.typeIs PyProof.Rows.slot_tuple_getitem
    (wpAny_call_entry PyProof.Rows.slot_tuple_getitem ht.typeIs entry_tuple_getitem ?_ (args_tuple_getitem _ _)))
  show wpAny _ _ (Builtin.Tuple.tupleItemsOf (.ref t) >>= _) _ _ s
  refine wpAny_bind (tupleItemsOf_ ht ?_)
  refine wpAny_bind (wpAny_typeOf hTs ?_)
  rw [if_pos (by decide)]
  refine wpAny_bind (sliceApplied_gen hs pl pu ?_)
  have hno : ¬ ((((sIx items.size 0 lo : Nat) : Int) == 0 && (1 : Int) == 1 && (sIx items.size items.size hi - sIx items.size 0 lo) == items.size) = true) := by
    intro q
    rw [Bool.and_eq_true, Bool.and_eq_true] at q
    have q1 : ((sIx items.size 0 lo : Nat) : Int) = 0 := eq_of_beq q.1.1
    have q2 : sIx items.size items.size hi - sIx items.size 0 lo = items.size := eq_of_beq q.2
    exact hw ⟨by omega, by omega⟩
  show wpAny _ _ (if (((sIx items.size 0 lo : Nat) : Int) == 0 && (1 : Int) == 1 && (sIx items.size items.size hi - sIx items.size 0 lo) == items.size) = true then _ else _) _ _ s
  rw [if_neg hno, pick_gen]
  first
    | exact wpAny_bind (m := Builtin.Tuple.tupleExact _) (wpAny_newObj_type (wpAny_pure ⟨_, rfl, wpAny_pure h⟩) htake)
    | exact wpAny_bind (m := Builtin.Tuple.tupleExact _) (wpAny_newObj_type (wpAny_bind (wpAny_pure (wpAny_pure ⟨_, rfl, wpAny_pure h⟩))) htake)
    | exact wpAny_bind (wpAny_bind (m := Builtin.Tuple.tupleExact _) (wpAny_newObj_type (wpAny_pure (wpAny_pure ⟨_, rfl, wpAny_pure h⟩)) htake))
    | exact wpAny_bind (wpAny_bind (m := Builtin.Tuple.tupleExact _) (wpAny_newObj_type (wpAny_pure ⟨_, rfl, wpAny_pure h⟩) htake))
end
end HT
namespace L2
open PySem PySem.Spec PyProof.Rows
abbrev TO := St → Hp → (Option Int → Hp → Prop) → Prop
def PO (X : Cx) (e : Option Expr) (t : TO) : Prop :=
  ∀ (pins : List (Addr × Obj)) (s : Shared) (σ : St) (H : Hp) (Q : Option Int → Hp → Prop), Inv X pins σ H s → t σ H Q →
    wpAny (model X.prog X.w) X.A (evalPart e X.env) (fun u s' => ∃ o H', Inv X pins σ H' s' ∧ IsPart u o ∧ Q o H') X.xe s
def tNoPart : TO := fun _ H Q => Q none H
def tPart (t : TE) : TO := fun σ H Q => t σ H fun x H1 => ∃ i, x = .int i ∧ Q (some i) H1
section
variable {X : Cx} {e : Expr} {te : TE} {lo hi : Option Expr} {tl th : TO} {pos p2 : Pos}
theorem po_none : PO X none tNoPart := by
  intro pins s σ H Q I h
  rw [evalPart_none]
  exact wpAny_pure ⟨none, H, I, .none, h⟩
theorem po_some (h : PE X e te) : PO X (some e) (tPart te) := by
  intro pins s σ H Q I hw
  rw [evalPart_some]
  refine thn (h pins s σ H _ I hw) fun u s1 ⟨x, H1, I1, r1, q1⟩ => ?_
  obtain ⟨i, rfl, q⟩ := q1
  obtain ⟨t, rfl⟩ := r1
  exact ⟨some i, H1, I1, .int i t, q⟩
def SlR (X : Cx) (r : V → Option Int → Option Int → Hp → VK → Prop) : Prop :=
  ∀ (pins : List (Addr × Obj)) (s : Shared) (σ : St) (H : Hp) (x : V) (v vl vu : Value) (lo hi : Option Int) (sl : Addr) (Q : VK), Inv X pins σ H s → RelV x v → s.heap.IsSliceOf sl vl vu .none → IsPart vl lo → IsPart vu hi → r x lo hi H Q →
    ∃ T id, typeLookup (.type T) "__getitem__" = pure (some (.builtin id)) ∧ s.TypeIs v T ∧ wpAny (model X.prog X.w) X.A (getItem v (.ref sl)) (EP X pins σ Q) X.xe s
theorem SlR.or {r r' : V → Option Int → Option Int → Hp → VK → Prop} (h : SlR X r) (h' : SlR X r') : SlR X (fun x lo hi H Q => r x lo hi H Q ∨ r' x lo hi H Q) := by
  intro pins s σ H x v vl vu lo hi sl Q I rx hs pl pu q
  rcases q with q | q
  · exact h pins s σ H x v vl vu lo hi sl Q I rx hs pl pu q
  · exact h' pins s σ H x v vl vu lo hi sl Q I rx hs pl pu q
def tSl (r : V → Option Int → Option Int → Hp → VK → Prop) (te : TE) (tl th : TO) : TE := fun σ H Q => te σ H fun x H1 => tl σ H1 fun l H2 => th σ H2 fun u H3 => r x l u H3 Q
theorem pe_slice {r : V → Option Int → Option Int → Hp → VK → Prop} (hr : SlR X r) (he : PE X e te) (hl : PO X lo tl) (hu : PO X hi th) : PE X (.Subscript e (.Slice lo hi none p2) pos) (tSl r te tl th) := by
  intro pins s σ H Q I h
  refine Subscript_ (thn (he pins s σ H _ I h) fun v s1 ⟨x, H1, I1, r1, q1⟩ => ?_)
  refine wpAny_Slice (thn (hl pins s1 σ H1 _ I1 q1) fun vl s2 ⟨l, H2, I2, pl, q2⟩ => thn (hu pins s2 σ H2 _ I2 q2) fun vu s3 ⟨u, H3, I3, pu, q3⟩ => ?_)
  rw [evalPart_none]
  refine wpAny_pure ?_
  have I4 : Inv X pins σ H3 { s3 with heap := s3.heap.push { cls := .type "slice", data := .fields #[vl, vu, .none] } } := I3.kept (t' := s3.toks) fun b ob q => Heap.get?_push_of_some _ q
  obtain ⟨T, id, hT, ht, hg⟩ := hr pins { s3 with heap := s3.heap.push { cls := .type "slice", data := .fields #[vl, vu, .none] } } σ H3 x v vl vu l u s3.heap.objs.size Q I4 r1 (Heap.IsSliceOf.new ..) pl pu q3
  show wpAny (model X.prog X.w) X.A (subscriptTail e (.Slice lo hi none p2) v (.ref s3.heap.objs.size)) (EP X pins σ Q) X.xe { s3 with heap := s3.heap.push { cls := .type "slice", data := .fields #[vl, vu, .none] } }
  exact tail_any (ops := [.ref s3.heap.objs.size, v]) ht hT hg (by with_unfolding_all rfl)
def cutV (xs : List V) (lo hi : Option Int) : List V := (xs.drop (HT.sIx xs.length 0 lo)).take (HT.sIx xs.length xs.length hi - HT.sIx xs.length 0 lo)
theorem cutV_length (xs : List V) (lo hi : Option Int) : (cutV xs lo hi).length ≤ xs.length := by
  unfold cutV
  rw [List.length_take, List.length_drop]
  omega
def rSlT (K : PySem.W.Frag) : V → Option Int → Option Int → Hp → VK → Prop := fun x lo hi H Q => ∃ a xs, x = .ref a ∧ SqT K H a xs ∧
  ¬ (HT.sIx xs.length 0 lo = 0 ∧ HT.sIx xs.length xs.length hi = xs.length) ∧ ∀ p, H p = none → Q (.ref p) (upd H p (.tup (cutV xs lo hi)))
theorem sl_tup : SlR X (rSlT X.K) := by
  intro pins s σ H x v vl vu lo hi sl Q I rx hs pl pu h
  obtain ⟨a, xs, rfl, hx, hw, q⟩ := h
  cases rx
  obtain ⟨its, r, ht, hz⟩ := I.tuple hx
  have hlen : its.toArray.size = xs.length := by rw [List.size_toArray]; exact r.length.symm
  refine ⟨"tuple", _, PyProof.Rows.slot_tuple_getitem.lookup, ht.typeIs, ?_⟩
  refine HT.getItem_tuple_cut ht hs pl pu (by rw [hlen]; exact hw) ?_ (by rw [hlen]; exact hz)
  rw [hlen]
  refine ⟨.ref s.heap.objs.size, _, I.laid (t' := s.toks) (o := .tup (cutV xs lo hi)) (fun b ob q => Heap.get?_push_of_some _ q) (Nat.le_refl _) ?_, rfl, q _ (I.hok.fresh (Nat.le_refl _))⟩
  exact ⟨Nat.le_trans (cutV_length xs lo hi) hz, _, (r.drop (HT.sIx xs.length 0 lo)).take (HT.sIx xs.length xs.length hi - HT.sIx xs.length 0 lo), IsTup.new _ _⟩
def rCatT (K : PySem.W.Frag) : R2 := fun x y H Q => ∃ a b xs ys, x = .ref a ∧ y = .ref b ∧ SqT K H a xs ∧ SqT K H b ys ∧ xs ≠ [] ∧ xs.length + ys.length ≤ sizeLine ∧
  (ys = [] → Q (.ref a) H) ∧ (ys ≠ [] → ∀ p, H p = none → Q (.ref p) (upd H p (.tup (xs ++ ys))))
theorem Vals.nil_iff {xs : List V} {us : List Value} (r : Vals xs us) : us = [] ↔ xs = [] := by
  cases r with
  | nil => simp
  | cons _ _ => simp
theorem op_catT : OpR X (binaryOp .Add) (rCatT X.K) := by
  intro pins s σ H x y v u Q I rx ry h
  obtain ⟨a, b, xs, ys, rfl, rfl, ha, hb, hx, hz, q1, q2⟩ := h
  cases rx
  cases ry
  obtain ⟨its, r1, p1, _⟩ := I.tuple ha
  obtain ⟨its2, r2, p2, _⟩ := I.tuple hb
  refine HT.cat_tup p1 p2 (fun z => hx (r1.nil_iff.mp z)) (fun z => ⟨.ref a, H, I, rfl, q1 (r2.nil_iff.mp z)⟩) (fun z => ?_) (by rw [← r1.length, ← r2.length]; exact hz)
  refine ⟨.ref s.heap.objs.size, _, I.laid (t' := s.toks) (o := .tup (xs ++ ys)) (fun b ob q => Heap.get?_push_of_some _ q) (Nat.le_refl _) ?_, rfl, q2 (fun w => z (r2.nil_iff.mpr w)) _ (I.hok.fresh (Nat.le_refl _))⟩
  exact ⟨by rw [List.length_append]; exact hz, _, r1.append r2, IsTup.new _ _⟩
end
end L2
namespace L2
open PySem PySem.Spec PyProof.Rows
def ixN (n : Nat) (i : Int) : Option Nat := if 0 ≤ i then (if i < n then some i.toNat else none) else if -(n : Int) ≤ i then some (i + n).toNat else none
def atI {α : Type} (xs : List α) (i : Int) : Option α := (ixN xs.length i).bind fun j => xs[j]?
theorem ixN_seq {n : Nat} {i : Int} {j : Nat} (h : ixN n i = some j) : seqIndex? i n = some j ∧ j < n ∧ -(n : Int) ≤ i ∧ i < n := by
  unfold ixN at h
  by_cases h0 : 0 ≤ i
  · rw [if_pos h0] at h
    by_cases h1 : i < n
    · rw [if_pos h1] at h
      have e : i.toNat = j := Option.some.inj h
      exact ⟨by rw [seqIndex_of h0 h1, e], by omega, by omega, h1⟩
    · rw [if_neg h1] at h; cases h
  · rw [if_neg h0] at h
    by_cases h1 : -(n : Int) ≤ i
    · rw [if_pos h1] at h
      have e : (i + n).toNat = j := Option.some.inj h
      exact ⟨by rw [seqIndex_neg (by omega) h1, e], by omega, h1, by omega⟩
    · rw [if_neg h1] at h; cases h
theorem atI_get {α : Type} {xs : List α} {i : Int} {v : α} (h : atI xs i = some v) : ∃ j, seqIndex? i xs.length = some j ∧ xs[j]? = some v ∧ j < xs.length ∧ -(xs.length : Int) ≤ i ∧ i < xs.length := by
  unfold atI at h
  cases e : ixN xs.length i with
  | none => rw [e] at h; cases h
  | some j =>
    rw [e] at h
    obtain ⟨h1, h2, h3, h4⟩ := ixN_seq e
    exact ⟨j, h1, h, h2, h3, h4⟩
theorem atI_nat {α : Type} {xs : List α} {j : Nat} {v : α} (h : xs[j]? = some v) : atI xs (j : Int) = some v := by
  have hj : j < xs.length := (List.getElem?_eq_some_iff.mp h).1
  have e : ixN xs.length (j : Int) = some j := by
    unfold ixN
    rw [if_pos (by omega), if_pos (by omega)]; simp
  unfold atI; rw [e]; exact h
theorem atI_last {α : Type} (xs : List α) (v : α) : atI (xs ++ [v]) (-1) = some v := by
  have hl : (xs ++ [v]).length = xs.length + 1 := by simp
  have e : ixN (xs ++ [v]).length (-1) = some xs.length := by
    unfold ixN
    rw [hl, if_neg (by decide), if_pos (by omega)]
    congr 1
    omega
  unfold atI
  rw [e]
  show (xs ++ [v])[xs.length]? = some v
  simp
def PlainIx (b : Expr) : Prop := ∀ o i, subscripted b false o i = operate [o, i] (getItem o i)
def IxR (X : Cx) (r : R2) : Prop :=
  ∀ (value slice : Expr) (pins : List (Addr × Obj)) (s : Shared) (σ : St) (H : Hp) (x y : V) (v u : Value) (Q : VK), Inv X pins σ H s → RelV x v → RelV y u → r x y H Q →
    subscripted slice false v u = operate [v, u] (getItem v u) → wpAny (model X.prog X.w) X.A (subscriptTail value slice v u) (EP X pins σ Q) X.xe s
def MtR (X : Cx) (id : String) (r : V → List V → Hp → VK → Prop) : Prop :=
  ∀ (pins : List (Addr × Obj)) (s : Shared) (σ : St) (H : Hp) (x : V) (xs : List V) (v : Value) (us : List Value) (Q : VK), Inv X pins σ H s → RelV x v → Vals xs us → r x xs H Q →
    wpAny (model X.prog X.w) X.A (call (.builtin id) (v :: us)) (EP X pins σ Q) X.xe s
section
variable {X : Cx} {a b : Expr} {ta tb : TE} {pos : Pos}
theorem pe_ix {r : R2} (hr : IxR X r) (ha : PE X a ta) (hb : PE X b tb) (hs : PlainIx b) : PE X (.Subscript a b pos) (tOp r ta tb) := by
  intro pins s σ H Q I h
  exact Subscript_ (binT ha hb I h fun v u s2 x y H2 I2 rx ry q => hr a b pins s2 σ H2 x y v u Q I2 rx ry q (hs _ _))
def rIxL (K : PySem.W.Frag) : R2 := fun x y H Q => ∃ p xs i v, x = .ref p ∧ y = .int i ∧ SqL K H p xs ∧ atI xs i = some v ∧ Q v H
def rIxT (K : PySem.W.Frag) : R2 := fun x y H Q => ∃ p xs i v, x = .ref p ∧ y = .int i ∧ SqT K H p xs ∧ atI xs i = some v ∧ Q v H
def rIxS : R2 := fun x y H Q => ∃ z i c, x = .str z ∧ y = .int i ∧ z.length ≤ sizeLine ∧ atI z.cps.toList i = some c ∧ Q (.str ⟨#[c]⟩) H
theorem ix_list : IxR X (rIxL X.K) := by
  intro value slice pins s σ H x y v u Q I rx ry h hs
  obtain ⟨p, xs, i, z, rfl, rfl, hq, he, q⟩ := h
  cases rx
  obtain ⟨t, rfl⟩ := ry
  obtain ⟨its, r, pl, hz⟩ := I.list hq
  obtain ⟨j, h1, h2, h3, h4, h5⟩ := atI_get he
  obtain ⟨w, ew, rw'⟩ := r.get h2
  have hl := r.length
  have hn := line63
  have fin : EP X pins σ Q w s := ⟨z, H, I, rw', q⟩
  by_cases h0 : 0 ≤ i
  · have hj : i.toNat = j := by
      rw [seqIndex_of h0 h5] at h1
      exact Option.some.inj h1
    exact item_listR pl.isList h0 (by omega) (by rw [hj]; simpa using ew) fin hs
  · have hj : (i + (its.toArray.size : Int)).toNat = j := by
      rw [seqIndex_neg (by omega) h4] at h1
      rw [List.size_toArray, ← hl]
      exact Option.some.inj h1
    exact subscriptTail_builtinR (x := w) pl.isList.typeIs slot_list_getitem.lookup
      (wpAny_getItem_list_neg (Q := fun r s' => r = w ∧ EP X pins σ Q r s') pl.isList (by omega) (by rw [List.size_toArray] <;> omega) (by omega) (by rw [hj]; simpa using ew) ⟨rfl, fin⟩) hs
theorem ix_tup : IxR X (rIxT X.K) := by
  intro value slice pins s σ H x y v u Q I rx ry h hs
  obtain ⟨p, xs, i, z, rfl, rfl, hq, he, q⟩ := h
  cases rx
  obtain ⟨t, rfl⟩ := ry
  obtain ⟨its, r, pl, hz⟩ := I.tuple hq
  obtain ⟨j, h1, h2, h3, h4, h5⟩ := atI_get he
  obtain ⟨w, ew, rw'⟩ := r.get h2
  have hl := r.length
  have hn := line63
  have fin : EP X pins σ Q w s := ⟨z, H, I, rw', q⟩
  exact subscriptTail_builtinR (x := w) pl.typeIs slot_tuple_getitem.lookup
    (getItem_tuple (j := j) (Q := fun r s' => r = w ∧ EP X pins σ Q r s') pl (by omega) (by omega) (by rw [List.size_toArray, ← hl]; exact h1) (by simpa using ew) ⟨rfl, fin⟩) hs
theorem ix_str : IxR X rIxS := by
  intro value slice pins s σ H x y v u Q I rx ry h hs
  obtain ⟨z, i, c, rfl, rfl, hz, he, q⟩ := h
  obtain ⟨t, rfl⟩ := rx
  obtain ⟨t', rfl⟩ := ry
  obtain ⟨j, h1, h2, h3, h4, h5⟩ := atI_get he
  have hl : z.cps.toList.length = z.length := by simp [Str.length]
  rw [hl] at h1 h4 h5
  have hn := line63
  exact tail_any (typeIs_str s z t) slot_str_getitem.lookup (getItem_str (c := c) (by
    have e1 : decide (i < -(2 ^ 63 : Int)) = false := decide_eq_false (by omega)
    have e2 : decide (i ≥ 2 ^ 63) = false := decide_eq_false (by omega)
    rw [e1, e2, Bool.or_false]) (by rw [h1]; simpa using h2) ⟨.str ⟨#[c]⟩, H, I.tok _, ⟨_, rfl⟩, q⟩) hs
theorem mapSeq_set (its : List Value) (n j : Nat) (u : Value) : Obj.mapSeq (·.setIfInBounds j u) { cls := .type "list", data := .seq its.toArray n } = { cls := .type "list", data := .seq (its.set j u).toArray n } := by
  simp [Obj.mapSeq]
theorem Inv.lst {pins : List (Addr × Obj)} {σ : St} {H : Hp} {s : Shared} {p : Addr} {xs : List V} (I : Inv X pins σ H s) (h : H p = some (.lst xs)) :
    ∃ (its : List Value) (n : Nat), Vals xs its ∧ s.heap.get? p = some { cls := .type "list", data := .seq its.toArray n } ∧ xs.length ≤ sizeLine := by
  obtain ⟨z, its, n, r, e⟩ := I.hok p _ h
  exact ⟨its, n, r, e, z⟩
theorem Inv.lstUpd {pins : List (Addr × Obj)} {σ : St} {H : Hp} {s : Shared} {p : Addr} {xs ys : List V} {its its' : List Value} {n n' : Nat} {f : Obj → Obj} (I : Inv X pins σ H s) (h : H p = some (.lst xs))
    (ho : s.heap.get? p = some { cls := .type "list", data := .seq its.toArray n }) (hf : f { cls := .type "list", data := .seq its.toArray n } = { cls := .type "list", data := .seq its'.toArray n' }) (r : Vals ys its') (hz : ys.length ≤ sizeLine) (t : Nat) :
    Inv X pins σ (upd H p (.lst ys)) { s with heap := s.heap.update p f, toks := t } := by
  have e : (s.heap.update p f).get? p = some { cls := .type "list", data := .seq its'.toArray n' } := by
    rw [Heap.get?_update_self f ho (by rw [hf] <;> rfl), hf]
  refine I.write (x := p) (e := p) (by rw [h]; trivial) (.inl rfl) (fun b u hb q => (Heap.get?_update_other _ _ (Ne.symm hb)).trans q) ⟨_, e⟩ ?_
  exact ⟨hz, its', n', r, e⟩
def rSetL : V → V → V → Hp → (Hp → Prop) → Prop := fun o i v H Q => ∃ p xs k j, o = .ref p ∧ i = .int k ∧ H p = some (.lst xs) ∧ ixN xs.length k = some j ∧ Q (upd H p (.lst (xs.set j v)))
theorem set_list : PSet X rSetL := by
  intro pins s σ H o i v ov iv u Q I ro ri rv h
  obtain ⟨p, xs, k, j, rfl, rfl, hp, hj, q⟩ := h
  cases ro
  obtain ⟨t, rfl⟩ := ri
  obtain ⟨its, n, r, ho, hz⟩ := I.lst hp
  obtain ⟨h1, h2, h3, h4⟩ := ixN_seq hj
  have hl := r.length
  have hn := line63
  have I' : Inv X pins σ (upd H p (.lst (xs.set j v))) { s with heap := s.heap.update p (Obj.mapSeq (·.setIfInBounds j u)) } :=
    I.lstUpd hp ho (mapSeq_set its n j u) (r.set rv j) (by rw [List.length_set]; exact hz) s.toks
  by_cases h0 : 0 ≤ k
  · have hk : k.toNat = j := by
      rw [seqIndex_of h0 h4] at h1
      exact Option.some.inj h1
    exact PySem.W.ki_setAt ho h0 (by omega) (by rw [List.size_toArray, ← hl]; exact h4) (by rw [hk]; exact ⟨_, I', q⟩)
  · have hk : (k + (its.toArray.size : Int)).toNat = j := by
      rw [seqIndex_neg (by omega) h3] at h1
      rw [List.size_toArray, ← hl]
      exact Option.some.inj h1
    exact PySem.W.ki_setBack ho (by omega) (by rw [List.size_toArray, ← hl]; exact h3) (by omega) (by rw [hk]; exact ⟨_, I', q⟩)
theorem slice_bounds (lo hi : Option Int) (n : Nat) : (sliceBounds lo hi none n).1 = ((HT.sIx n 0 lo : Nat) : Int) ∧ (sliceBounds lo hi none n).2.1 = ((HT.sIx n n hi : Nat) : Int) ∧ (sliceBounds lo hi none n).2.2 = 1 := by
  refine ⟨?_, ?_, rfl⟩
  · cases lo with
    | none => simp [sliceBounds, HT.sIx]
    | some i =>
      simp only [sliceBounds, HT.sIx, Option.getD_none, show (1 : Int) > 0 by decide, if_true]
      by_cases h : i < 0
      · simp only [h, if_true] <;> omega
      · simp only [h, if_false] <;> omega
  · cases hi with
    | none => simp [sliceBounds, HT.sIx]
    | some i =>
      simp only [sliceBounds, HT.sIx, Option.getD_none, show (1 : Int) > 0 by decide, if_true]
      by_cases h : i < 0
      · simp only [h, if_true] <;> omega
      · simp only [h, if_false] <;> omega
theorem slicePick_cut (its : List Value) (lo hi : Option Int) : slicePick its.toArray lo hi none = ((its.drop (HT.sIx its.length 0 lo)).take (HT.sIx its.length its.length hi - HT.sIx its.length 0 lo)).toArray := by
  obtain ⟨h1, h2, h3⟩ := slice_bounds lo hi its.toArray.size
  unfold slicePick
  rw [h1, h2, h3]
  simp only [sliceRange_one, pick_run, List.size_toArray] <;> rfl
def rSlL (K : PySem.W.Frag) : V → Option Int → Option Int → Hp → VK → Prop := fun x lo hi H Q => ∃ a xs, x = .ref a ∧ SqL K H a xs ∧ ∀ p, H p = none → Q (.ref p) (upd H p (.lst (cutV xs lo hi)))
theorem sl_list : SlR X (rSlL X.K) := by
  intro pins s σ H x v vl vu lo hi sl Q I rx hs pl pu h
  obtain ⟨a, xs, rfl, hx, q⟩ := h
  cases rx
  obtain ⟨its, r, ht, hz⟩ := I.list hx
  have hlen := r.length
  refine ⟨"list", _, slot_list_getitem.lookup, ht.isList.typeIs, ?_⟩
  refine wpAny_getItem_list_slice ht.isList hs pl pu .none (by simp) ?_ (by rw [List.size_toArray] <;> omega)
  rw [slicePick_cut, ← hlen]
  refine ⟨.ref s.heap.objs.size, _, I.laid (t' := s.toks) (o := .lst (cutV xs lo hi)) (fun b ob q => Heap.get?_push_of_some _ q) (Nat.le_refl _) ?_, rfl, q _ (I.hok.fresh (Nat.le_refl _))⟩
  exact ⟨Nat.le_trans (cutV_length xs lo hi) hz, _, 0, (r.drop (HT.sIx xs.length 0 lo)).take (HT.sIx xs.length xs.length hi - HT.sIx xs.length 0 lo), Heap.get?_push_size _ rfl⟩
def flatV : V → Bool
  | .non => true
  | .bl _ => true
  | .int _ => true
  | .str _ => true
  | _ => false
def eqV : V → V → Bool
  | .non, .non => true
  | .bl a, .bl b => a == b
  | .bl a, .int b => (if a then 1 else 0) == b
  | .int a, .bl b => a == (if b then 1 else 0)
  | .int a, .int b => a == b
  | .str a, .str b => a == b
  | _, _ => false
theorem eqAt_V {A : Around} {s : Shared} {y x : V} {u v : Value} (ry : RelV y u) (rx : RelV x v) (fy : flatV y = true) (fx : flatV x = true) : SeqAt.EqAt A s u v (eqV y x) := by
  cases y with
  | non =>
    cases ry
    cases x with
    | non => cases rx; exact SeqAt.EqAt.same _
    | bl b => cases rx; exact SeqAt.EqAt.none_bool b
    | int b => obtain ⟨t, rfl⟩ := rx; exact SeqAt.EqAt.none_int b t
    | str b => obtain ⟨t, rfl⟩ := rx; exact SeqAt.EqAt.none_str b t
    | _ => exact absurd (show false = true from fx) Bool.false_ne_true
  | bl a =>
    cases ry
    cases x with
    | non => cases rx; exact SeqAt.EqAt.bool_none a
    | bl b => cases rx; exact SeqAt.EqAt.bool_bool a b
    | int b => obtain ⟨t, rfl⟩ := rx; exact SeqAt.EqAt.bool_int a b t
    | str b => obtain ⟨t, rfl⟩ := rx; exact SeqAt.EqAt.bool_str a b t
    | _ => exact absurd (show false = true from fx) Bool.false_ne_true
  | int a =>
    obtain ⟨t', rfl⟩ := ry
    cases x with
    | non => cases rx; exact SeqAt.EqAt.int_none a t'
    | bl b => cases rx; exact SeqAt.EqAt.int_bool a t' b
    | int b => obtain ⟨t, rfl⟩ := rx; exact SeqAt.EqAt.int_int a t' b t
    | str b => obtain ⟨t, rfl⟩ := rx; exact SeqAt.EqAt.int_str a t' b t
    | _ => exact absurd (show false = true from fx) Bool.false_ne_true
  | str a =>
    obtain ⟨t', rfl⟩ := ry
    cases x with
    | non => cases rx; exact SeqAt.EqAt.str_none a t'
    | bl b => cases rx; exact SeqAt.EqAt.str_bool a t' b
    | int b => obtain ⟨t, rfl⟩ := rx; exact SeqAt.EqAt.str_int a t' b t
    | str b => obtain ⟨t, rfl⟩ := rx; exact SeqAt.EqAt.str_str a t' b t
    | _ => exact absurd (show false = true from fx) Bool.false_ne_true
  | _ => exact absurd (show false = true from fy) Bool.false_ne_true
def eqU (x : V) (u : Value) : Bool := match u with
  | .none => eqV .non x
  | .bool b => eqV (.bl b) x
  | .int i _ => eqV (.int i) x
  | .str z _ => eqV (.str z) x
  | _ => false
theorem eqU_of {x y : V} {u : Value} (r : RelV y u) (f : flatV y = true) : eqU x u = eqV y x := by
  cases y with
  | non => cases r; rfl
  | bl b => cases r; rfl
  | int i => obtain ⟨t, rfl⟩ := r; rfl
  | str z => obtain ⟨t, rfl⟩ := r; rfl
  | _ => exact absurd (show false = true from f) Bool.false_ne_true
theorem any_eqU {x : V} : ∀ {xs : List V} {us : List Value}, Vals xs us → xs.all flatV = true → us.any (eqU x) = xs.any fun y => eqV y x
  | _, _, .nil, _ => rfl
  | y :: xs, u :: us, .cons r t, f => by
    rw [List.all_cons, Bool.and_eq_true] at f
    rw [List.any_cons, List.any_cons, eqU_of r f.1, any_eqU t f.2]
theorem mem_eqAt {A : Around} {s : Shared} {x : V} {v : Value} (rx : RelV x v) (fx : flatV x = true) : ∀ {xs : List V} {us : List Value}, Vals xs us → xs.all flatV = true → ∀ u ∈ us, SeqAt.EqAt A s u v (eqU x u)
  | _, _, .nil, _ => fun u hu => by cases hu
  | y :: xs, u :: us, .cons r t, f => fun u' hu => by
    rw [List.all_cons, Bool.and_eq_true] at f
    rcases List.mem_cons.mp hu with rfl | hu
    · rw [eqU_of r f.1]; exact eqAt_V r rx f.1 fx
    · exact mem_eqAt rx fx t f.2 u' hu
def inV (x : V) (xs : List V) : Bool := xs.any fun y => eqV y x
def rIn (K : PySem.W.Frag) (neg : Bool) : R2 := fun x y H Q => ∃ p xs, y = .ref p ∧ (SqL K H p xs ∨ SqT K H p xs) ∧ flatV x = true ∧ xs.all flatV = true ∧ Q (.bl (if neg then !inV x xs else inV x xs)) H
theorem op_in_seq : OpR X (compareOp .In) (rIn X.K false) := by
  intro pins s σ H x y v u Q I rx ry h
  obtain ⟨p, xs, rfl, hq, fx, fs, q⟩ := h
  cases ry
  rcases hq with hq | hq
  · obtain ⟨its, r, pl, hz⟩ := I.list hq
    refine SeqAt.in_listAt (eqU x) pl.isList (fun w hw => mem_eqAt rx fx r fs w (by simpa using hw)) ⟨.bl _, H, I, rfl, ?_⟩
    rw [show its.toArray.any (eqU x) = its.any (eqU x) by simp, any_eqU r fs]
    exact q
  · obtain ⟨its, r, pl, hz⟩ := I.tuple hq
    refine SeqAt.in_tupleAt (eqU x) pl (fun w hw => mem_eqAt rx fx r fs w (by simpa using hw)) ⟨.bl _, H, I, rfl, ?_⟩
    rw [show its.toArray.any (eqU x) = its.any (eqU x) by simp, any_eqU r fs]
    exact q
theorem call_len_seq : CallR X (.builtin "len") (fun xs H Q => ∃ p ys, xs = [.ref p] ∧ (SqL X.K H p ys ∨ SqT X.K H p ys) ∧ Q (.int ys.length) H) := by
  intro pins s σ H xs us Q I r h
  obtain ⟨p, ys, rfl, hq, q⟩ := h
  obtain ⟨u, rfl, rx⟩ := vals1 r
  cases rx
  have hn := line63
  rcases hq with hq | hq
  · obtain ⟨its, r', pl, hz⟩ := I.list hq
    have hlen := r'.length
    exact Calls.call_len_list pl.isList (by simp only [List.size_toArray] <;> omega) ⟨.int ys.length, H, I.tok _, ⟨s.toks + 1, by rw [List.size_toArray, hlen]⟩, q⟩
  · obtain ⟨its, r', pl, hz⟩ := I.tuple hq
    have hlen := r'.length
    exact len_tuple pl (by simp only [List.size_toArray] <;> omega) ⟨.int ys.length, H, I.tok _, ⟨s.toks + 1, by rw [List.size_toArray, hlen]⟩, q⟩
theorem call_len_str : CallR X (.builtin "len") (fun xs H Q => ∃ z, xs = [.str z] ∧ z.length ≤ sizeLine ∧ Q (.int z.length) H) := by
  intro pins s σ H xs us Q I r h
  obtain ⟨z, rfl, hz, q⟩ := h
  obtain ⟨u, rfl, t, rfl⟩ := vals1 r
  have hn := line63
  exact len_str (by omega) ⟨.int z.length, H, I.tok _, ⟨_, rfl⟩, q⟩
theorem call_list_of : CallR X (.type "list") (fun xs H Q => ∃ p ys, xs = [.ref p] ∧ (SqL X.K H p ys ∨ SqT X.K H p ys) ∧ ∀ l, H l = none → Q (.ref l) (upd H l (.lst ys))) := by
  intro pins s σ H xs us Q I r h
  obtain ⟨p, ys, rfl, hq, q⟩ := h
  obtain ⟨u, rfl, rx⟩ := vals1 r
  cases rx
  have fin : ∀ (its : List Value), Vals ys its → ys.length ≤ sizeLine → ∀ (h' : Heap) (c' : Nat), (∀ b o', s.heap.get? b = some o' → h'.get? b = some o') →
      h'.get? s.heap.objs.size = some { cls := .type "list", dict := none, data := .seq its.toArray c', slots := #[] } → EP X pins σ Q (.ref s.heap.objs.size) { s with heap := h' } := fun its r' hz h' c' kp e =>
    ⟨.ref s.heap.objs.size, _, I.laid (t' := s.toks) kp (Nat.le_refl _) (show ObjOk X.prog X.w _ h' _ (.lst ys) from ⟨hz, its, c', r', e⟩), rfl, q _ (I.hok.fresh (Nat.le_refl _))⟩
  rcases hq with hq | hq
  · obtain ⟨its, r', pl, hz⟩ := I.list hq
    have hlen := r'.length
    obtain ⟨o, ho, hc, n, hd⟩ := pl.isList
    exact call_list_seq p (.inl rfl) ho hc hd (fun h' c' kp e => fin its r' hz h' c' kp e) (by simp only [List.size_toArray] <;> omega)
  · obtain ⟨its, r', pl, hz⟩ := I.tuple hq
    have hlen := r'.length
    obtain ⟨o, ho, hc, n, hd⟩ := pl
    exact call_list_seq p (.inr rfl) ho hc hd (fun h' c' kp e => fin its r' hz h' c' kp e) (by simp only [List.size_toArray] <;> omega)
theorem call_tuple_of : CallR X (.type "tuple") (fun xs H Q => ∃ p ys, xs = [.ref p] ∧ ((SqL X.K H p ys ∧ ∀ l, H l = none → Q (.ref l) (upd H l (.tup ys))) ∨ (SqT X.K H p ys ∧ Q (.ref p) H))) := by
  intro pins s σ H xs us Q I r h
  obtain ⟨p, ys, rfl, h⟩ := h
  obtain ⟨u, rfl, rx⟩ := vals1 r
  cases rx
  rcases h with ⟨hq, q⟩ | ⟨hq, q⟩
  · obtain ⟨its, r', pl, hz⟩ := I.list hq
    have hlen := r'.length
    refine call_tuple_list pl.isList (fun h' kp => ?_) (by simp only [List.size_toArray] <;> omega)
    have I1 : Inv X pins σ H { s with heap := h' } := I.kept (t' := s.toks) kp
    have I2 : Inv X pins σ (upd H h'.objs.size (.tup ys)) { s with heap := h'.push { cls := .type "tuple", data := .seq its.toArray } } :=
      I1.laid (t' := s.toks) (fun b o e => Heap.get?_push_of_some _ e) (Nat.le_refl _) (show ObjOk X.prog X.w _ _ _ (.tup ys) from ⟨hz, its, r', IsTup.new _ _⟩)
    exact ⟨.ref h'.objs.size, _, I2, rfl, q _ (I1.hok.fresh (Nat.le_refl _))⟩
  · obtain ⟨its, r', pl, hz⟩ := I.tuple hq
    exact call_tuple_same pl ⟨.ref p, H, I, rfl, q⟩
def tyV (K : PySem.W.Frag) (T : String) (x : V) (H : Hp) : Prop := match x with
  | .str _ => T = "str"
  | .int _ => T = "int"
  | .ref p => (T = "list" ∧ ∃ xs, SqL K H p xs) ∨ (T = "tuple" ∧ ∃ o, K.lookup p = some o ∧ o.cls = .type "tuple" ∧ o.dict = none) ∨
      (T = "dict" ∧ ((∃ kvs, H p = some (.dK kvs)) ∨ ∃ kvs, H p = some (.dT kvs))) ∨ (T = "set" ∧ ∃ S n, H p = some (.set S n))
  | _ => False
theorem tyV_is {pins : List (Addr × Obj)} {σ : St} {H : Hp} {s : Shared} {T : String} {x : V} {v : Value} (I : Inv X pins σ H s) (r : RelV x v) (ty : tyV X.K T x H) :
    s.TypeIs v T ∧ ∀ a, v = .ref a → ∃ ob, s.heap.get? a = some ob ∧ ob.dict = none := by
  cases x with
  | str z =>
    obtain ⟨t, rfl⟩ := r
    cases (show T = "str" from ty)
    exact ⟨typeIs_str s z t, fun _ e => nomatch e⟩
  | int i =>
    obtain ⟨t, rfl⟩ := r
    cases (show T = "int" from ty)
    exact ⟨typeIs_int s i t, fun _ e => nomatch e⟩
  | ref p =>
    cases r
    rcases ty with ⟨rfl, xs, hq⟩ | ⟨rfl, o, hk, hc, hd⟩ | ⟨rfl, hk⟩ | ⟨rfl, S, n, hk⟩
    · obtain ⟨its, _, pl, _⟩ := I.list hq
      refine ⟨pl.isList.typeIs, fun a e => ?_⟩
      cases e
      obtain ⟨o, n, e, c, hd, _⟩ := pl
      exact ⟨o, e, hd⟩
    · refine ⟨⟨o, I.kIn p o hk, hc⟩, fun a e => ?_⟩
      cases e
      exact ⟨o, I.kIn _ o hk, hd⟩
    · have z : ∃ o, s.heap.get? p = some o ∧ o.ExactDict := by
        rcases hk with ⟨kvs, hk⟩ | ⟨kvs, hk⟩
        · obtain ⟨_, _, _, _, o, _, _, e, ex, _⟩ := I.hok p _ hk
          exact ⟨o, e, ex⟩
        · obtain ⟨_, _, _, _, o, _, _, e, ex, _⟩ := I.hok p _ hk
          exact ⟨o, e, ex⟩
      obtain ⟨o, e, ex⟩ := z
      refine ⟨⟨o, e, ex.1⟩, fun a e2 => ?_⟩
      cases e2
      exact ⟨o, e, ex.2.1⟩
    · obtain ⟨o, _, _, _, e, ex, _⟩ := I.hok p _ hk
      refine ⟨⟨o, e, ex.1⟩, fun a e2 => ?_⟩
      cases e2
      exact ⟨o, e, ex.2.1⟩
  | _ => exact False.elim ty
def tBM0 (K : PySem.W.Frag) (T : String) (r : V → List V → Hp → VK → Prop) (to : TE) : TE := fun σ H Q => to σ H fun x H1 => tyV K T x H1 ∧ r x [] H1 Q
def tBM (K : PySem.W.Frag) (T : String) (r : V → List V → Hp → VK → Prop) (to : TE) (t : TA) : TE := fun σ H Q => to σ H fun x H1 => tyV K T x H1 ∧ t σ H1 fun xs H2 => r x xs H2 Q
variable {o e : Expr} {es : List Expr} {to : TE} {t : TA} {name : Str} {apos cpos : Pos} {T id : String} {r : V → List V → Hp → VK → Prop}
theorem pe_bm0 (pa : PlainAttrs T) (slot : Slot T name id) (hty : typeOf (.builtin id) = pure (.type "method_descriptor")) (hm : MtR X id r) (ho : PE X o to)
    (hbase : attributeBase o name X.env (eval o X.env) = eval o X.env := by rfl) (hline : (apos.endLine == cpos.line) = true := by rfl) : PE X (.Call (.Attribute o name apos) [] [] cpos) (tBM0 X.K T r to) := by
  intro pins s σ H Q I h
  refine wpAny_Call_method0_late hbase hline (thn (ho pins s σ H _ I h) fun v s1 ⟨x, H1, I1, r1, ty, q1⟩ => ?_)
  obtain ⟨h1, h2⟩ := tyV_is I1 r1 ty
  exact ⟨T, id, pa, slot, hty, h1, h2, Calls.callWith_builtin rfl (PySem.evalArgs_none (hm pins s1 σ H1 x [] v [] Q I1 r1 .nil q1))⟩
theorem pe_bm (pa : PlainAttrs T) (slot : Slot T name id) (hty : typeOf (.builtin id) = pure (.type "method_descriptor")) (hm : MtR X id r) (ho : PE X o to) (ha : PA X (e :: es) t)
    (hbase : attributeBase o name X.env (eval o X.env) = eval o X.env := by rfl)
    (hfew : ((backTo cpos (starEach (e :: es) X.env)).all (fun x => !x.1) && (backToKw cpos (keywordEach [] X.env)).all (fun x => x.1.isSome)
      && decide ((e :: es).length + ([] : List Keyword).length + (if ([] : List Keyword).isEmpty then 0 else 1) < 30)) = true := by rfl)
    (hline : (apos.endLine == cpos.line) = true := by rfl) (hs : starEach (e :: es) X.env = (false, eval e X.env) :: starEach es X.env := by rfl) (hplain : (backTo cpos (starEach es X.env)).any (·.1) = false := by rfl) :
    PE X (.Call (.Attribute o name apos) (e :: es) [] cpos) (tBM X.K T r to t) := by
  intro pins s σ H Q I h
  refine wpAny_Call_method_late hbase hfew hline rfl (thn (ho pins s σ H _ I h) fun v s1 ⟨x, H1, I1, r1, ty, q1⟩ => ?_)
  obtain ⟨h1, h2⟩ := tyV_is I1 r1 ty
  refine ⟨T, id, pa, slot, hty, h1, h2, ?_⟩
  have hA := ha cpos pins s1 σ H1 _ I1 q1
  rw [hs] at hA ⊢
  refine Calls.callWith_builtin (by show (false || (backTo cpos (starEach es X.env)).any (·.1)) = false; rw [hplain] <;> rfl) (Calls.evalArgs_plain ?_)
  exact thn hA fun us s2 ⟨vs, H2, I2, r2, q2⟩ => hm pins s2 σ H2 x vs v us Q I2 r1 r2 q2
/- xs.append(e), list.index on a module's tuple .. are MtR facts of 06m -/
end
end L2
namespace L2
open PySem PySem.Spec PyProof.Rows
def MtM (X : Cx) (id : String) (r : V → List V → Hp → VK → Prop) : Prop :=
  ∀ (pins : List (Addr × Obj)) (s : Shared) (σ : St) (H : Hp) (x : V) (xs : List V) (v : Value) (us : List Value) (Q : VK), Inv X pins σ H s → RelV x v → Vals xs us → r x xs H Q →
    wpAny (model X.prog X.w) X.A (call (.builtin id) (v :: us)) (EP X pins σ Q) X.xe s
theorem Vals.one : ∀ {x : V} {us : List Value}, Vals [x] us → ∃ u, us = [u] ∧ RelV x u
  | _, _, .cons r .nil => ⟨_, rfl, r⟩
theorem Vals.zero : ∀ {us : List Value}, Vals [] us → us = []
  | _, .nil => rfl
theorem Vals.dropLast {xs : List V} {us : List Value} (h : Vals xs us) : Vals xs.dropLast us.dropLast := by
  induction h with
  | nil => exact .nil
  | cons r t ih =>
    cases t with
    | nil => exact .nil
    | cons q t' => exact .cons r ih
theorem Vals.eraseIdx : ∀ {xs : List V} {us : List Value} (i : Nat), Vals xs us → Vals (xs.eraseIdx i) (us.eraseIdx i)
  | _, _, _, .nil => .nil
  | _, _, 0, .cons _ t => t
  | _, _, i + 1, .cons r t => .cons r (Vals.eraseIdx i t)
theorem Vals.rep {xs : List V} {us : List Value} (h : Vals xs us) : ∀ k : Nat, Vals (List.replicate k xs).flatten (List.replicate k us).flatten
  | 0 => .nil
  | k + 1 => by
    rw [List.replicate_succ, List.replicate_succ, List.flatten_cons, List.flatten_cons]
    exact Vals.append h (Vals.rep h k)
theorem erase_last {α : Type} (l : List α) : l.eraseIdx (l.length - 1) = l.dropLast := by
  induction l with
  | nil => rfl
  | cons a r ih =>
    cases r with
    | nil => rfl
    | cons b r =>
      have e : (a :: b :: r).length - 1 = ((b :: r).length - 1) + 1 := by
        have h1 : (a :: b :: r).length = r.length + 2 := rfl
        have h2 : (b :: r).length = r.length + 1 := rfl
        omega
      rw [e, List.eraseIdx_cons_succ, ih]
      all_goals rfl
theorem len_erase {α : Type} : ∀ (l : List α) (i : Nat), (l.eraseIdx i).length ≤ l.length
  | [], _ => Nat.le_refl _
  | _ :: _, 0 => Nat.le_succ _
  | _ :: r, i + 1 => Nat.succ_le_succ (len_erase r i)
theorem foldl_rep (its : List Value) : ∀ (k : Nat) (acc : List Value),
    List.foldl (fun x1 x2 => x1 ++ x2) acc.toArray (List.replicate k its.toArray) = (acc ++ (List.replicate k its).flatten).toArray
  | 0, acc => by simp
  | k + 1, acc => by
    have e : acc.toArray ++ its.toArray = (acc ++ its).toArray := by simp
    have e2 : (acc ++ its) ++ (List.replicate k its).flatten = acc ++ (List.replicate (k + 1) its).flatten := by
      rw [List.replicate_succ, List.flatten_cons, List.append_assoc]
    rw [← e2, ← foldl_rep its k (acc ++ its), ← e, List.replicate_succ, List.foldl_cons]
section
variable {X : Cx} {pins : List (Addr × Obj)} {σ : St} {H : Hp} {s : Shared} {l b : Addr} {xs ys zs : List V}
theorem Inv.lset {its its' : List Value} {n : Nat} {f : Array Value → Array Value} {t' : Nat} (I : Inv X pins σ H s) (hH : H l = some (.lst xs))
    (e : s.heap.get? l = some { cls := .type "list", data := .seq its.toArray n }) (hf : f its.toArray = its'.toArray) (hv : Vals ys its') (hz : ys.length ≤ sizeLine) :
    Inv X pins σ (upd H l (.lst ys)) { s with heap := s.heap.update l (Obj.mapSeq f), toks := t' } := by
  have q := PySem.IsL.update e f
  rw [hf] at q
  refine I.write (x := l) (e := l) (by rw [hH]; exact trivial) (.inl rfl) (fun b' u hb hu => (Heap.get?_update_other s.heap (Obj.mapSeq f) (Ne.symm hb)).trans hu) ⟨_, q⟩ ?_
  exact ⟨hz, its', _, hv, q⟩
theorem Inv.lnew {its : List Value} {t' : Nat} (I : Inv X pins σ H s) (hv : Vals ys its) (hz : ys.length ≤ sizeLine) :
    Inv X pins σ (upd H s.heap.objs.size (.lst ys)) { s with heap := s.heap.push { cls := .type "list", data := .seq its.toArray }, toks := t' } :=
  I.laid (fun _ _ q => Heap.get?_push_of_some _ q) (Nat.le_refl _) ⟨hz, its, 0, hv, Heap.get?_push_size _ rfl⟩
theorem Inv.fresh (I : Inv X pins σ H s) : H s.heap.objs.size = none := I.hok.fresh (Nat.le_refl _)
theorem Inv.lstM (I : Inv X pins σ H s) (hH : H l = some (.lst xs)) : xs.length ≤ sizeLine ∧ ∃ (its : List Value) (n : Nat), Vals xs its ∧ xs.length = its.length ∧ s.heap.get? l = some { cls := .type "list", data := .seq its.toArray n } := by
  obtain ⟨z, its, n, r, e⟩ := I.hok l _ hH
  exact ⟨z, its, n, r, r.length, e⟩
theorem notLongL {n : Nat} (h : n ≤ sizeLine) : Builtin.List.listTooLong n = false := by
  unfold Builtin.List.listTooLong
  exact decide_eq_false (by omega)
end
section
variable {X : Cx}
def rAppend : V → List V → Hp → VK → Prop := fun x vs H Q => ∃ l xs y, x = .ref l ∧ vs = [y] ∧ H l = some (.lst xs) ∧ xs.length < sizeLine ∧ Q .non (upd H l (.lst (xs ++ [y])))
theorem mt_append : MtM X "list.append" rAppend := by
  intro pins s σ H x vs v us Q I rx rv h
  obtain ⟨l, xs, y, rfl, rfl, hH, hz, q⟩ := h
  cases rx
  obtain ⟨u, rfl, ru⟩ := rv.one
  obtain ⟨z, its, n, r, hl, e⟩ := I.lstM hH
  refine call_meets F.slot_list_append ⟨_, e, rfl⟩ F.entry_list_append (F.args_list_append_2 _ _) (PySem.list_append l its.toArray n u (by rw [List.size_toArray]; omega)) ⟨e, ?_⟩
  refine ⟨.non, _, I.lset (its' := its ++ [u]) hH e (by simp) (r.append (.cons ru .nil)) ?_, rfl, q⟩
  rw [List.length_append, List.length_singleton]
  omega
def rExtend : V → List V → Hp → VK → Prop := fun x vs H Q => ∃ l b xs zs, x = .ref l ∧ vs = [.ref b] ∧ H l = some (.lst xs) ∧ H b = some (.lst zs) ∧ xs.length + zs.length ≤ sizeLine ∧ Q .non (upd H l (.lst (xs ++ zs)))
theorem mt_extend : MtM X "list.extend" rExtend := by
  intro pins s σ H x vs v us Q I rx rv h
  obtain ⟨l, b, xs, zs, rfl, rfl, hH, hB, hz, q⟩ := h
  cases rx
  obtain ⟨u, rfl, ru⟩ := rv.one
  cases ru
  obtain ⟨z, its, n, r, hl, e⟩ := I.lstM hH
  obtain ⟨z2, its2, n2, r2, hl2, e2⟩ := I.lstM hB
  have hsz : its.toArray.size + its2.toArray.size ≤ sizeLine := by rw [List.size_toArray, List.size_toArray]; omega
  have hlong : ¬ (!its.toArray.isEmpty && Builtin.List.listTooLong (its.toArray.size + its2.toArray.size)) = true := by
    rw [notLongL hsz, Bool.and_false]
    exact Bool.false_ne_true
  refine call_meets F.slot_list_extend ⟨_, e, rfl⟩ F.entry_list_extend (F.args_list_extend_2 _ _)
    (AutoSeq1.list_extend_list_list_0 l its.toArray n b its2.toArray n2 hlong (by rw [List.size_toArray]; omega) (by omega)) ⟨e, e2, ?_⟩
  refine ⟨.non, _, I.lset (its' := its ++ its2) hH e (by simp) (r.append r2) ?_, rfl, q⟩
  rw [List.length_append]
  omega
def rPop : V → List V → Hp → VK → Prop := fun x vs H Q => ∃ l xs y, x = .ref l ∧ vs = [] ∧ H l = some (.lst xs) ∧ xs[xs.length - 1]? = some y ∧ Q y (upd H l (.lst xs.dropLast))
theorem mt_pop : MtM X "list.pop" rPop := by
  intro pins s σ H x vs v us Q I rx rv h
  obtain ⟨l, xs, y, rfl, rfl, hH, hy, q⟩ := h
  cases rx
  have hus := rv.zero
  subst hus
  obtain ⟨z, its, n, r, hl, e⟩ := I.lstM hH
  obtain ⟨u, hu, ru⟩ := r.get hy
  have hy' : its.toArray[its.toArray.size - 1]? = some u := by
    show its.toArray[its.length - 1]? = some u
    rw [← Array.getElem?_toList, ← hl]
    exact hu
  refine call_meets F.slot_list_pop ⟨_, e, rfl⟩ F.entry_list_pop (F.args_list_pop_1 _) (MeetsSeq.list_pop_last l its.toArray n u hy' (by rw [List.size_toArray]; omega)) ⟨e, ?_⟩
  refine ⟨y, _, I.lset (its' := its.dropLast) hH e ?_ r.dropLast ?_, ru, q⟩
  · show its.toArray.eraseIdxIfInBounds (its.toArray.size - 1) = its.dropLast.toArray
    rw [List.size_toArray, List.eraseIdxIfInBounds_toArray, erase_last]
  · rw [List.length_dropLast]
    omega
def rPopAt : V → List V → Hp → VK → Prop := fun x vs H Q => ∃ l xs i k y, x = .ref l ∧ vs = [.int i] ∧ H l = some (.lst xs) ∧ -(2 ^ 63) ≤ i ∧ i < 2 ^ 63 ∧ seqIndex? i xs.length = some k ∧ xs[k]? = some y ∧ Q y (upd H l (.lst (xs.eraseIdx k)))
theorem mt_popAt : MtM X "list.pop" rPopAt := by
  intro pins s σ H x vs v us Q I rx rv h
  obtain ⟨l, xs, i, k, y, rfl, rfl, hH, h1, h2, hk, hy, q⟩ := h
  cases rx
  obtain ⟨u, rfl, ru⟩ := rv.one
  obtain ⟨t, rfl⟩ := ru
  obtain ⟨z, its, n, r, hl, e⟩ := I.lstM hH
  obtain ⟨w, hw, rw'⟩ := r.get hy
  refine call_meets F.slot_list_pop ⟨_, e, rfl⟩ F.entry_list_pop (F.args_list_pop_2 _ _)
    (MeetsSeq.list_pop_at l its.toArray n i t k w (fitsIndex_both h1 h2) (by rw [List.size_toArray, ← hl]; exact hk) (by rw [← Array.getElem?_toList]; exact hw) (by rw [List.size_toArray]; omega)) ⟨e, ?_⟩
  refine ⟨y, _, I.lset (its' := its.eraseIdx k) hH e ?_ (r.eraseIdx k) ?_, rw', q⟩
  · show its.toArray.eraseIdxIfInBounds k = (its.eraseIdx k).toArray
    rw [List.eraseIdxIfInBounds_toArray]
  · have := len_erase xs k
    omega
def rCat : R2 := fun x y H Q => ∃ l b xs zs, x = .ref l ∧ y = .ref b ∧ H l = some (.lst xs) ∧ H b = some (.lst zs) ∧ xs.length + zs.length ≤ sizeLine ∧ ∀ p, H p = none → Q (.ref p) (upd H p (.lst (xs ++ zs)))
theorem op_cat : OpR X (binaryOp .Add) rCat := by
  intro pins s σ H x y v u Q I rx ry h
  obtain ⟨l, b, xs, zs, rfl, rfl, hH, hB, hz, q⟩ := h
  cases rx
  cases ry
  obtain ⟨z, its, n, r, hl, e⟩ := I.lstM hH
  obtain ⟨z2, its2, n2, r2, hl2, e2⟩ := I.lstM hB
  refine PySem.P.add_list e e2 ?_ (by rw [List.size_toArray, List.size_toArray]; omega)
  have ea : its.toArray ++ its2.toArray = (its ++ its2).toArray := by simp
  rw [ea]
  exact ⟨.ref _, _, I.lnew (t' := s.toks) (r.append r2) (by rw [List.length_append]; omega), rfl, q _ I.fresh⟩
def rRep : R2 := fun x y H Q => ∃ l k xs, x = .ref l ∧ y = .int k ∧ H l = some (.lst xs) ∧ -(2 ^ 63) ≤ k ∧ k < 2 ^ 63 ∧ xs.length * k.toNat ≤ sizeLine ∧
  ∀ p, H p = none → Q (.ref p) (upd H p (.lst (List.replicate k.toNat xs).flatten))
theorem len_rep {α : Type} (xs : List α) (k : Nat) : (List.replicate k xs).flatten.length = k * xs.length := by
  induction k with
  | zero => simp
  | succ k ih => rw [List.replicate_succ, List.flatten_cons, List.length_append, ih, Nat.succ_mul, Nat.add_comm]
theorem op_rep : OpR X (binaryOp .Mult) rRep := by
  intro pins s σ H x y v u Q I rx ry h
  obtain ⟨l, k, xs, rfl, rfl, hH, h1, h2, hz, q⟩ := h
  cases rx
  obtain ⟨t, rfl⟩ := ry
  obtain ⟨z, its, n, r, hl, e⟩ := I.lstM hH
  have hlen : its.toArray.size * k.toNat ≤ sizeLine := by rw [List.size_toArray, ← hl]; exact hz
  have hcap : ¬ its.toArray.size * k.toNat > (2 ^ 63 - 1) / 8 := by
    have : (sizeLine : Nat) ≤ (2 ^ 63 - 1) / 8 := by decide
    omega
  have hfit : ¬ (!Builtin.List.listFitsIndex k) = true := by
    rw [fitsIndex_both h1 h2]
    exact Bool.false_ne_true
  have hlong : ¬ Builtin.List.listTooLong (its.toArray.size * k.toNat) = true := by
    rw [notLongL hlen]
    exact Bool.false_ne_true
  have hnew : List.foldl (fun x1 x2 => x1 ++ x2) #[] (List.replicate (if its.toArray.isEmpty = true then 0 else k.toNat) its.toArray) = (List.replicate k.toNat its).flatten.toArray := by
    have f0 : ∀ m : Nat, List.foldl (fun x1 x2 => x1 ++ x2) #[] (List.replicate m its.toArray) = (List.replicate m its).flatten.toArray := fun m => by
      have := foldl_rep its m []
      rw [List.nil_append] at this
      exact this
    rw [f0]
    cases its with
    | nil => simp
    | cons a r' => rw [if_neg (by simp)]
  refine wpAny_binaryOp_repeat_ref (T := "list") (U := "int") (by decide) ⟨_, e, rfl⟩ (fun s' => typeIs_int s' k t) noFill_list_mul F.fills_int_mul F.slot_int_rmul repeat_list F.slot_int_index.lookup
    (call_meets F.slot_int_rmul (typeIs_int s k t) F.entry_int_rmul (F.args_int_rmul_2 _ _) (int___rmul___int_list k t l its.toArray n)
      ⟨e, rfl, ⟨_, e, rfl⟩, call_meets F.slot_list_mul ⟨_, e, rfl⟩ F.entry_list_mul (F.args_list_mul_2 _ _) (AutoListH.list___mul___list_int_3 l its.toArray n k t hfit hcap hlong) ⟨e, ?_⟩⟩)
  rw [hnew]
  exact ⟨.ref _, _, I.lnew (t' := s.toks) (r.rep k.toNat) (by rw [len_rep, Nat.mul_comm]; exact hz), rfl, q _ I.fresh⟩
end
section
variable {prog : Program} {w : World} {A : Around} {E : Value → Shared → Prop} {s : Shared}
end
section
variable {X : Cx}
end
end L2
namespace Att
open PySem PySem.W PySem.Calls PyProof.Rows
theorem ints_of_wellAll {P : Params} {h : Heap} : ∀ (ns : List Int) (vs : List Value), WellAll P h vs (ns.map WData.int) → IntsAre vs ns := by
  intro ns
  induction ns with
  | nil =>
    intro vs w
    rw [List.map_nil] at w
    cases w
    exact .nil
  | cons n ns ih =>
    intro vs w
    rw [List.map_cons] at w
    cases w with
    | cons a b =>
      cases a
      exact .cons _ _ (ih _ b)
theorem script_of {l : OpenLaw} {n : Nat} (hn : l.most = some n) {P : Params} {h : Heap} {args : List WData} {vals : List Value}
    (hpre : l.row.toRowW.claim.pre args = true) (hwl : WellAll P h vals args) :
    ∃ a vs ns, vals = [Value.ref a] ∧ args = [WData.list (ns.map WData.int)] ∧ h.get? a = some { cls := .type "list", data := .seq vs.toArray } ∧ IntsAre vs ns ∧ ns.length ≤ n := by
  have hsh : WShape.hasAll [] args [.list .int] = true := (pre_splitW hpre).1
  have hc : l.pre.holds [] { args := args } = true := (pre_splitW hpre).2
  obtain ⟨d, r, rfl, h1, h2⟩ := hasAllW_cons hsh
  obtain rfl := hasAllW_nil h2
  obtain ⟨xs, rfl, h3⟩ := hasW_list h1
  obtain ⟨ns, rfl⟩ := items_int h3
  have hlen : ns.length ≤ n := by
    unfold OpenLaw.pre at hc
    have h4 : (WTm.not (.lt (.lit (.int (n : Int))) (.len (.arg 0)))).holds [] { args := [.list (ns.map .int)] } = true := by
      have h4 := (holds_andW hc).1
      rw [hn] at h4
      exact h4
    have h5 := condW_of h4 (w_not (w_lt w_lit (w_len_list (w_arg rfl))))
    rw [List.length_map] at h5
    refine Nat.le_of_not_lt fun q => ?_
    have q' : (n : Int) < ((ns.length : Nat) : Int) := by omega
    first
      | (rw [decide_eq_true q'] at h5; exact absurd h5 (by decide))
      | (simp at h5; omega)
  cases hwl with
  | cons w1 w2 =>
    cases w2
    cases w1 with
    | list ho hall => exact ⟨_, _, ns, rfl, rfl, ho, ints_of_wellAll ns _ hall, hlen⟩
theorem post_true (l : OpenLaw) (args : List WData) : l.row.toRowW.claim.post args (.bool true) args = true :=
  postW_of (r := l.row.toRowW) (X := (true == true))
    (show WShape.has [] (.bool true) .bool = true by first | rfl | decide | simp [WShape.has, WShape.arms, WShape.armsAll])
    (show (WTm.eq .res (.lit (.bool true))).value [] { args := args, res := some (.bool true), after := args } = some (.bool (true == true)) from w_eq_bool (w_res rfl) w_lit) rfl
theorem attach_call {l : OpenLaw} {n : Nat} {q : Program} {loose : List Str} {XP : (Str → Option Value) → Heap → Prop} {YP : World → Heap → Prop} {d : DefRec}
    (hn : l.most = some n) (hdf : d.params.defaults = [])
    (call : ∀ (w : World) (s₀ s₁ : Shared) (mg mb : Str → Option Value) (fa : Addr) (o : Obj) (pm cd doc : Value) (a : Addr) (vs : List Value) (ns : List Int),
      Ground q loose [] XP w s₀ mg mb s₁.heap → YP w s₁.heap →
      s₁.heap.get? fa = some o → o.data = .func (docDef d.name d.params d.body d.scope pm cd doc) → s₁.heap.CodeRec cd d.name → mg d.name = some (.ref fa) →
      s₁.heap.get? a = some { cls := .type "list", data := .seq vs.toArray } → IntsAre vs ns → ns.length ≤ n → s₁.gens = #[] →
      codeAny (model l.prog w) callerA (.call (.ref fa) ⟨[.ref a], []⟩) (fun r s' => r = .ok (.ret (.bool true)) ∧ OldK s₁.heap s'.heap ∧ s'.os = s₁.os ∧ AllBare s'.gens) s₁) :
    WalkO q loose XP YP l.row.toRowW d [] (fun f vs => PySem.call f vs) := by
  intro w s₀ s₁ mg mb G Y fa o pm cd doc dV kV ho hd hcd hD hmg hg args vals as hpre hlay hrd hwl hlo
  obtain rfl : dV = .none := Dflts.none hD hdf
  obtain rfl : kV = .none := Dflts.noKw hD
  obtain ⟨a, vs, ns, rfl, rfl, hobj, hints, hlen⟩ := script_of hn hpre hwl
  refine enter_call (codeAny_mono (call w s₀ s₁ mg mb fa o pm cd doc a vs ns G Y ho (fd_plain hd) hcd hmg hobj hints hlen hg) fun r s' hq => ?_)
  obtain ⟨rfl, h2, h3, h4⟩ := hq
  exact ⟨.inl ⟨.bool true, .bool true, [], rfl, fun _ => rfl, .bool true, post_true l _, fun _ => ⟨List.Pairwise.nil, fun _ hm => (nomatch hm)⟩⟩, h2, h3, h4⟩
section
variable {prog : Program} {w : World} {A : Around} {E : Value → Shared → Prop} {s : Shared} {K : Frag}
end
end Att
namespace L2
open PySem PySem.Spec PyProof.Rows
theorem vals_ints : ∀ {vs : List Value} {ns : List Int}, IntsAre vs ns → Vals (ns.map V.int) vs
  | _, _, .nil => .nil
  | _, _, .cons n t h => .cons ⟨t, rfl⟩ (vals_ints h)
def Only (H : Hp) : Prop := ∀ b, H b = none ∨ ∃ o xs, H b = some (.frz o (.lst xs))
theorem law_call {P : Program} {w : World} {K : PySem.W.Frag} {mg mb : Str → Option Value} {CX : CXT} {k : Nat} {fa a : Addr} {fd : FuncData} {x : Str} {sp : Sp} {s₁ : Shared} {vs : List Value} {ns : List Int}
    (KX : K.In s₁.heap) (hns : s₁.heap.Ns mainGlobals mg) (hb : s₁.heap.Ns builtinsNs mb) (hbb : ∀ x : Str, x ≠ "__name__" → mb x = bootBuiltins x) (hlim : s₁.heap.NoLimit) (hg : s₁.gens = #[])
    (ha : s₁.heap.get? a = some { cls := .type "list", data := .seq vs.toArray }) (hi : IntsAre vs ns) (hl : ns.length ≤ sizeLine) (hr : Room k callerA)
    (F : ∀ base : Heap, K.In base → base.Ns mainGlobals mg → FnOk P w K mg base CX k fa fd [x] sp) (hbind : ∀ (s : Shared) (u : Value), BindsTo s fd ⟨[u], []⟩ [(x, u)])
    (hsp : ∀ H : Hp, Only H → SqL K H a (ns.map V.int) → sp [.ref a] H (fun v _ => v = .bl true) fun _ _ _ => False)
    (hCX : ∀ H e s', CX [] H s₁ (fun _ _ _ => False) e s' → False) :
    codeAny (model P w) callerA (.call (.ref fa) ⟨[.ref a], []⟩) (fun r s' => r = .ok (.ret (.bool true)) ∧ OldK s₁.heap s'.heap ∧ s'.os = s₁.os ∧ AllBare s'.gens) s₁ := by
  have rv := vals_ints hi
  have lenV := hi.length
  -- from an abstract heap in which nothing but the script may be tracked
  have core : ∀ H : Hp, Only H → SqL K H a (ns.map V.int) → HOk P w H s₁.heap → (∀ b, H b ≠ none → b = a) → (H a ≠ none → K.lookup a = none) →
      codeAny (model P w) callerA (.call (.ref fa) ⟨[.ref a], []⟩) (fun r s' => r = .ok (.ret (.bool true)) ∧ OldK s₁.heap s'.heap ∧ s'.os = s₁.os ∧ AllBare s'.gens) s₁ := by
    intro H hO hS hok hA hK
    have base_of : ∀ {b : Addr} {o : Obj}, s₁.heap.get? b = some o → H b = none → (hidT s₁.heap H).get? b = some o := fun e n => hidT_get e n
    have noA : ∀ {b : Addr} {o : Obj} {es : Array DictEntry} {ep : Nat}, s₁.heap.get? b = some o → o.data = .dict es ep → H b = none := fun {b o es ep} e d => by
      cases q : H b with
      | none => rfl
      | some u =>
        have e' : b = a := hA b (by rw [q]; simp)
        subst e'
        rw [ha] at e; cases e
        have d' : Data.seq vs.toArray _ = Data.dict es ep := d
        cases d'
    have nsK : ∀ {b : Addr} {m : Str → Option Value}, s₁.heap.Ns b m → (hidT s₁.heap H).Ns b m := fun {b m} ⟨o, es, ep, e, d, r⟩ => ⟨o, es, ep, base_of e (noA e d), d, r⟩
    have hKb : K.In (hidT s₁.heap H) := fun b o e => base_of (KX b o e) (by
      cases q : H b with
      | none => rfl
      | some u =>
        have e' : b = a := hA b (by rw [q]; simp)
        subst e'
        rw [hK (by rw [q]; simp)] at e; cases e)
    have hM : Mod K mg (hidT s₁.heap H) := ⟨hKb, nsK hns, ⟨mb, nsK hb, hbb⟩, let ⟨mc, h1, h2⟩ := hlim; ⟨mc, nsK h1, h2⟩⟩
    have e0 : Env0 P w K mg (hidT s₁.heap H) callerA [] s₁ H := ⟨rfl, hM, fun b o e => of_hidT e, Nat.le_of_eq (hidT_size _ _), trivial, fun b hb => absurd (show b ∈ ([] : List Addr) from hb) (by simp), hok, .of_eq hg⟩
    refine codeAny_mono ((F _ hKb (nsK hns)).run callerA [] s₁ H ⟨[.ref a], []⟩ [.ref a] [.ref a] _ _ hr e0 (hbind s₁ (.ref a)) (.cons rfl .nil) (hsp H hO hS)) fun r s' h => ?_
    cases r with
    | error e => exact (hCX H e s' h).elim
    | ok fl =>
      cases fl with
      | next => exact False.elim h
      | brk => exact False.elim h
      | cont => exact False.elim h
      | ret u =>
        obtain ⟨v, H', os, bare, un, hok', r', q⟩ := h
        have q' : v = .bl true := q
        subst q'
        obtain rfl : u = Value.bool true := r'
        refine ⟨rfl, OldK.of_keep fun b o e => ?_, os, bare⟩
        cases q : H b with
        | none => exact un.keep b o e q (by intro z; exact absurd (show b ∈ ([] : List Addr) from z) (by simp)) (by simp)
        | some u =>
          rcases hO b with z | ⟨ob, xs, z⟩
          · rw [q] at z; cases z
          · have z2 := un.frzs b ob _ z
            obtain ⟨e1, _⟩ := hok b _ z
            obtain ⟨e2, _⟩ := hok' b _ z2
            rw [e] at e1; cases e1
            exact e2
  cases hk : K.lookup a with
  | some o =>
    -- the script is one of the module's own objects
    have e := KX a o hk
    rw [ha] at e
    cases e
    refine core (fun _ => none) (fun _ => .inl rfl) (.inr ⟨_, vs.toArray, _, hk, rfl, rfl, rfl, by rw [List.size_toArray, lenV]; exact hl, by simpa using rv⟩) (fun b u z => by have z' : (none : Option HO) = some u := z; cases z') (fun b z => absurd rfl z) fun z => absurd rfl z
  | none =>
    refine core (fun b => if b = a then some (.frz { cls := .type "list", data := .seq vs.toArray } (.lst (ns.map V.int))) else none) (fun b => ?_) (.inl (.inr ⟨{ cls := .type "list", data := .seq vs.toArray }, if_pos rfl⟩)) (fun b u z => ?_) (fun b z => ?_) fun _ => hk
    · by_cases hb : b = a
      · exact .inr ⟨_, _, if_pos hb⟩
      · exact .inl (if_neg hb)
    · by_cases hb : b = a
      · have z' := (if_pos hb).symm.trans z
        cases z'
        subst hb
        exact ⟨ha, by rw [List.length_map]; exact hl, vs, _, rv, ha⟩
      · have z' := (if_neg hb).symm.trans z
        cases z'
    · by_cases hb : b = a
      · exact hb
      · exact absurd (if_neg hb) z
end L2
namespace L2
open PySem PySem.Spec PyProof.Rows
theorem walk_of {l : PySem.W.OpenLaw} {n k : Nat} {q : Program} {loose : List Str} {XP : (Str → Option Value) → Heap → Prop} {YP : World → Heap → Prop} {d : DefRec} {K : Params → PySem.W.Frag} {CX : World → CXT} {sp : World → Sp} {x : Str}
    (hn : l.most = some n) (hn2 : n ≤ sizeLine) (hdf : d.params.defaults = []) (hr : Room k callerA)
    (hY : ∀ (w : World) (h : Heap), YP w h → (K w.params).In h)
    (F : ∀ (w : World) (mg : Str → Option Value) (fa : Addr) (h : Heap), (K w.params).In h → h.Ns mainGlobals mg → mg d.name = some (.ref fa) →
      ∃ fd : FuncData, (∀ (s : Shared) (u : Value), BindsTo s fd ⟨[u], []⟩ [(x, u)]) ∧
        ∀ base : Heap, (K w.params).In base → base.Ns mainGlobals mg → FnOk l.prog w (K w.params) mg base (CX w) k fa fd [x] (sp w))
    (hsp : ∀ (w : World) (H : Hp) (a : Addr) (ns : List Int), ns.length ≤ n → Only H → SqL (K w.params) H a (ns.map V.int) → sp w [.ref a] H (fun v _ => v = .bl true) fun _ _ _ => False)
    (hCX : ∀ (w : World) (H : Hp) (s : Shared) (e : Value) (s' : Shared), CX w [] H s (fun _ _ _ => False) e s' → False) :
    PySem.W.WalkO q loose XP YP l.row.toRowW d [] (fun f vs => PySem.call f vs) := by
  refine Att.attach_call hn hdf fun w s₀ s₁ mg mb fa o pm cd doc a vs ns G Y ho hd hcd hmg hobj hints hlen hg => ?_
  have KX := hY w _ Y
  obtain ⟨fd, hb, hF⟩ := F w mg fa _ KX G.T.g hmg
  exact law_call KX G.T.g G.T.b G.T.builtins G.T.nolimit hg hobj hints (Nat.le_trans hlen hn2) hr hF hb (fun H hO hS => hsp w H a ns hlen hO hS) fun H e s' => hCX w H s₁ e s'
end L2
/- THE LAST THEOREM (shape; LID, My.* are yours):
   My.Adr: a structure of the addresses that your layer names (classes, functions); My.Txt K t: a structure (Prop) of the equations over K;
   My.txt_mk : {K} {implicit addresses ..} (e1 : nsIn K mainGlobals "law" = some (some (.ref f))) (e2 : K.lookup f = some ⟨oc, od, .func (fnOf "law" "law" params body scope dV kV doc pm an cdv ct), sl⟩) (e3 : codeIn K cdv "law" = true) .. : ∃ t, My.Txt K t
(the tactic k_is has no namespace: write k_is) -/
namespace L2
open PySem PySem.Spec PyProof.Rows
def defArgs (s : Stmt) : Arguments := match s with
  | .FunctionDef _ a _ _ _ _ _ _ _ _ => a
  | _ => { posonlyargs := [], args := [], vararg := none, kwonlyargs := [], kw_defaults := [], kwarg := none, defaults := [] }
def defBody (s : Stmt) : List Stmt := match s with
  | .FunctionDef _ _ b _ _ _ _ _ _ _ => b
  | _ => []
def defScope (s : Stmt) : Scope := match s with
  | .FunctionDef _ _ _ _ _ _ sc _ _ _ => sc
  | _ => { kind := .function, names := [], isGenerator := false, isCoroutine := false }
abbrev CX0 : CXT := fun _ _ _ _ _ _ => False
abbrev E0 : XK := fun _ _ _ => False
theorem pass0 {X : Cx} : Passes CX0 X E0 := fun _ _ _ _ _ _ _ h => h.elim
structure Fun (K : PySem.W.Frag) (x qual : Str) (st : Stmt) (f : Addr) (fd : FuncData) : Prop where
  ex : ∃ (oc : Value) (od : Option Addr) (kV doc pm : Value) (an : Option Addr) (cdv ct : Value) (osl : Array (Option Value)),
    fd = PySem.W.fnOf x qual (defArgs st) (defBody st) (defScope st) .none kV doc pm an cdv ct ∧ K.lookup f = some ⟨oc, od, .func fd, osl⟩ ∧ PySem.W.codeIn K cdv qual = true
  kp : PySem.W.keepIn K (.ref f) = true
section
variable {P : Program} {w : World} {K : PySem.W.Frag} {mg : Str → Option Value} {base : Heap}
theorem Fun.ok {x qual : Str} {st : Stmt} {f : Addr} {fd : FuncData} {N ps : List Str} {k : Nat} {sp : Sp} (F : Fun K x qual st f fd) (S : FnScope N ps (defScope st)) (len : ∀ vs H Q E, sp vs H Q E → vs.length = ps.length)
    (hbody : ∀ (cdv : Value) (A : Around) (outer : List Env) (s : Shared) (H : Hp) (vs : List V) (Q : VK) (E : XK), Room k (A.deeper (envOfC qual (defScope st) s.heap.objs.size f cdv)) → sp vs H Q E →
      ∃ t, PSs (cxOf CX0 P w K mg base N qual (defScope st) f cdv A outer s H E).nox (defBody st) t ∧ t { nx := fun _ H' => Q .non H', rt := Q } (start N vs) H) : FnOk P w K mg base CX0 (k + 1) f fd ps sp := by
  obtain ⟨oc, od, kV, doc, pm, an, cdv, ct, osl, rfl, lk, hcd⟩ := F.ex
  refine fn_of lk hcd S len fun A outer s H vs Q E hr hsp => ?_
  obtain ⟨t, h, q⟩ := hbody cdv A outer s H vs Q E hr hsp
  exact ⟨t, h.nox, q⟩
theorem Fun.binds {x qual : Str} {st : Stmt} {f : Addr} {fd : FuncData} {ps : List Str} (F : Fun K x qual st f fd)
    (h : ∀ (kV doc pm : Value) (an : Option Addr) (cdv ct : Value) (us : List Value), us.length = ps.length → bindArgs (PySem.W.fnOf x qual (defArgs st) (defBody st) (defScope st) .none kV doc pm an cdv ct) ⟨us, []⟩ = pure (ps.zip us)) : Binds K fd ps [] := by
  obtain ⟨oc, od, kV, doc, pm, an, cdv, ct, osl, rfl, lk, hcd⟩ := F.ex
  exact .all (h kV doc pm an cdv ct)
theorem fun_mk {x qual : Str} {st : Stmt} {f : Addr} {oc : Value} {od an : Option Addr} {osl : Array (Option Value)} {kV doc pm cdv ct : Value} (l : K.lookup f = some ⟨oc, od, .func (PySem.W.fnOf x qual (defArgs st) (defBody st) (defScope st) .none kV doc pm an cdv ct), osl⟩)
    (c : PySem.W.codeIn K cdv qual = true) (k : PySem.W.keepIn K (.ref f) = true) : Fun K x qual st f (PySem.W.fnOf x qual (defArgs st) (defBody st) (defScope st) .none kV doc pm an cdv ct) := ⟨⟨oc, od, kV, doc, pm, an, cdv, ct, osl, rfl, l, c⟩, k⟩
end
theorem hu_of {A : Around} {k : Nat} (hr : Room k A) : A.units + 1 < cLine := Nat.lt_of_le_of_lt (Nat.add_le_add_left (by decide : 1 ≤ 64) _) hr.units
section
variable {X : Cx}
theorem pv (i : Nat) {x : Str} {pos : Pos} (hN : X.N[i]? = some x := by rfl) (hv : Vis X.env.scope x := by first | exact Or.inl rfl | exact Or.inr (Or.inl rfl) | exact Or.inr (Or.inr rfl)) (hd : (x == ("__debug__" : Str)) = false := by decide)
    (hcd : (x == ("__classdict__" : Str)) = false := by decide) : PE X (.Name x pos) (tVar i) := pe_var hN hv hd hcd
end
theorem ite2 {c A B : Prop} [Decidable c] (h1 : c → A) (h2 : ¬ c → B) : if c then A else B := by
  by_cases h : c
  · rw [if_pos h]
    exact h1 h
  · rw [if_neg h]
    exact h2 h
end L2
namespace L2
open PySem PySem.Spec PyProof.Rows
section
variable {κ : Type} [DecidableEq κ]
def valV (kvs : List (κ × V)) (k : κ) : Option V := (kvs.find? fun kv => decide (kv.1 = k)).map (·.2)
def putK (kvs : List (κ × V)) (k : κ) (v : V) : List (κ × V) :=
  if (kvs.any fun kv => decide (kv.1 = k)) = true then kvs.map (fun kv => if kv.1 = k then (kv.1, v) else kv) else kvs ++ [(k, v)]
theorem valV_pos {p : κ × V} {r : List (κ × V)} {k : κ} (e : p.1 = k) : valV (p :: r) k = some p.2 := by simp [valV, List.find?_cons, e]
theorem valV_neg {p : κ × V} {r : List (κ × V)} {k : κ} (e : ¬ p.1 = k) : valV (p :: r) k = valV r k := by simp [valV, List.find?_cons, e]
theorem valV_any (k : κ) : ∀ kvs : List (κ × V), (kvs.any fun kv => decide (kv.1 = k)) = (valV kvs k).isSome
  | [] => rfl
  | p :: r => by
    rw [List.any_cons]
    by_cases e : p.1 = k
    · simp only [valV_pos e, decide_eq_true e, Bool.true_or, Option.isSome_some]
    · rw [valV_neg e, decide_eq_false e, Bool.false_or]; exact valV_any k r
theorem valV_map (k j : κ) (y : V) : ∀ kvs : List (κ × V), valV (kvs.map fun kv => if kv.1 = k then (kv.1, y) else kv) j = (valV kvs j).map fun x => if j = k then y else x
  | [] => rfl
  | p :: r => by
    have ih := valV_map k j y r
    rw [List.map_cons]
    by_cases h : p.1 = k
    · rw [if_pos h]
      by_cases e : p.1 = j
      · rw [valV_pos (p := (p.1, y)) e, valV_pos e, Option.map_some, if_pos (e.symm.trans h)]
      · rw [valV_neg (p := (p.1, y)) e, valV_neg e, ih]
    · rw [if_neg h]
      by_cases e : p.1 = j
      · rw [valV_pos (p := p) e, valV_pos e, Option.map_some, if_neg (fun z => h (e.trans z))]
      · rw [valV_neg (p := p) e, valV_neg e, ih]
theorem valV_snoc (k j : κ) (y : V) : ∀ kvs : List (κ × V), valV kvs k = none → valV (kvs ++ [(k, y)]) j = if j = k then some y else valV kvs j
  | [], _ => by
    by_cases e : k = j
    · rw [if_pos e.symm]; exact valV_pos (p := (k, y)) e
    · rw [if_neg (fun z => e z.symm)]; exact valV_neg (p := (k, y)) e
  | p :: r, hn => by
    rw [List.cons_append]
    have hk : ¬ p.1 = k := fun z => by rw [valV_pos z] at hn; cases hn
    rw [valV_neg hk] at hn
    have ih := valV_snoc k j y r hn
    by_cases e : p.1 = j
    · rw [valV_pos e, valV_pos e, if_neg (fun z => hk (e.trans z))]
    · rw [valV_neg e, valV_neg e, ih]
theorem valV_put (kvs : List (κ × V)) (k j : κ) (y : V) : valV (putK kvs k y) j = if j = k then some y else valV kvs j := by
  unfold putK
  by_cases a : (kvs.any fun kv => decide (kv.1 = k)) = true
  · rw [if_pos a, valV_map]
    rw [valV_any] at a
    by_cases e : j = k
    · obtain ⟨x, hx⟩ := Option.isSome_iff_exists.mp a
      rw [if_pos e, e, hx, Option.map_some, if_pos rfl]
    · rw [if_neg e]
      cases valV kvs j with
      | none => rfl
      | some x => rw [Option.map_some, if_neg e]
  · rw [if_neg a]
    refine valV_snoc k j y kvs ?_
    rw [valV_any] at a
    cases q : valV kvs k with
    | none => rfl
    | some x => rw [q] at a; exact (a rfl).elim
theorem length_putK (kvs : List (κ × V)) (k : κ) (v : V) : (putK kvs k v).length ≤ kvs.length + 1 := by
  unfold putK
  split
  · rw [List.length_map]; omega
  · rw [List.length_append, List.length_cons, List.length_nil]; omega
theorem RelO.isSome_eq {o : Option V} {u : Option Value} (r : RelO o u) : o.isSome = u.isSome := by
  cases o with
  | none => cases u with
    | none => rfl
    | some _ => exact (show False from r).elim
  | some _ => cases u with
    | none => exact (show False from r).elim
    | some _ => rfl
theorem KV.val {kvs : List (κ × V)} {vs : List (κ × Value)} (r : KV kvs vs) (k : κ) : RelO (valV kvs k) (valueAt vs k) := by
  unfold KV at r
  induction r with
  | nil => exact True.intro
  | @cons p q ps qs h t ih =>
    obtain ⟨h1, h2⟩ := h
    by_cases e : p.1 = k
    · have e' : q.1 = k := h1.symm.trans e
      have b : valueAt (q :: qs) k = some q.2 := by simp [valueAt, List.find?_cons, e']
      rw [valV_pos e, b]; exact h2
    · have e' : ¬ q.1 = k := fun z => e (h1.trans z)
      have b : valueAt (q :: qs) k = valueAt qs k := by simp [valueAt, List.find?_cons, e']
      rw [valV_neg e, b]; exact ih
theorem KV.any {kvs : List (κ × V)} {vs : List (κ × Value)} (r : KV kvs vs) (k : κ) : (kvs.any fun kv => decide (kv.1 = k)) = vs.any fun kv => decide (kv.1 = k) := by
  unfold KV at r
  induction r with
  | nil => rfl
  | cons h t ih => rw [List.any_cons, List.any_cons, ih, h.1]
theorem KV.repl {kvs : List (κ × V)} {vs : List (κ × Value)} (r : KV kvs vs) (k : κ) {y : V} {u : Value} (ry : RelV y u) :
    KV (kvs.map fun kv => if kv.1 = k then (kv.1, y) else kv) (vs.map fun kv => if kv.1 = k then (kv.1, u) else kv) := by
  unfold KV at r ⊢
  induction r with
  | nil => exact .nil
  | @cons p q ps qs h t ih =>
    rw [List.map_cons, List.map_cons]
    refine .cons ?_ ih
    obtain ⟨h1, h2⟩ := h
    by_cases e : p.1 = k
    · rw [if_pos e, if_pos (h1.symm.trans e)]; exact ⟨h1, ry⟩
    · rw [if_neg e, if_neg (fun z => e (h1.trans z))]; exact ⟨h1, h2⟩
theorem KV.put {kvs : List (κ × V)} {vs : List (κ × Value)} (r : KV kvs vs) (k : κ) {y : V} {u : Value} (ry : RelV y u) : KV (putK kvs k y) (stored vs k u) := by
  unfold putK stored
  rw [r.any k]
  by_cases e : (vs.any fun kv => decide (kv.1 = k)) = true
  · rw [if_pos e, if_pos e]; exact r.repl k ry
  · rw [if_neg e, if_neg e]; exact Paired.snoc r ⟨rfl, ry⟩
theorem KV.length {kvs : List (κ × V)} {vs : List (κ × Value)} (r : KV kvs vs) : kvs.length = vs.length := Paired.length r
end
theorem kV_is {P : Program} {w : World} {k : Key} {u : Value} (r : RelV (kV k) u) : (mixKind P w).is k u = true := by
  cases k with
  | inl i => obtain ⟨t, e⟩ := (show ∃ t, u = Value.int i t from r); subst e; exact mixKind_int P w i t
  | inr x => obtain ⟨t, e⟩ := (show ∃ t, u = Value.str x t from r); subst e; exact mixKind_str P w x t
theorem items_are {P : Program} {w : World} : ∀ {ks : List Key} {us : List Value}, Vals (ks.map kV) us → ItemsAre (mixKind P w) ks us
  | [], _, r => by rw [List.map_nil] at r; cases r; exact .nil
  | k :: ks, _, r => by
    rw [List.map_cons] at r
    cases r with
    | cons h t => exact .cons (kV_is h) (items_are t)
abbrev KT (H : Hp) : List (List Key × V) → List (List Key × Addr × Value) → Prop := Paired fun p q => p.1 = q.1 ∧ H q.2.1 = some (.tup (p.1.map kV)) ∧ RelV p.2 q.2.2
theorem KT.val {H : Hp} {kvs : List (List Key × V)} {xs : List (List Key × Addr × Value)} (r : KT H kvs xs) (k : List Key) : RelO (valV kvs k) ((atKey xs k).map (·.2)) := by
  induction r with
  | nil => exact True.intro
  | @cons p q ps qs h t ih =>
    obtain ⟨h1, _, h2⟩ := h
    by_cases e : p.1 = k
    · have e' : q.1 = k := h1.symm.trans e
      have b : atKey (q :: qs) k = some q.2 := by simp [atKey, List.find?_cons, e']
      rw [valV_pos e, b]; exact h2
    · have e' : ¬ q.1 = k := fun z => e (h1.trans z)
      have b : atKey (q :: qs) k = atKey qs k := by simp [atKey, List.find?_cons, e']
      rw [valV_neg e, b]; exact ih
theorem KT.repl {H : Hp} {kvs : List (List Key × V)} {xs : List (List Key × Addr × Value)} (r : KT H kvs xs) (k : List Key) {y : V} {u : Value} (ry : RelV y u) :
    KT H (kvs.map fun kv => if kv.1 = k then (kv.1, y) else kv) (xs.map (putAt k u)) := by
  induction r with
  | nil => exact .nil
  | @cons p q ps qs h t ih =>
    rw [List.map_cons, List.map_cons]
    refine .cons ?_ ih
    obtain ⟨h1, h2, h3⟩ := h
    unfold putAt
    by_cases e : p.1 = k
    · rw [if_pos e, if_pos (h1.symm.trans e)]; exact ⟨h1, h2, ry⟩
    · rw [if_neg e, if_neg (fun z => e (h1.trans z))]; exact ⟨h1, h2, h3⟩
theorem KT.put {H : Hp} {kvs : List (List Key × V)} {xs : List (List Key × Addr × Value)} (r : KT H kvs xs) (k : List Key) {b : Addr} {y : V} {u : Value} (hb : H b = some (.tup (k.map kV))) (ry : RelV y u) :
    KT H (putK kvs k y) (storedH xs k b u) := by
  have e : (kvs.any fun kv => decide (kv.1 = k)) = (atKey xs k).isSome := by
    rw [valV_any, (r.val k).isSome_eq, Option.isSome_map]
  unfold putK storedH
  rw [e]
  by_cases q : (atKey xs k).isSome = true
  · rw [if_pos q, if_pos q]; exact r.repl k ry
  · rw [if_neg q, if_neg q]; exact Paired.snoc r ⟨rfl, hb, ry⟩
theorem KT.keeps {H H' : Hp} {kvs : List (List Key × V)} {xs : List (List Key × Addr × Value)} (r : KT H kvs xs) (ht : ∀ b ys, H b = some (.tup ys) → H' b = some (.tup ys)) : KT H' kvs xs :=
  Paired.mapP r fun _ _ z => ⟨z.1, ht _ _ z.2.1, z.2.2⟩
section
variable {P : Program} {w : World} {H : Hp} {h : Heap} {a : Addr}
theorem rd_of {u : HO} (ok : HOk P w H h) (e : Rd H a u) : ObjOk P w H h a u := e.ok ok
theorem dk_rd {kvs : List (Key × V)} (ok : HOk P w H h) (e : Rd H a (.dK kvs)) : kvs.length ≤ sizeLine ∧ (a == sysModules) = false ∧ ∃ vs, KV kvs vs ∧ h.DictOf (mixKind P w) a vs :=
  show ObjOk P w H h a (.dK kvs) from rd_of ok e
theorem dk_of {kvs : List (Key × V)} (ok : HOk P w H h) (e : H a = some (.dK kvs)) : kvs.length ≤ sizeLine ∧ (a == sysModules) = false ∧ ∃ vs, KV kvs vs ∧ h.DictOf (mixKind P w) a vs := dk_rd ok (.inl e)
theorem key_of {ks : List Key} (ok : HOk P w H h) (e : H a = some (.tup (ks.map kV))) : (tupleKind (mixKind P w)).is h ks a := by
  obtain ⟨_, its, r, o, h1, h2, n, h3⟩ := (show ObjOk P w H h a (.tup (ks.map kV)) from ok a _ e)
  exact ⟨o, its.toArray, n, h1, h2, h3, by simpa using items_are r⟩
theorem dt_rd {kvs : List (List Key × V)} (ok : HOk P w H h) (e : Rd H a (.dT kvs)) : kvs.length ≤ sizeLine ∧ (a == sysModules) = false ∧
    ∃ xs, KT H kvs xs ∧ h.DictOfH (tupleKind (mixKind P w)) a xs := by
  obtain ⟨z, y, xs, r, o, es, ep, h1, h2, h3, h4, h5⟩ := (show ObjOk P w H h a (.dT kvs) from rd_of ok e)
  refine ⟨z, y, xs, r, o, es, ep, h1, h2, h3, h4, fun x hx => ?_, h5⟩
  have all : ∀ {l : List (List Key × V)} {m : List (List Key × Addr × Value)}, KT H l m → ∀ x ∈ m, (tupleKind (mixKind P w)).is h x.1 x.2.1 := by
    intro l m q
    induction q with
    | nil => intro x hx; exact nomatch hx
    | @cons p q ps qs hq t ih =>
      intro x hx
      rcases List.mem_cons.mp hx with e | hx
      · subst e
        exact key_of ok (by rw [← hq.1]; exact hq.2.1)
      · exact ih x hx
  exact all r x hx
theorem dt_of {kvs : List (List Key × V)} (ok : HOk P w H h) (e : H a = some (.dT kvs)) : kvs.length ≤ sizeLine ∧ (a == sysModules) = false ∧
    ∃ xs, KT H kvs xs ∧ h.DictOfH (tupleKind (mixKind P w)) a xs := dt_rd ok (.inl e)
end
def DGet (H : Hp) (a : Addr) (y : V) (r : Option V) : Prop :=
  (∃ kvs k, Rd H a (.dK kvs) ∧ y = kV k ∧ r = valV kvs k) ∨ ∃ kvs k b, Rd H a (.dT kvs) ∧ y = .ref b ∧ H b = some (.tup (k.map kV)) ∧ r = valV kvs k
def DPut (H : Hp) (a : Addr) (y v : V) (H' : Hp) : Prop :=
  (∃ kvs k, H a = some (.dK kvs) ∧ y = kV k ∧ kvs.length < sizeLine ∧ H' = upd H a (.dK (putK kvs k v))) ∨
  ∃ kvs k b, H a = some (.dT kvs) ∧ y = .ref b ∧ H b = some (.tup (k.map kV)) ∧ kvs.length < sizeLine ∧ H' = upd H a (.dT (putK kvs k v))
theorem DGet.k {H : Hp} {a : Addr} {kvs : List (Key × V)} {k : Key} (e : H a = some (.dK kvs)) : DGet H a (kV k) (valV kvs k) := .inl ⟨kvs, k, .inl e, rfl, rfl⟩
theorem DPut.k {H : Hp} {a : Addr} {kvs : List (Key × V)} {k : Key} {v : V} (e : H a = some (.dK kvs)) (hl : kvs.length < sizeLine) : DPut H a (kV k) v (upd H a (.dK (putK kvs k v))) := .inl ⟨kvs, k, e, rfl, hl, rfl⟩
section
variable {X : Cx} {pins : List (Addr × Obj)} {σ : St} {H : Hp} {s : Shared} {a : Addr} {y v : V} {u r : Value} {o : Option V} {A : Around} {E : Value → Shared → Prop}
theorem Inv.big (I : Inv X pins σ H s) : sysModules < s.heap.objs.size := by
  have h : mainGlobals < s.heap.objs.size := (I.mod.glob.keeps I.bk).lt
  exact Nat.lt_trans (by decide) h
theorem d_in {Q : Value → Shared → Prop} (hu : A.units + 1 < cLine) (I : Inv X pins σ H s) (g : DGet H a y o) (ry : RelV y u) (h : ∀ s', Inv X pins σ H s' → Q (.bool o.isSome) s') :
    wpAny (model X.prog X.w) A (compareOp .In u (.ref a)) Q E s := by
  rcases g with ⟨kvs, k, e, ey, l⟩ | ⟨kvs, k, b, e, ey, eb, l⟩
  · subst ey
    obtain ⟨z, hd, vs, rel, dd⟩ := dk_rd I.hok e
    refine wpAny_in_of (kV_is ry) hd dd.mapOf ?_
    rw [← (rel.val k).isSome_eq, ← l]
    exact h _ (I.tok _)
  · subst ey
    cases (show u = Value.ref b from ry)
    obtain ⟨z, hd, xs, rel, dd⟩ := dt_rd I.hok e
    refine wpAny_in_heap (tupleKind_room_in1 hu) (key_of I.hok eb) hd dd ?_
    have q := (rel.val k).isSome_eq
    rw [Option.isSome_map] at q
    rw [← q, ← l]
    exact h _ (I.tok _)
theorem d_write {h' : Heap} {t' : Nat} {ob : HO} (I : Inv X pins σ H s) (mu : Mut (H a)) (hs : Heap.SameBut a s.heap h') (he : ∃ q, h'.get? a = some q) (new : ObjOk X.prog X.w (upd H a ob) h' a ob) :
    Inv X pins σ (upd H a ob) { s with heap := h', toks := t' } :=
  I.write (x := a) (e := a) mu (.inl rfl) (fun b q hb z => (hs.2 b hb).trans z) he new
theorem dk_new {P : Program} {w : World} {H' : Hp} {h' : Heap} {kvs : List (Key × V)} {vs : List (Key × Value)} (z : kvs.length ≤ sizeLine) (hd : (a == sysModules) = false) (rel : KV kvs vs) (dd : h'.DictOf (mixKind P w) a vs) :
    ObjOk P w H' h' a (.dK kvs) := ⟨z, hd, vs, rel, dd⟩
theorem d_setItem {H' : Hp} {Q : Unit → Shared → Prop} (hu : A.units + 1 < cLine) (I : Inv X pins σ H s) (g : DPut H a y v H') (ry : RelV y u) (rv : RelV v r) (h : ∀ s', Inv X pins σ H' s' → Q () s') :
    wpAny (model X.prog X.w) A (setItem (.ref a) u r) Q E s := by
  rcases g with ⟨kvs, k, e, ey, l, eH⟩ | ⟨kvs, k, b, e, ey, eb, l, eH⟩
  · subst ey eH
    obtain ⟨z, hd, vs, rel, dd⟩ := dk_of I.hok e
    have hz : vs.length ≤ sizeLine := by rw [← rel.length]; exact z
    have hl : (putK kvs k v).length ≤ sizeLine := by have := length_putK kvs k v; omega
    refine wpAny_setItem_pairs (hsz := hz) (kV_is ry) dd fun h' dd' hs => h _ ?_
    have he : ∃ q, h'.get? a = some q := let ⟨q, _, _, hq, _⟩ := dd'; ⟨q, hq⟩
    exact d_write I (by rw [e]; exact True.intro) hs he (dk_new hl hd (rel.put k rv) dd')
  · subst ey eH
    cases (show u = Value.ref b from ry)
    obtain ⟨z, hd, xs, rel, dd⟩ := dt_of I.hok e
    have hz : xs.length ≤ sizeLine := by rw [← Paired.length rel]; exact z
    have hl : (putK kvs k v).length ≤ sizeLine := by have := length_putK kvs k v; omega
    refine wpAny_setItem_heap (hsz := hz) (tupleKind_room_in1 hu) (key_of I.hok eb) dd fun h' dd' hs => h _ ?_
    obtain ⟨q, es, ep, hq, h2, h3, h4, _, h5⟩ := dd'
    refine d_write I (by rw [e]; exact True.intro) hs ⟨q, hq⟩ ⟨hl, hd, _, (rel.put k eb rv).keeps fun c ys ec => ?_, q, es, ep, hq, h2, h3, h4, h5⟩
    rw [upd_ne (ne_of ec e (fun z => nomatch z))]
    exact ec
end
section
variable {X : Cx} {pins : List (Addr × Obj)} {σ : St} {H : Hp} {s : Shared} {a : Addr} {kvs : List (Key × V)} {k : Key} {u : Value} {A : Around} {E : Value → Shared → Prop}
end
def tDIn (ty td : TE) : TE := fun σ H Q => ty σ H fun y H1 => td σ H1 fun x H2 => ∃ a o, x = .ref a ∧ DGet H2 a y o ∧ Q (.bl o.isSome) H2
def sDPut (td ty tv : TE) : TS := fun D σ H => tv σ H fun v H1 => td σ H1 fun x H2 => ty σ H2 fun y H3 => ∃ a H4, x = .ref a ∧ DPut H3 a y v H4 ∧ D.nx σ H4
section
variable {X : Cx} {o i e value : Expr} {pos pos' tpos : Pos} {td ty tv : TE}
theorem pc_din (hu : X.A.units + 1 < cLine) (hi : PE X i ty) (ho : PE X o td) : PC X .In i o (tDIn ty td) := by
  intro pins s σ H Q I h
  refine thn (hi pins s σ H _ I h) fun iv s1 ⟨y, H1, I1, ry, q1⟩ => thn (ho pins s1 σ H1 _ I1 q1) fun u s2 ⟨x, H2, I2, rx, a, ov, ex, g, q2⟩ => ?_
  subst ex
  obtain rfl : u = Value.ref a := rx
  exact d_in hu I2 g ry fun s3 I3 => ⟨.bl ov.isSome, H2, I3, rfl, q2⟩
theorem ps_dput (hu : X.A.units + 1 < cLine) (ho : PE X o td) (hi : PE X i ty) (hv : PE X value tv) (hs : swapsWith value (some (.Subscript o i pos')) pos.line X.env = pure false) :
    PS X (.Assign [.Subscript o i pos'] value pos) (sDPut td ty tv) := by
  intro pins s σ H D I h
  refine wpAny_Assign_Subscript (thn (hv pins s σ H _ I h) fun r s1 ⟨v, H1, I1, rv, q1⟩ => thn (ho pins s1 σ H1 _ I1 q1) fun u s2 ⟨x, H2, I2, rx, q2⟩ => thn (hi pins s2 σ H2 _ I2 q2) fun iv s3 ⟨y, H3, I3, ry, a, H4, ex, g, q3⟩ => ?_) hs
  subst ex
  obtain rfl : u = Value.ref a := rx
  exact d_setItem hu I3 g ry rv fun s4 I4 => ⟨σ, H4, I4, q3⟩
end
theorem dk_empty {P : Program} {w : World} {H : Hp} (h : Heap) (hb : sysModules < h.objs.size) : ObjOk P w H (h.push { cls := .type "dict", data := .dict #[] }) h.objs.size (.dK []) :=
  ⟨Nat.zero_le _, beq_eq_false_iff_ne.mpr (Ne.symm (Nat.ne_of_lt hb)), [], .nil, Heap.DictOf.new h⟩
section
variable {X : Cx} {pos : Pos}
end
def tPairs : List (TE × TE) → St → Hp → (List (V × V) → Hp → Prop) → Prop
  | [], _, H, Q => Q [] H
  | (tk, tv) :: r, σ, H, Q => tk σ H fun x H1 => tv σ H1 fun y H2 => tPairs r σ H2 fun ps H3 => Q ((x, y) :: ps) H3
abbrev VV : List (V × V) → List (Value × Value) → Prop := Paired fun p q => RelV p.1 q.1 ∧ RelV p.2 q.2
def PPs (X : Cx) (pos : Pos) (keys : List (Option Expr)) (values : List Expr) (trs : List (TE × TE)) : Prop :=
  ∀ (pins : List (Addr × Obj)) (s : Shared) (σ : St) (H : Hp) (Q : List (V × V) → Hp → Prop), Inv X pins σ H s → tPairs trs σ H Q →
    wpAny (model X.prog X.w) X.A (evalPairs (pairTrees keys values X.env pos)) (fun vs s' => ∃ ps H', Inv X pins σ H' s' ∧ VV ps vs ∧ Q ps H') X.xe s
theorem pps_nil {X : Cx} {pos : Pos} : PPs X pos [] [] [] := fun pins s σ H Q I h => pairTrees_nil_walk ⟨[], H, I, .nil, h⟩
theorem pps_cons {X : Cx} {pos : Pos} {k v : Expr} {ks : List (Option Expr)} {vs : List Expr} {tk tv : TE} {trs : List (TE × TE)} (hk : PE X k tk) (hv : PE X v tv) (hr : PPs X pos ks vs trs) :
    PPs X pos (some k :: ks) (v :: vs) ((tk, tv) :: trs) := fun pins s σ H Q I h =>
  pairTrees_cons_walk (thn (hk pins s σ H _ I h) fun u s1 ⟨x, H1, I1, rx, q1⟩ => thn (hv pins s1 σ H1 _ I1 q1) fun w2 s2 ⟨y, H2, I2, ry, q2⟩ =>
    thn (hr pins s2 σ H2 _ I2 q2) fun ws s3 ⟨ps, H3, I3, rel, q3⟩ => ⟨(x, y) :: ps, H3, I3, .cons ⟨rx, ry⟩ rel, q3⟩)
def mergeK (kvs more : List (Key × V)) : List (Key × V) := more.foldl (fun acc kv => putK acc kv.1 kv.2) kvs
theorem KV.merge : ∀ {more : List (Key × V)} {rs : List (Key × Value)} {kvs : List (Key × V)} {vs : List (Key × Value)}, KV more rs → KV kvs vs → KV (mergeK kvs more) (merged vs rs) := by
  intro more rs kvs vs r
  unfold KV at r
  induction r generalizing kvs vs with
  | nil => intro q; exact q
  | @cons p q ps qs h t ih =>
    intro r0
    have e : KV (putK kvs p.1 p.2) (stored vs q.1 q.2) := by
      have := r0.put p.1 h.2
      rw [← h.1]; exact this
    exact ih e
theorem length_mergeK : ∀ (more kvs : List (Key × V)), (mergeK kvs more).length ≤ kvs.length + more.length
  | [], kvs => by show kvs.length ≤ kvs.length + 0; omega
  | p :: r, kvs => by
    have h1 := length_mergeK r (putK kvs p.1 p.2)
    have h2 := length_putK kvs p.1 p.2
    show (mergeK (putK kvs p.1 p.2) r).length ≤ _
    rw [List.length_cons]; omega
theorem carries_of {P : Program} {w : World} : ∀ {kvs : List (Key × V)} {ws : List (Value × Value)}, VV (kvs.map fun kv => (kV kv.1, kv.2)) ws → ∃ rs, Carries (mixKind P w) ws rs ∧ KV kvs rs
  | [], _, r => by rw [List.map_nil] at r; cases r; exact ⟨[], True.intro, .nil⟩
  | p :: kvs, _, r => by
    rw [List.map_cons] at r
    cases r with
    | @cons a b as bs h t =>
      obtain ⟨rs, c, q⟩ := carries_of (P := P) (w := w) t
      obtain ⟨b1, b2⟩ := b
      exact ⟨(p.1, b2) :: rs, ⟨kV_is h.1, rfl, c⟩, .cons ⟨rfl, h.2⟩ q⟩
def tDisp (trs : List (TE × TE)) : TE := fun σ H Q => ∀ p, H p = none → tPairs trs σ (upd H p (.dK [])) fun ps H2 => H2 p = some (.dK []) ∧ ∃ kvs : List (Key × V), ps = kvs.map (fun kv => (kV kv.1, kv.2)) ∧ kvs.length ≤ 15 ∧ Q (.ref p) (upd H2 p (.dK (mergeK [] kvs)))
theorem pe_disp {X : Cx} {pos : Pos} {keys : List (Option Expr)} {values : List Expr} {trs : List (TE × TE)} (h : PPs X pos keys values trs) (hall : keys.all (·.isSome) = true) (hl : keys.length = values.length) (h0 : keys ≠ [])
    (h15 : keys.length ≤ 15) : PE X (.Dict keys values pos) (tDisp trs) := by
  intro pins s σ H Q I q
  have hn := I.hok.fresh (Nat.le_refl s.heap.objs.size)
  have I1 := I.laid (a := s.heap.objs.size) (o := .dK []) (h' := s.heap.push { cls := .type "dict", data := .dict #[] }) (t' := s.toks) (fun _ _ q => Heap.get?_push_of_some _ q) (Nat.le_refl _) (dk_empty s.heap I.big)
  refine wpAny_Dict_walk (knd := mixKind X.prog X.w) hall hl h0 h15 (thn (h pins _ σ _ _ I1 (q _ hn)) fun ws s2 ⟨ps, H2, I2, rel, e, kvs, ep, lk, q2⟩ => ?_)
  subst ep
  obtain ⟨rs, c, rk⟩ := carries_of (P := X.prog) (w := X.w) rel
  obtain ⟨z, hd, vs0, r0, dd⟩ := dk_of I2.hok e
  cases r0
  refine ⟨rs, c, dd, fun h' dd' hs => ⟨.ref s.heap.objs.size, _, ?_, rfl, q2⟩⟩
  have hz : (mergeK [] kvs).length ≤ sizeLine := by
    have h1 := length_mergeK kvs []
    rw [List.length_nil] at h1
    rw [sizeLine_eq]; omega
  have he : ∃ q, h'.get? s.heap.objs.size = some q := let ⟨q, _, _, hq, _⟩ := dd'; ⟨q, hq⟩
  exact d_write I2 (by rw [e]; exact True.intro) hs he (dk_new hz hd (rk.merge .nil) dd')
section
variable {X : Cx} {pins : List (Addr × Obj)} {σ : St} {H : Hp} {s : Shared} {a : Addr} {y d : V} {u r : Value} {o : Option V} {A : Around} {E : Value → Shared → Prop}
end
section
variable {X : Cx} {o e f : Expr} {apos cpos : Pos} {td ty tx : TE}
end
section
variable {X : Cx} {pins : List (Addr × Obj)} {σ : St} {H : Hp} {s : Shared} {a : Addr} {kvs : List (Key × V)} {A : Around} {E : Value → Shared → Prop}
end
section
variable {X : Cx} {pins : List (Addr × Obj)} {σ : St} {H : Hp} {s : Shared} {a : Addr} {y : V} {u : Value} {A : Around} {E : Value → Shared → Prop}
end
end L2
namespace L2
open PySem PySem.Spec PyProof.Rows
section
variable {κ : Type} [DecidableEq κ]
end
end L2
set_option Elab.async false
set_option linter.all false
set_option maxRecDepth 100000
set_option maxHeartbeats 4000000
namespace L2
open PySem PySem.Spec PyProof.Rows
structure Kp (S : List Addr) (H H' : Hp) : Prop where
  old : ∀ a o, H a = some o → a ∉ S → H' a = some o
  tup : ∀ a xs, H a = some (.tup xs) → H' a = some (.tup xs)
  dom : ∀ a o, H a = some o → ∃ o', H' a = some o'
theorem Kp.refl (S : List Addr) (H : Hp) : Kp S H H := ⟨fun _ _ e _ => e, fun _ _ e => e, fun _ o e => ⟨o, e⟩⟩
theorem Kp.trans {S : List Addr} {H H1 H2 : Hp} (a : Kp S H H1) (b : Kp S H1 H2) : Kp S H H2 :=
  ⟨fun c o e n => b.old c o (a.old c o e n) n, fun c xs e => b.tup c xs (a.tup c xs e), fun c o e => let ⟨o', e'⟩ := a.dom c o e; b.dom c o' e'⟩
theorem Kp.mono {S S' : List Addr} {H H1 : Hp} (a : Kp S H H1) (h : ∀ x ∈ S, x ∈ S') : Kp S' H H1 := ⟨fun c o e n => a.old c o e fun z => n (h c z), a.tup, a.dom⟩
theorem Kp.free {S : List Addr} {H H1 : Hp} (k : Kp S H H1) {p : Addr} (h : H1 p = none) : H p = none := by
  cases e : H p with
  | none => rfl
  | some o => obtain ⟨o', e'⟩ := k.dom p o e; rw [h] at e'; cases e'
theorem Kp.trans' {S S' : List Addr} {H H1 H2 : Hp} (a : Kp S H H1) (b : Kp S' H1 H2) (h : ∀ x ∈ S', x ∈ S ∨ H x = none) : Kp S H H2 :=
  ⟨fun c o e n => b.old c o (a.old c o e n) fun z => by
    rcases h c z with q | q
    · exact n q
    · (rw [q] at e; exact nomatch e), fun c xs e => b.tup c xs (a.tup c xs e), fun c o e => let ⟨o', e'⟩ := a.dom c o e; b.dom c o' e'⟩
theorem Kp.new {S : List Addr} {H H1 : Hp} (k : Kp S H H1) {p : Addr} {o : HO} (h : H1 p = none) : Kp S H (upd H1 p o) :=
  ⟨fun c u e n => by rw [upd_ne (ne_of_none (k.old c u e n) h)]; exact k.old c u e n, fun c xs e => by rw [upd_ne (ne_of_none (k.tup c xs e) h)]; exact k.tup c xs e,
    fun c u e => by
      obtain ⟨o', e'⟩ := k.dom c u e
      exact ⟨o', by rw [upd_ne (ne_of_none e' h)]; exact e'⟩⟩
theorem Kp.set {S : List Addr} {H H1 : Hp} (k : Kp S H H1) {b : Addr} {xs : List V} {o : HO} (hb : H1 b = some (.lst xs)) (h : b ∈ S ∨ H b = none) : Kp S H (upd H1 b o) :=
  ⟨fun c u e n => by
    have : c ≠ b := by
      rintro rfl
      rcases h with h | h
      · exact n h
      · rw [h] at e; cases e
    rw [upd_ne this]; exact k.old c u e n,
   fun c ys e => by
    have e1 := k.tup c ys e
    rw [upd_ne (ne_of e1 hb (by intro z; cases z))]; exact e1,
   fun c u e => by
    obtain ⟨o', e'⟩ := k.dom c u e
    by_cases q : c = b
    · subst q; exact ⟨o, upd_same⟩
    · exact ⟨o', by rw [upd_ne q]; exact e'⟩⟩
def lstOf : Option HO → Option (List V)
  | some (.lst xs) => some xs
  | _ => none
def tupOf : Option HO → Option (List V)
  | some (.tup xs) => some xs
  | _ => none
def seqOf : Option HO → Option (List V)
  | some (.lst xs) => some xs
  | some (.tup xs) => some xs
  | _ => none
theorem lstOf_lst (xs : List V) : lstOf (some (.lst xs)) = some xs := rfl
theorem tupOf_tup (xs : List V) : tupOf (some (.tup xs)) = some xs := rfl
theorem seqOf_lst (xs : List V) : seqOf (some (.lst xs)) = some xs := rfl
theorem seqOf_tup (xs : List V) : seqOf (some (.tup xs)) = some xs := rfl
theorem of_lstOf {o : Option HO} {xs : List V} (h : lstOf o = some xs) : o = some (.lst xs) := by
  unfold lstOf at h
  split at h
  · cases h; rfl
  · cases h
theorem of_tupOf {o : Option HO} {xs : List V} (h : tupOf o = some xs) : o = some (.tup xs) := by
  unfold tupOf at h
  split at h
  · cases h; rfl
  · cases h
theorem of_seqOf {o : Option HO} {xs : List V} (h : seqOf o = some xs) : o = some (.lst xs) ∨ o = some (.tup xs) := by
  unfold seqOf at h
  split at h
  · cases h; exact .inl rfl
  · cases h; exact .inr rfl
  · cases h
section
variable {X : Cx}
def rLtU : R2 := fun x y H Q => match x, y with
  | .int i, .int j => Q (.bl (decide (i < j))) H
  | .str i, .str j => Q (.bl (decide (i.cps.toList < j.cps.toList))) H
  | _, _ => False
theorem op_ltU : OpR X (compareOp .Lt) rLtU := by
  intro pins s σ H x y v u Q I rx ry h
  cases x with
  | int i => cases y with
    | int j => exact op_lt pins s σ H _ _ v u Q I rx ry ⟨i, j, rfl, rfl, h⟩
    | _ => exact False.elim h
  | str i => cases y with
    | str j => exact op_lt_str pins s σ H _ _ v u Q I rx ry ⟨i, j, rfl, rfl, h⟩
    | _ => exact False.elim h
  | _ => exact False.elim h
def rLeU : R2 := fun x y H Q => match x, y with
  | .int i, .int j => Q (.bl (decide (i ≤ j))) H
  | .str i, .str j => Q (.bl (!decide (j.cps.toList < i.cps.toList))) H
  | _, _ => False
theorem op_leU : OpR X (compareOp .LtE) rLeU := by
  intro pins s σ H x y v u Q I rx ry h
  cases x with
  | int i => cases y with
    | int j => exact op_le pins s σ H _ _ v u Q I rx ry ⟨i, j, rfl, rfl, h⟩
    | _ => exact False.elim h
  | str i => cases y with
    | str j =>
      obtain ⟨t, rfl⟩ := rx
      obtain ⟨t', rfl⟩ := ry
      exact PySem.P.le_str (fin_bl I h (by rfl))
    | _ => exact False.elim h
  | _ => exact False.elim h
def rIxU : R2 := fun x y H Q => match x, y with
  | .str z, .int i => z.length ≤ sizeLine ∧ ∃ c, atI z.cps.toList i = some c ∧ Q (.str ⟨#[c]⟩) H
  | .ref p, .int i => ∃ xs, seqOf (H p) = some xs ∧ ∃ v, atI xs i = some v ∧ Q v H
  | _, _ => False
theorem ix_U : IxR X rIxU := by
  intro value slice pins s σ H x y v u Q I rx ry h hs
  cases x with
  | str z => cases y with
    | int i => obtain ⟨h1, c, h2, h3⟩ := h; exact ix_str value slice pins s σ H _ _ v u Q I rx ry ⟨z, i, c, rfl, rfl, h1, h2, h3⟩ hs
    | _ => exact False.elim h
  | ref p => cases y with
    | int i =>
      obtain ⟨xs, e, w, h2, h3⟩ := h
      rcases of_seqOf e with e | e
      · exact ix_list value slice pins s σ H _ _ v u Q I rx ry ⟨p, xs, i, w, rfl, rfl, SqL.of e, h2, h3⟩ hs
      · exact ix_tup value slice pins s σ H _ _ v u Q I rx ry ⟨p, xs, i, w, rfl, rfl, SqT.of e, h2, h3⟩ hs
    | _ => exact False.elim h
  | _ => exact False.elim h
theorem atI_0 {α : Type} (x : α) (r : List α) : atI (x :: r) 0 = some x := atI_nat (j := 0) rfl
theorem atI_1 {α : Type} (x y : α) (r : List α) : atI (x :: y :: r) 1 = some y := atI_nat (j := 1) rfl
theorem atI_2 {α : Type} (x y z : α) (r : List α) : atI (x :: y :: z :: r) 2 = some z := atI_nat (j := 2) rfl
theorem atI_of {α : Type} {xs : List α} {i : Int} {v : α} (h0 : 0 ≤ i) (h : xs[i.toNat]? = some v) : atI xs i = some v := by
  have := atI_nat (xs := xs) (j := i.toNat) h
  rwa [Int.toNat_of_nonneg h0] at this
def rSetU : V → V → V → Hp → (Hp → Prop) → Prop := fun o i v H Q => match o, i with
  | .ref p, .int k => ∃ xs, lstOf (H p) = some xs ∧ ∃ j, ixN xs.length k = some j ∧ Q (upd H p (.lst (xs.set j v)))
  | _, _ => False
theorem set_U : PSet X rSetU := by
  intro pins s σ H o i v ov iv u Q I ro ri rv h
  cases o with
  | ref p => cases i with
    | int k =>
      obtain ⟨xs, e, j, h1, h2⟩ := h
      exact set_list pins s σ H _ _ v ov iv u Q I ro ri rv ⟨p, xs, k, j, rfl, rfl, of_lstOf e, h1, h2⟩
    | _ => exact False.elim h
  | _ => exact False.elim h
def rLenU : List V → Hp → VK → Prop := fun xs H Q => match xs with
  | [.str z] => z.length ≤ sizeLine ∧ Q (.int z.length) H
  | [.ref p] => ∃ ys, seqOf (H p) = some ys ∧ Q (.int ys.length) H
  | _ => False
theorem call_lenU : CallR X (.builtin "len") rLenU := by
  intro pins s σ H xs us Q I r h
  unfold rLenU at h
  split at h
  · rename_i z; exact call_len_str pins s σ H _ us Q I r ⟨z, rfl, h⟩
  · rename_i p
    obtain ⟨ys, e, h⟩ := h
    rcases of_seqOf e with e | e
    · exact call_len_seq pins s σ H _ us Q I r ⟨p, ys, rfl, .inl (SqL.of e), h⟩
    · exact call_len_seq pins s σ H _ us Q I r ⟨p, ys, rfl, .inr (SqT.of e), h⟩
  · exact h.elim
def rMinU : List V → Hp → VK → Prop := fun xs H Q => match xs with
  | [.int i, .int j] => Q (.int (if j < i then j else i)) H
  | _ => False
theorem call_minU (hc : X.calm = true) : CallR X (.builtin "min") rMinU := by
  intro pins s σ H xs us Q I r h
  unfold rMinU at h
  split at h
  · rename_i i j; exact call_min2 hc pins s σ H _ us Q I r ⟨i, j, rfl, h⟩
  · exact h.elim
def rIntU : List V → Hp → VK → Prop := fun xs H Q => match xs with
  | [.int i] => Q (.int i) H
  | [.bl k] => Q (.int (if k then 1 else 0)) H
  | _ => False
theorem call_intU : CallR X (.type "int") rIntU := by
  intro pins s σ H xs us Q I r h
  unfold rIntU at h
  split at h
  · rename_i i; exact call_int1 pins s σ H _ us Q I r (.inl ⟨i, rfl, h⟩)
  · rename_i k; exact call_int1 pins s σ H _ us Q I r (.inr ⟨k, rfl, h⟩)
  · exact h.elim
def sgn (z : Str) : List V := z.cps.toList.map fun c => V.str ⟨#[c]⟩
theorem sgn_len (z : Str) : (sgn z).length = z.length := by simp [sgn, Str.length]
theorem vals_sgn {z : Str} {acc : Array Value} (h : ItemsOf (SignAt z) acc z.cps.size) : Vals (sgn z) acc.toList := by
  obtain ⟨h1, h2⟩ := h
  have hl : (sgn z).length = acc.toList.length := by simp [sgn, h1]
  have gen : ∀ (xs : List V) (us : List Value), xs.length = us.length → (∀ (i : Nat) (x : V) (u : Value), xs[i]? = some x → us[i]? = some u → RelV x u) → Vals xs us := by
    intro xs
    induction xs with
    | nil => intro us hl _; cases us with
      | nil => exact .nil
      | cons _ _ => simp at hl
    | cons x xs ih => intro us hl h; cases us with
      | nil => simp at hl
      | cons u us => exact .cons (h 0 x u rfl rfl) (ih us (by simpa using hl) fun i a b e1 e2 => h (i + 1) a b (by simpa using e1) (by simpa using e2))
  refine gen _ _ hl fun i x u e1 e2 => ?_
  obtain ⟨c, t, hc, hu⟩ := h2 i u (by simpa using e2)
  subst hu
  simp only [sgn, List.getElem?_map] at e1
  have : z.cps.toList[i]? = some c := by simpa using hc
  rw [this] at e1
  have e1' : V.str ⟨#[c]⟩ = x := Option.some.inj e1
  subst e1'
  exact ⟨t, rfl⟩
def rListU : List V → Hp → VK → Prop := fun xs H Q => match xs with
  | [.str z] => z.length ≤ sizeLine ∧ ∀ l, H l = none → Q (.ref l) (upd H l (.lst (sgn z)))
  | [.ref p] => ∃ ys, seqOf (H p) = some ys ∧ ∀ l, H l = none → Q (.ref l) (upd H l (.lst ys))
  | _ => False
theorem call_listU (hc : X.calm = true) : CallR X (.type "list") rListU := by
  intro pins s σ H xs us Q I r h
  unfold rListU at h
  split at h
  · rename_i z
    obtain ⟨u, rfl, t, rfl⟩ := vals1 r
    obtain ⟨hz, q⟩ := h
    refine call_list_str (I.ok.hd hc) z t (fun h' tk acc c hk hn hi => ?_) hz
    have hf := I.hok.fresh (Nat.le_refl s.heap.objs.size)
    refine ⟨.ref s.heap.objs.size, upd H s.heap.objs.size (.lst (sgn z)), I.laid hk (Nat.le_refl _) ⟨by rw [sgn_len]; exact hz, acc.toList, c, vals_sgn hi, by simpa using hn⟩, rfl, q _ hf⟩
  · rename_i p
    obtain ⟨ys, e, h⟩ := h
    rcases of_seqOf e with e | e
    · exact call_list_of pins s σ H _ us Q I r ⟨p, ys, rfl, .inl (SqL.of e), h⟩
    · exact call_list_of pins s σ H _ us Q I r ⟨p, ys, rfl, .inr (SqT.of e), h⟩
  · exact h.elim
def rPopU : V → List V → Hp → VK → Prop := fun x vs H Q => match x, vs with
  | .ref l, [.int i] => ∃ xs, lstOf (H l) = some xs ∧ 0 ≤ i ∧ ∃ y, xs[i.toNat]? = some y ∧ Q y (upd H l (.lst (xs.eraseIdx i.toNat)))
  | _, _ => False
theorem mt_popU : MtM X "list.pop" rPopU := by
  intro pins s σ H x vs v us Q I rx rv h
  unfold rPopU at h
  split at h
  · rename_i l i
    obtain ⟨xs, e, h0, y, hy, q⟩ := h
    have e := of_lstOf e
    have hz := (I.lstM e).1
    have hlt : i.toNat < xs.length := (List.getElem?_eq_some_iff.mp hy).1
    have hs : sizeLine = 16777216 := sizeLine_eq
    refine mt_popAt pins s σ H _ _ v us Q I rx rv ⟨l, xs, i, i.toNat, y, rfl, rfl, e, by omega, by omega, ?_, hy, q⟩
    exact seqIndex_of h0 (by omega)
  · exact h.elim
def rIsU (K : PySem.W.Frag) : List V → Hp → VK → Prop := fun xs H Q => match xs with
  | [x, .ty c] => ∃ t b, TyOf K H x t ∧ PySem.W.kitOne K t (.type c) = some b ∧ Q (.bl b) H
  | _ => False
theorem call_isinstanceU : CallR X (.builtin "isinstance") (rIsU X.K) := by
  intro pins s σ H xs us Q I r h
  unfold rIsU at h
  split at h
  · rename_i x c
    obtain ⟨t, b, ty, e, q⟩ := h
    obtain ⟨u, w', rfl, rx, rc⟩ := vals2 r
    cases rc
    exact isinst_ok I rx ty e fun tk => ⟨.bl b, H, I.tok tk, rfl, q⟩
  · exact h.elim
def ItS (z : Str) : It := ⟨fun i _ => i < z.length, fun i H x H' => H' = H ∧ ∃ c, z.cps.toList[i]? = some c ∧ x = .str ⟨#[c]⟩, fun i _ => z.length ≤ i⟩
theorem turn_strA {P : Program} {w : World} {K : PySem.W.Frag} {tg : Expr} (z : Str) (t : Tok) (it : Addr) : Turn P w K tg (ItS z) [it] it (fun i h => h.IsStrIter it "str_ascii_iterator" z t i) where
  mem := by simp
  obj := fun i h st b hb => by
    have e : b = it := by simpa using hb
    subst e
    obtain ⟨o, e, c, d⟩ := st
    exact ⟨o, e, fun v z => by rw [d] at z; cases z⟩
  keep := fun i h h' st k => let ⟨o, ho, r⟩ := st; ⟨o, k it (by simp) o ho, r⟩
  item := by
    intro X hP hw hK hc i pins s σ H E I hf st hg
    subst hP hw hK
    obtain ⟨f0, f1, f2, f3, f4, f5⟩ := hf it (by simp)
    have hi : i < z.cps.size := hg
    refine wpAny_pyNext_ascii_item st (c := z.cps[i]) (by simp [hi]) fun h' st' sb => ?_
    have I1 : Inv X pins σ H { s with heap := h', toks := s.toks + 1 } := I.turned (t' := s.toks + 1) (fun b o hb e => (sb.2 b hb).trans e) f0 f1 f3 f4 f5
    obtain ⟨o, e, c, d⟩ := id st'
    exact ⟨_, rfl, go_of (s := { s with heap := h', toks := s.toks + 1 }) e c d (by decide) ⟨.str ⟨#[z.cps[i]]⟩, H, I1, ⟨_, rfl⟩, ⟨rfl, _, by simp [hi], rfl⟩, st', fun b hb => (hf b hb).1⟩⟩
  done := by
    intro X hP hw hK hc i pins s σ H E I hf st hg
    subst hP hw hK
    obtain ⟨f0, f1, f2, f3, f4, f5⟩ := hf it (by simp)
    have hi : z.cps.size ≤ i := hg
    exact wpAny_pyNext_ascii_end (I.ok.hd hc) st (by simp [hi]) fun h' eb => ⟨rfl, I.turned (t' := s.toks) (fun b o hb e => eb b o hb e) f0 f1 f3 f4 f5⟩
  self := fun _ _ _ _ _ st h => wpAny_pyIter_striter_ascii st h
theorem turn_strW {P : Program} {w : World} {K : PySem.W.Frag} {tg : Expr} (z : Str) (t : Tok) (it : Addr) : Turn P w K tg (ItS z) [it] it (fun i h => h.IsStrIter it "str_iterator" z t i) where
  mem := by simp
  obj := fun i h st b hb => by
    have e : b = it := by simpa using hb
    subst e
    obtain ⟨o, e, c, d⟩ := st
    exact ⟨o, e, fun v z => by rw [d] at z; cases z⟩
  keep := fun i h h' st k => let ⟨o, ho, r⟩ := st; ⟨o, k it (by simp) o ho, r⟩
  item := by
    intro X hP hw hK hc i pins s σ H E I hf st hg
    subst hP hw hK
    obtain ⟨f0, f1, f2, f3, f4, f5⟩ := hf it (by simp)
    have hi : i < z.cps.size := hg
    refine wpAny_pyNext_wide_item st (c := z.cps[i]) (by simp [hi]) fun h' st' sb => ?_
    have I1 : Inv X pins σ H { s with heap := h', toks := s.toks + 1 } := I.turned (t' := s.toks + 1) (fun b o hb e => (sb.2 b hb).trans e) f0 f1 f3 f4 f5
    obtain ⟨o, e, c, d⟩ := id st'
    exact ⟨_, rfl, go_of (s := { s with heap := h', toks := s.toks + 1 }) e c d (by decide) ⟨.str ⟨#[z.cps[i]]⟩, H, I1, ⟨_, rfl⟩, ⟨rfl, _, by simp [hi], rfl⟩, st', fun b hb => (hf b hb).1⟩⟩
  done := by
    intro X hP hw hK hc i pins s σ H E I hf st hg
    subst hP hw hK
    obtain ⟨f0, f1, f2, f3, f4, f5⟩ := hf it (by simp)
    have hi : z.cps.size ≤ i := hg
    exact wpAny_pyNext_wide_end (I.ok.hd hc) st (by simp [hi]) fun h' eb => ⟨rfl, I.turned (t' := s.toks) (fun b o hb e => eb b o hb e) f0 f1 f3 f4 f5⟩
  self := fun _ _ _ _ _ st h => wpAny_pyIter_striter_wide st h
def iAny (K : PySem.W.Frag) (t : TE) : TI := fun σ H R => t σ H fun x H1 => match x with
  | .str z => R (ItS z) H1
  | .ref a => match H1 a with
    | some (.lst _) => R (Itl K a) H1
    | some (.tup _) => R (Itt K a) H1
    | _ => False
  | _ => False
theorem pi_any {tg l : Expr} {tl : TE} (hl : PE X l tl) : PI X tg l (iAny X.K tl) := by
  intro pins s σ H R I h
  refine thn (hl pins s σ H _ I h) fun v s1 ⟨x, H1, I1, r1, q1⟩ => ?_
  cases x with
  | str z =>
    obtain ⟨t, rfl⟩ := r1
    have fr : ∀ b ∈ [s1.heap.objs.size], FpOk X pins H1 b := fun b hb => by
      have e : b = s1.heap.objs.size := by simpa using hb
      subst e
      exact I1.fpOk (Nat.le_refl _) (I1.hok.fresh (Nat.le_refl _))
    cases ha : z.cps.all (· < 128)
    · exact wpAny_pyIter_wide ha ⟨s1.heap.objs.size, [s1.heap.objs.size], _, _, H1, rfl, I1.kept (t' := s1.toks) fun b o e => Heap.get?_push_of_some _ e, turn_strW z t _, ⟨_, Heap.get?_push_size _ rfl, rfl, rfl⟩, fr, q1⟩
    · exact wpAny_pyIter_ascii ha ⟨s1.heap.objs.size, [s1.heap.objs.size], _, _, H1, rfl, I1.kept (t' := s1.toks) fun b o e => Heap.get?_push_of_some _ e, turn_strA z t _, ⟨_, Heap.get?_push_size _ rfl, rfl, rfl⟩, fr, q1⟩
  | ref a =>
    cases r1
    have fr : ∀ b ∈ [s1.heap.objs.size], FpOk X pins H1 b := fun b hb => by
      have e : b = s1.heap.objs.size := by simpa using hb
      subst e
      exact I1.fpOk (Nat.le_refl _) (I1.hok.fresh (Nat.le_refl _))
    simp only at q1
    split at q1
    · rename_i xs e
      obtain ⟨its, rv, p, hz⟩ := I1.list (SqL.of e)
      exact wpAny_pyIter_list p.isList ⟨s1.heap.objs.size, [s1.heap.objs.size], _, _, H1, rfl, I1.kept (t' := s1.toks) fun b o e => Heap.get?_push_of_some _ e, turn_list a _, ⟨_, Heap.get?_push_size _ rfl, rfl, rfl⟩, fr, q1⟩
    · rename_i xs e
      obtain ⟨its, rv, p, hz⟩ := I1.tuple (SqT.of e)
      exact wpAny_pyIter_tuple (show s1.heap.IsTuple a its.toArray from p) ⟨s1.heap.objs.size, [s1.heap.objs.size], _, _, H1, rfl, I1.kept (t' := s1.toks) fun b o e => Heap.get?_push_of_some _ e, turn_tuple a _, ⟨_, Heap.get?_push_size _ rfl, rfl, rfl⟩, fr, q1⟩
    · exact q1.elim
  | _ => exact False.elim q1
mutual
def Rep (H : Hp) : V → PyData → Prop
  | v, .none => v = .non
  | v, .bool b => v = .bl b
  | v, .int i => v = .int i
  | v, .str x => v = .str x
  | v, .list ds => ∃ a vs, v = .ref a ∧ H a = some (.lst vs) ∧ Reps H vs ds
  | v, .tuple ds => ∃ a vs, v = .ref a ∧ H a = some (.tup vs) ∧ Reps H vs ds
  | _, .dict _ => False
def Reps (H : Hp) : List V → List PyData → Prop
  | [], [] => True
  | v :: vs, d :: ds => Rep H v d ∧ Reps H vs ds
  | _, _ => False
end
section
variable {pins : List (Addr × Obj)} {σ : L2.St} {H : Hp} {s : Shared}
mutual
theorem Rep.reads (I : Inv X pins σ H s) : ∀ {d : PyData} {v : V} {u : Value}, Rep H v d → RelV v u → ∃ as, Reads s.heap u d as
  | .none, v, u, h, r => by simp only [Rep] at h; subst h; cases r; exact ⟨_, .none⟩
  | .bool b, v, u, h, r => by simp only [Rep] at h; subst h; cases r; exact ⟨_, .bool b⟩
  | .int i, v, u, h, r => by simp only [Rep] at h; subst h; obtain ⟨t, rfl⟩ := r; exact ⟨_, .int i t⟩
  | .str x, v, u, h, r => by simp only [Rep] at h; subst h; obtain ⟨t, rfl⟩ := r; exact ⟨_, .str x t⟩
  | .list ds, v, u, h, r => by
    simp only [Rep] at h
    obtain ⟨a, vs, rfl, e, h⟩ := h
    cases r
    obtain ⟨its, rv, ⟨o, n, e1, e2, e3, e4⟩, hz⟩ := I.list (SqL.of e)
    obtain ⟨as, q⟩ := Reps.reads I h rv
    exact ⟨_, reads_list_at e1 e2 e4 (by simpa using q)⟩
  | .tuple ds, v, u, h, r => by
    simp only [Rep] at h
    obtain ⟨a, vs, rfl, e, h⟩ := h
    cases r
    obtain ⟨its, rv, ⟨o, e1, e2, n, e4⟩, hz⟩ := I.tuple (SqT.of e)
    obtain ⟨as, q⟩ := Reps.reads I h rv
    exact ⟨_, reads_tuple_at e1 e2 e4 (by simpa using q)⟩
  | .dict _, v, u, h, r => by simp only [Rep] at h
theorem Reps.reads (I : Inv X pins σ H s) : ∀ {ds : List PyData} {vs : List V} {us : List Value}, Reps H vs ds → Vals vs us → ∃ as, ReadsAll s.heap us ds as
  | [], [], us, h, r => by cases r; exact ⟨_, .nil⟩
  | [], v :: vs, us, h, r => by simp only [Reps] at h
  | d :: ds, [], us, h, r => by simp only [Reps] at h
  | d :: ds, v :: vs, us, h, r => by
    simp only [Reps] at h
    cases r with
    | cons r1 r2 =>
      obtain ⟨as, q⟩ := Rep.reads I h.1 r1
      obtain ⟨bs, q2⟩ := Reps.reads I h.2 r2
      exact ⟨_, .cons q q2⟩
end
end
def rEqD : R2 := fun x y H Q => ∃ d e, Rep H x d ∧ Rep H y e ∧ SeqAt.shaped d = true ∧ SeqAt.shaped e = true ∧ Q (.bl (PyData.eqv d e)) H
theorem op_eqD (hu : X.A.units + 64 < cLine) : OpR X (compareOp .Eq) rEqD := by
  intro pins s σ H x y v u Q I rx ry h
  obtain ⟨d, e, hd, he, sd, se, q⟩ := h
  obtain ⟨as, r1⟩ := hd.reads I rx
  obtain ⟨bs, r2⟩ := he.reads I ry
  exact eq_dataH r1 r2 sd se hu ⟨.bl _, H, I, rfl, q⟩
def rNeD : R2 := fun x y H Q => ∃ d e, Rep H x d ∧ Rep H y e ∧ SeqAt.shaped d = true ∧ SeqAt.shaped e = true ∧ Q (.bl (!PyData.eqv d e)) H
theorem op_neD (hu : X.A.units + 64 < cLine) : OpR X (compareOp .NotEq) rNeD := by
  intro pins s σ H x y v u Q I rx ry h
  obtain ⟨d, e, hd, he, sd, se, q⟩ := h
  obtain ⟨as, r1⟩ := hd.reads I rx
  obtain ⟨bs, r2⟩ := he.reads I ry
  exact ne_dataH r1 r2 sd se hu ⟨.bl _, H, I, rfl, q⟩
end
end L2
set_option Elab.async false
set_option linter.all false
set_option maxRecDepth 100000
set_option maxHeartbeats 4000000
namespace L2
open PySem PySem.Spec PyProof.Rows
theorem bt_len : bootBuiltins "len" = some (.builtin "len") := by decide +kernel
theorem bt_min : bootBuiltins "min" = some (.builtin "min") := by decide +kernel
theorem bt_isinstance : bootBuiltins "isinstance" = some (.builtin "isinstance") := by decide +kernel
theorem bt_sum : bootBuiltins "sum" = some (.builtin "sum") := by decide +kernel
theorem bt_int : bootBuiltins "int" = some (.type "int") := by decide +kernel
theorem bt_list : bootBuiltins "list" = some (.type "list") := by decide +kernel
theorem bt_tuple : bootBuiltins "tuple" = some (.type "tuple") := by decide +kernel
theorem bt_str : bootBuiltins "str" = some (.type "str") := by decide +kernel
section
variable {X : Cx}
def isL (x : V) (H : Hp) : Prop := match x with
  | .ref p => (lstOf (H p)).isSome = true
  | _ => False
def tBML (r : V → List V → Hp → VK → Prop) (to : TE) (t : TA) : TE := fun σ H Q => to σ H fun x H1 => isL x H1 ∧ t σ H1 fun xs H2 => r x xs H2 Q
theorem isL.ty {K : PySem.W.Frag} {x : V} {H : Hp} (h : isL x H) : tyV K "list" x H := by
  unfold isL at h
  split at h
  · rename_i p
    cases e : lstOf (H p) with
    | none => rw [e] at h; cases h
    | some ys => exact .inl ⟨rfl, ys, SqL.of (of_lstOf e)⟩
  · exact h.elim
variable {o e : Expr} {es : List Expr} {to : TE} {t : TA} {name : Str} {apos cpos : Pos} {id : String} {r : V → List V → Hp → VK → Prop}
theorem PE.imp {e : Expr} {t t' : TE} (h : PE X e t) (hi : ∀ σ H Q, t' σ H Q → t σ H Q) : PE X e t' := fun pins s σ H Q I hw => h pins s σ H Q I (hi σ H Q hw)
theorem pe_bmL (slot : Slot "list" name id) (hty : typeOf (.builtin id) = pure (.type "method_descriptor")) (hm : MtM X id r) (ho : PE X o to) (ha : PA X (e :: es) t) (mono : ∀ σ H Q Q', (∀ v H', Q v H' → Q' v H') → to σ H Q → to σ H Q')
    (hbase : attributeBase o name X.env (eval o X.env) = eval o X.env := by rfl)
    (hfew : ((backTo cpos (starEach (e :: es) X.env)).all (fun x => !x.1) && (backToKw cpos (keywordEach [] X.env)).all (fun x => x.1.isSome)
      && decide ((e :: es).length + ([] : List Keyword).length + (if ([] : List Keyword).isEmpty then 0 else 1) < 30)) = true := by rfl)
    (hline : (apos.endLine == cpos.line) = true := by rfl) (hs : starEach (e :: es) X.env = (false, eval e X.env) :: starEach es X.env := by rfl) (hplain : (backTo cpos (starEach es X.env)).any (·.1) = false := by rfl) :
    PE X (.Call (.Attribute o name apos) (e :: es) [] cpos) (tBML r to t) :=
  (pe_bm PySem.F.plainAttrs_list slot hty hm ho ha hbase hfew hline hs hplain).imp fun σ H Q h => mono σ H _ _ (fun v H' q => ⟨q.1.ty, q.2⟩) h
def tBML0 (r : V → List V → Hp → VK → Prop) (to : TE) : TE := fun σ H Q => to σ H fun x H1 => isL x H1 ∧ r x [] H1 Q
theorem pe_bmL0 (slot : Slot "list" name id) (hty : typeOf (.builtin id) = pure (.type "method_descriptor")) (hm : MtM X id r) (ho : PE X o to) (mono : ∀ σ H Q Q', (∀ v H', Q v H' → Q' v H') → to σ H Q → to σ H Q')
    (hbase : attributeBase o name X.env (eval o X.env) = eval o X.env := by rfl) (hline : (apos.endLine == cpos.line) = true := by rfl) : PE X (.Call (.Attribute o name apos) [] [] cpos) (tBML0 r to) :=
  (pe_bm0 PySem.F.plainAttrs_list slot hty hm ho hbase hline).imp fun σ H Q h => mono σ H _ _ (fun v H' q => ⟨q.1.ty, q.2⟩) h
theorem mono_var {i : Nat} : ∀ σ H Q Q', (∀ v H', Q v H' → Q' v H') → tVar i σ H Q → tVar i σ H Q' := fun _ _ _ _ h ⟨v, e, q⟩ => ⟨v, e, h v _ q⟩
def rAppendU : V → List V → Hp → VK → Prop := fun x vs H Q => match x, vs with
  | .ref l, [y] => ∃ xs, lstOf (H l) = some xs ∧ xs.length < sizeLine ∧ Q .non (upd H l (.lst (xs ++ [y])))
  | _, _ => False
theorem mt_appendU : MtM X "list.append" rAppendU := by
  intro pins s σ H x vs v us Q I rx rv h
  unfold rAppendU at h
  split at h
  · rename_i l y
    obtain ⟨xs, e, h⟩ := h
    exact mt_append pins s σ H _ _ v us Q I rx rv ⟨l, xs, y, rfl, rfl, of_lstOf e, h⟩
  · exact h.elim
def rExtendU : V → List V → Hp → VK → Prop := fun x vs H Q => match x, vs with
  | .ref l, [.ref b] => ∃ xs, lstOf (H l) = some xs ∧ ∃ zs, lstOf (H b) = some zs ∧ xs.length + zs.length ≤ sizeLine ∧ Q .non (upd H l (.lst (xs ++ zs)))
  | _, _ => False
theorem mt_extendU : MtM X "list.extend" rExtendU := by
  intro pins s σ H x vs v us Q I rx rv h
  unfold rExtendU at h
  split at h
  · rename_i l b
    obtain ⟨xs, e1, zs, e2, h⟩ := h
    exact mt_extend pins s σ H _ _ v us Q I rx rv ⟨l, b, xs, zs, rfl, rfl, of_lstOf e1, of_lstOf e2, h⟩
  · exact h.elim
def rEqU : R2 := fun x y H Q => match x, y with
  | .int i, .int j => Q (.bl (decide (i = j))) H
  | .bl i, .bl j => Q (.bl (decide (i = j))) H
  | .str i, .str j => Q (.bl (decide (i = j))) H
  | .ref a, .ref b => rEqD (.ref a) (.ref b) H Q
  | x, y => scal x y = true ∧ Q (.bl (decide (x = y))) H
def rNeU : R2 := fun x y H Q => match x, y with
  | .int i, .int j => Q (.bl (!decide (i = j))) H
  | .bl i, .bl j => Q (.bl (!decide (i = j))) H
  | .str i, .str j => Q (.bl (!decide (i = j))) H
  | .ref a, .ref b => rNeD (.ref a) (.ref b) H Q
  | x, y => scal x y = true ∧ Q (.bl (!decide (x = y))) H
theorem op_eqU (hu : X.A.units + 64 < cLine) : OpR X (compareOp .Eq) rEqU := by
  intro pins s σ H x y v u Q I rx ry h
  unfold rEqU at h
  split at h
  · exact op_eq pins s σ H _ _ v u Q I rx ry ⟨rfl, by simpa using h⟩
  · exact op_eq pins s σ H _ _ v u Q I rx ry ⟨rfl, by simpa using h⟩
  · exact op_eq pins s σ H _ _ v u Q I rx ry ⟨rfl, by simpa using h⟩
  · exact op_eqD hu pins s σ H _ _ v u Q I rx ry h
  · exact op_eq pins s σ H _ _ v u Q I rx ry h
theorem op_neU (hu : X.A.units + 64 < cLine) : OpR X (compareOp .NotEq) rNeU := by
  intro pins s σ H x y v u Q I rx ry h
  unfold rNeU at h
  split at h
  · exact op_ne pins s σ H _ _ v u Q I rx ry ⟨rfl, by simpa using h⟩
  · exact op_ne pins s σ H _ _ v u Q I rx ry ⟨rfl, by simpa using h⟩
  · exact op_ne pins s σ H _ _ v u Q I rx ry ⟨rfl, by simpa using h⟩
  · exact op_neD hu pins s σ H _ _ v u Q I rx ry h
  · exact op_ne pins s σ H _ _ v u Q I rx ry h
theorem rLtU_int (H : Hp) (Q : VK) (i j : Int) : rLtU (.int i) (.int j) H Q = (Q (.bl (decide (i < j))) H) := rfl
theorem rLtU_str (H : Hp) (Q : VK) (i j : Str) : rLtU (.str i) (.str j) H Q = (Q (.bl (decide (i.cps.toList < j.cps.toList))) H) := rfl
theorem rLeU_int (H : Hp) (Q : VK) (i j : Int) : rLeU (.int i) (.int j) H Q = (Q (.bl (decide (i ≤ j))) H) := rfl
theorem rLeU_str (H : Hp) (Q : VK) (i j : Str) : rLeU (.str i) (.str j) H Q = (Q (.bl (!decide (j.cps.toList < i.cps.toList))) H) := rfl
theorem rIxU_str (H : Hp) (Q : VK) (z : Str) (i : Int) : rIxU (.str z) (.int i) H Q = (z.length ≤ sizeLine ∧ ∃ c, atI z.cps.toList i = some c ∧ Q (.str ⟨#[c]⟩) H) := rfl
theorem rIxU_ref (H : Hp) (Q : VK) (p : Addr) (i : Int) : rIxU (.ref p) (.int i) H Q = (∃ xs, seqOf (H p) = some xs ∧ ∃ v, atI xs i = some v ∧ Q v H) := rfl
theorem rLenU_str (H : Hp) (Q : VK) (z : Str) : rLenU [.str z] H Q = (z.length ≤ sizeLine ∧ Q (.int z.length) H) := rfl
theorem rLenU_ref (H : Hp) (Q : VK) (p : Addr) : rLenU [.ref p] H Q = (∃ ys, seqOf (H p) = some ys ∧ Q (.int ys.length) H) := rfl
theorem rMinU_int (H : Hp) (Q : VK) (i j : Int) : rMinU [.int i, .int j] H Q = (Q (.int (if j < i then j else i)) H) := rfl
theorem rIntU_int (H : Hp) (Q : VK) (i : Int) : rIntU [.int i] H Q = (Q (.int i) H) := rfl
theorem rIntU_bl (H : Hp) (Q : VK) (k : Bool) : rIntU [.bl k] H Q = (Q (.int (if k then 1 else 0)) H) := rfl
theorem rListU_str (H : Hp) (Q : VK) (z : Str) : rListU [.str z] H Q = (z.length ≤ sizeLine ∧ ∀ l, H l = none → Q (.ref l) (upd H l (.lst (sgn z)))) := rfl
theorem rListU_ref (H : Hp) (Q : VK) (p : Addr) : rListU [.ref p] H Q = (∃ ys, seqOf (H p) = some ys ∧ ∀ l, H l = none → Q (.ref l) (upd H l (.lst ys))) := rfl
theorem rPopU_ref (H : Hp) (Q : VK) (l : Addr) (i : Int) : rPopU (.ref l) [.int i] H Q = (∃ xs, lstOf (H l) = some xs ∧ 0 ≤ i ∧ ∃ y, xs[i.toNat]? = some y ∧ Q y (upd H l (.lst (xs.eraseIdx i.toNat)))) := rfl
theorem rAppendU_ref (H : Hp) (Q : VK) (l : Addr) (y : V) : rAppendU (.ref l) [y] H Q = (∃ xs, lstOf (H l) = some xs ∧ xs.length < sizeLine ∧ Q .non (upd H l (.lst (xs ++ [y])))) := rfl
theorem rExtendU_ref (H : Hp) (Q : VK) (l b : Addr) : rExtendU (.ref l) [.ref b] H Q = (∃ xs, lstOf (H l) = some xs ∧ ∃ zs, lstOf (H b) = some zs ∧ xs.length + zs.length ≤ sizeLine ∧ Q .non (upd H l (.lst (xs ++ zs)))) := rfl
theorem rEqU_int (H : Hp) (Q : VK) (i j : Int) : rEqU (.int i) (.int j) H Q = (Q (.bl (decide (i = j))) H) := rfl
theorem rEqU_bl (H : Hp) (Q : VK) (i j : Bool) : rEqU (.bl i) (.bl j) H Q = (Q (.bl (decide (i = j))) H) := rfl
theorem rEqU_str (H : Hp) (Q : VK) (i j : Str) : rEqU (.str i) (.str j) H Q = (Q (.bl (decide (i = j))) H) := rfl
theorem rEqU_ref (H : Hp) (Q : VK) (i j : Addr) : rEqU (.ref i) (.ref j) H Q = (rEqD (.ref i) (.ref j) H Q) := rfl
theorem rNeU_int (H : Hp) (Q : VK) (i j : Int) : rNeU (.int i) (.int j) H Q = (Q (.bl (!decide (i = j))) H) := rfl
theorem rNeU_bl (H : Hp) (Q : VK) (i j : Bool) : rNeU (.bl i) (.bl j) H Q = (Q (.bl (!decide (i = j))) H) := rfl
theorem rNeU_str (H : Hp) (Q : VK) (i j : Str) : rNeU (.str i) (.str j) H Q = (Q (.bl (!decide (i = j))) H) := rfl
theorem rNeU_ref (H : Hp) (Q : VK) (i j : Addr) : rNeU (.ref i) (.ref j) H Q = (rNeD (.ref i) (.ref j) H Q) := rfl
theorem rIsU_ty (K : PySem.W.Frag) (x : V) (c : String) (H : Hp) (Q : VK) : rIsU K [x, .ty c] H Q = (∃ t b, TyOf K H x t ∧ PySem.W.kitOne K t (.type c) = some b ∧ Q (.bl b) H) := rfl
theorem rSetU_ref (p : Addr) (k : Int) (v : V) (H : Hp) (Q : Hp → Prop) : rSetU (.ref p) (.int k) v H Q = (∃ xs, lstOf (H p) = some xs ∧ ∃ j, ixN xs.length k = some j ∧ Q (upd H p (.lst (xs.set j v)))) := rfl
theorem isL_ref (p : Addr) (H : Hp) : isL (.ref p) H = ((lstOf (H p)).isSome = true) := rfl
def LoopR (J : It) (g : TG) (tb : TS) (D : Ends) (σ : L2.St) (H1 : Hp) : Prop := ∃ W : Nat → Nat → L2.St → Hp → Prop, (∃ m, W 0 m σ H1) ∧ ∀ i m σ H, W i m σ H →
  (J.stop i H ∧ D.nx σ H) ∨ (J.go i H ∧ ∃ N : L2.St → Hp → Prop, (∀ σ' H', N σ' H' → ∃ m', m' < m ∧ W (i + 1) m' σ' H') ∧ ∀ x H', J.yld i H x H' → g x σ H' fun σ2 H2 => tb { D with nx := N, ct := N, bk := D.nx } σ2 H2)
theorem tFor_eq (wi : TI) (g : TG) (tb : TS) (D : Ends) (σ : L2.St) (H : Hp) : tFor wi g tb D σ H = wi σ H fun J H1 => LoopR J g tb D σ H1 := rfl
theorem loop_range {lo : Int} {n : Nat} {g : TG} {tb : TS} {D : Ends} {σ : L2.St} {H : Hp} (Pv : Nat → L2.St → Hp → Prop) (h0 : Pv 0 σ H)
    (hs : ∀ i σ H, i < n → Pv i σ H → g (.int (lo + i)) σ H fun σ2 H2 => tb { D with nx := Pv (i + 1), ct := Pv (i + 1), bk := D.nx } σ2 H2) (hd : ∀ σ H, Pv n σ H → D.nx σ H) : LoopR (Itr lo n) g tb D σ H := for_range Pv h0 hs hd
theorem loop_list {K : PySem.W.Frag} {a : Addr} {xs : List V} {g : TG} {tb : TS} {D : Ends} {σ : L2.St} {H : Hp} (Pv : Nat → L2.St → Hp → Prop) (h0 : Pv 0 σ H) (hl : ∀ i σ H, i ≤ xs.length → Pv i σ H → H a = some (.lst xs))
    (hs : ∀ i x σ H, xs[i]? = some x → Pv i σ H → g x σ H fun σ2 H2 => tb { D with nx := Pv (i + 1), ct := Pv (i + 1), bk := D.nx } σ2 H2) (hd : ∀ σ H, Pv xs.length σ H → D.nx σ H) : LoopR (Itl K a) g tb D σ H :=
  for_list Pv h0 (fun i σ H h p => SqL.of (hl i σ H h p)) hs hd
theorem loop_tup {K : PySem.W.Frag} {a : Addr} {xs : List V} {g : TG} {tb : TS} {D : Ends} {σ : L2.St} {H : Hp} (Pv : Nat → L2.St → Hp → Prop) (h0 : Pv 0 σ H) (hl : ∀ i σ H, i ≤ xs.length → Pv i σ H → H a = some (.tup xs))
    (hs : ∀ i x σ H, xs[i]? = some x → Pv i σ H → g x σ H fun σ2 H2 => tb { D with nx := Pv (i + 1), ct := Pv (i + 1), bk := D.nx } σ2 H2) (hd : ∀ σ H, Pv xs.length σ H → D.nx σ H) : LoopR (Itt K a) g tb D σ H :=
  for_tup Pv h0 (fun i σ H h p => SqT.of (hl i σ H h p)) hs hd
end
end L2
set_option Elab.async false
set_option linter.all false
set_option maxRecDepth 100000
set_option maxHeartbeats 4000000
namespace L2
open PySem PySem.Spec PyProof.Rows
def clOf (env : Env) : List (Str × NameKind) → List (Str × Addr) → List (Str × Addr)
  | [], cs => cs
  | (n, k) :: r, cs => clOf env r (if k == .free then (n, (env.cells.lookup n).getD 0) :: cs else cs)
theorem closure_of {env : Env} {scope : Scope} (h : ∀ y ∈ scope.names, y.2 = .free → ∃ c, env.cells.lookup y.1 = some c) : closureFor scope env = pure (clOf env scope.names []) := by
  have gen : ∀ (l : List (Str × NameKind)) (cs : List (Str × Addr)), (∀ y ∈ l, y.2 = .free → ∃ c, env.cells.lookup y.1 = some c) →
      (forIn l cs fun x r => (match x with | (name, kind) => if (kind == NameKind.free) = true then do let c ← cellOf env name; pure (ForInStep.yield ((name, c) :: r)) else pure (ForInStep.yield r)) : Sem (List (Str × Addr))) = pure (clOf env l cs) := by
    intro l
    induction l with
    | nil => intro cs _; rfl
    | cons y l ih =>
      intro cs hy
      obtain ⟨n, k⟩ := y
      rw [List.forIn_cons]
      have hr := fun z hz => hy z (List.mem_cons_of_mem _ hz)
      by_cases hk : k = .free
      · subst hk
        obtain ⟨c, hc⟩ := hy _ (List.mem_cons_self ..) rfl
        have hc' : env.cells.lookup n = some c := hc
        have e : cellOf env n = pure c := by unfold cellOf; rw [hc']
        simp only [beq_self_eq_true, if_true, e, pure_bind]
        rw [ih _ hr]
        simp [clOf, hc']
      · have hb : (k == NameKind.free) = false := by simpa using hk
        simp only [hb, Bool.false_eq_true, if_false, pure_bind]
        rw [ih _ hr]
        simp [clOf, hb]
  exact (congrArg (· >>= fun s => pure s) (gen scope.names [] h)).trans (by rfl)
theorem clOf_sub {env : Env} : ∀ (l : List (Str × NameKind)) (cs : List (Str × Addr)) (x : Str) (c : Addr), (∀ y ∈ l, y.2 = .free → ∃ c, env.cells.lookup y.1 = some c) → (∀ x c, cs.lookup x = some c → env.cells.lookup x = some c) →
    (clOf env l cs).lookup x = some c → env.cells.lookup x = some c
  | [], cs, x, c, _, hc, h => hc x c h
  | (n, k) :: r, cs, x, c, hl, hc, h => by
    unfold clOf at h
    refine clOf_sub r _ x c (fun y hy => hl y (List.mem_cons_of_mem _ hy)) (fun z d hz => ?_) h
    split at hz
    · rename_i hk
      rw [List.lookup_cons] at hz
      cases hzn : z == n with
      | true =>
        rw [hzn] at hz
        obtain ⟨c', hc'⟩ := hl _ (List.mem_cons_self ..) (by simpa using hk)
        have hc'' : env.cells.lookup n = some c' := hc'
        have ez : z = n := by simpa using hzn
        subst ez
        rw [hc''] at hz
        rw [hc'']
        exact hz
      | false => rw [hzn] at hz; exact hc z d hz
    · exact hc z d hz
theorem clOf_keep {env : Env} : ∀ (l : List (Str × NameKind)) (cs : List (Str × Addr)) (x : Str), (∃ c, cs.lookup x = some c) → ∃ c, (clOf env l cs).lookup x = some c
  | [], cs, x, h => h
  | (n, k) :: r, cs, x, h => by
    unfold clOf
    refine clOf_keep r _ x ?_
    split
    · rw [List.lookup_cons]
      cases x == n with
      | true => exact ⟨_, rfl⟩
      | false => exact h
    · exact h
theorem clOf_has {env : Env} : ∀ (l : List (Str × NameKind)) (cs : List (Str × Addr)) (x : Str), (x, NameKind.free) ∈ l → ∃ c, (clOf env l cs).lookup x = some c
  | (n, k) :: r, cs, x, h => by
    unfold clOf
    rcases List.mem_cons.mp h with h | h
    · cases h
      refine clOf_keep r _ _ ?_
      simp [List.lookup_cons]
    · exact clOf_has r _ x h
abbrev Cx.comp (X : Cx) (scope : Scope) (C : Addr) (Nc : List Str) (s3 : Shared) (H3 : Hp) (fp : List Addr) : Cx :=
  { X with N := Nc, s₀ := s3, H₀ := H3, env := compEnvC scope (clOf X.env scope.names []) C X.env, outer := X.stack, stack := X.stack, ex := fp, fn := fun _ => false, pn := [], xe := fun _ _ => False }
def compSt (js : List (Option Nat)) (σ : L2.St) : L2.St := js.map fun o => o.bind fun j => (σ[j]?).getD none
def tEmit (D : Addr) (te : TE) : TS := fun E σ H => te σ H fun v H1 => ∃ ys, lstOf (H1 D) = some ys ∧ ys.length < sizeLine ∧ E.nx σ (upd H1 D (.lst (ys ++ [v])))
def tComp (wi : TI) (g : TG) (js : List (Option Nat)) (te : TE) : TE := fun σ H Q => wi σ H fun J H1 => ∀ D, H1 D = none →
  LoopR J g (tEmit D te) { nx := fun _ H' => Q (.ref D) H', rt := fun _ _ => False } (compSt js σ) (upd H1 D (.lst []))
structure CompOk (X : Cx) (scope : Scope) (Nc : List Str) (js : List (Option Nat)) : Prop where
  kind : scope.kind = .function
  nocell : ∀ y ∈ scope.names, y.2 ≠ .cell
  loc : ∀ y ∈ scope.names, y.2 = .local → scope.names.lookup y.1 = some .local
  free : ∀ y ∈ scope.names, y.2 = .free → X.env.kindOf y.1 = some .cell ∨ X.env.kindOf y.1 = some .free
  len : js.length = Nc.length
  nol : ∀ x, (x, NameKind.free) ∈ scope.names → scope.names.lookup x ≠ some .local
  see : ∀ (i j : Nat) (x : Str), js[i]? = some (some j) → Nc[i]? = some x → X.N[j]? = some x ∧ (x, NameKind.free) ∈ scope.names
section
variable {X : Cx} {pins : List (Addr × Obj)} {σ : L2.St} {H : Hp} {s : Shared} {scope : Scope} {Nc : List Str} {js : List (Option Nat)} {fp : List Addr}
theorem CompOk.has (c : CompOk X scope Nc js) (I : Inv X pins σ H s) : ∀ y ∈ scope.names, y.2 = .free → ∃ a, X.env.cells.lookup y.1 = some a := fun y hy hf => I.ok.has _ (c.free y hy hf)
theorem relabel_kind {env : Env} {x : Str} : ∀ {l : List (Str × NameKind)}, (∀ y ∈ l, y.2 ≠ .cell) →
    ((l.map fun (n, k) => if (k == NameKind.free && env.scope.kind == .function && env.kindOf n == some .cell) then (n, NameKind.cell) else (n, k)).lookup x = some .cell ∨
     (l.map fun (n, k) => if (k == NameKind.free && env.scope.kind == .function && env.kindOf n == some .cell) then (n, NameKind.cell) else (n, k)).lookup x = some .free) → (x, NameKind.free) ∈ l
  | [], _, h => by simp at h
  | (n, k) :: r, hc, h => by
    rw [List.map_cons] at h
    by_cases hx : x = n
    · subst hx
      have hk : k = .free := by
        have hk' : k ≠ .cell := hc _ (List.mem_cons_self ..)
        by_cases hcond : (k == NameKind.free && env.scope.kind == .function && env.kindOf x == some .cell) = true
        · rw [Bool.and_eq_true, Bool.and_eq_true] at hcond
          simpa using hcond.1.1
        · simp only [hcond, Bool.false_eq_true, if_false, List.lookup_cons, beq_self_eq_true] at h
          rcases h with h | h
          · exact absurd (Option.some.inj h) hk'
          · exact Option.some.inj h
      subst hk
      exact List.mem_cons_self ..
    · refine List.mem_cons_of_mem _ (relabel_kind (env := env) (fun y hy => hc y (List.mem_cons_of_mem _ hy)) ?_)
      have hxn : (x == n) = false := by simpa using hx
      by_cases hcond : (k == NameKind.free && env.scope.kind == .function && env.kindOf n == some .cell) = true
      · simpa only [hcond, if_true, List.lookup_cons, hxn] using h
      · simpa only [hcond, Bool.false_eq_true, if_false, List.lookup_cons, hxn] using h
theorem relabel_loc {env : Env} {x : Str} : ∀ {l : List (Str × NameKind)},
    (l.map fun (n, k) => if (k == NameKind.free && env.scope.kind == .function && env.kindOf n == some .cell) then (n, NameKind.cell) else (n, k)).lookup x = some .local → l.lookup x = some .local
  | [], h => by simp at h
  | (n, k) :: r, h => by
    rw [List.map_cons] at h
    by_cases hx : x = n
    · subst hx
      by_cases hcond : (k == NameKind.free && env.scope.kind == .function && env.kindOf x == some .cell) = true
      · simp only [hcond, if_true, List.lookup_cons, beq_self_eq_true] at h
        cases h
      · simp only [hcond, Bool.false_eq_true, if_false, List.lookup_cons, beq_self_eq_true] at h
        simp only [List.lookup_cons, beq_self_eq_true]
        exact h
    · have hxn : (x == n) = false := by simpa using hx
      rw [List.lookup_cons, hxn]
      refine relabel_loc (env := env) ?_
      by_cases hcond : (k == NameKind.free && env.scope.kind == .function && env.kindOf n == some .cell) = true
      · simpa only [hcond, if_true, List.lookup_cons, hxn] using h
      · simpa only [hcond, Bool.false_eq_true, if_false, List.lookup_cons, hxn] using h
theorem comp_ok (c : CompOk X scope Nc js) (I : Inv X pins σ H s) (hf : ∀ b ∈ fp, FpOk X pins H b) (ho : ∀ b ∈ fp, ∃ o, s.heap.get? b = some o) : (X.comp scope s.heap.objs.size Nc s H fp).Ok := by
  have hs := c.has I
  have sub : ∀ x a, (clOf X.env scope.names []).lookup x = some a → X.env.cells.lookup x = some a := fun x a => clOf_sub _ _ x a hs (fun _ _ z => nomatch z)
  refine ⟨I.ok.mod, c.kind, I.ok.glob, I.ok.blt, Nat.le_refl _, fun x y a e1 e2 => I.ok.inj x y a (sub x a e1) (sub y a e2), fun x h => clOf_has _ _ x (relabel_kind (env := X.env) c.nocell h), (fun x a h => nomatch h), I.ok.hd, I.ok.frames, .inl rfl, fun b hb => ⟨?_, fun x a e => ?_⟩, I.bs,
    Nat.le_trans I.ok.bsz I.sz, fun b o e hb => ?_, fun b hb hb' => ?_, I.stack, I.stkFree⟩
  · obtain ⟨o, e⟩ := ho b hb
    exact Nat.ne_of_lt (Heap.lt_size e)
  · exact (hf b hb).2.2.2.2.1 x a (sub x a e)
  · rcases (hf b hb).2.2.2.1 with z | z
    · exact I.ok.noex b o e z
    · exact absurd (Nat.lt_of_lt_of_le (Heap.lt_size (I.ok.bs b o e).1) z) (Nat.lt_irrefl _)
  · rcases List.mem_cons.mp (I.stkSub b hb') with z | z
    · exact (hf b hb).2.1 z
    · exact (hf b hb).2.2.1 z
theorem comp_inv (c : CompOk X scope Nc js) (I : Inv X pins σ H s) (hf : ∀ b ∈ fp, FpOk X pins H b) (ho : ∀ b ∈ fp, ∃ o, s.heap.get? b = some o) {h' : Heap} {m : Str → Option Value} {tk : Nat} (hn : h'.Ns s.heap.objs.size m)
    (hk : ∀ b o, s.heap.get? b = some o → h'.get? b = some o) : Inv (X.comp scope s.heap.objs.size Nc s H fp) [] (compSt js σ) H { s with heap := h', toks := tk } := by
  have hs := c.has I
  have sub : ∀ x a, (clOf X.env scope.names []).lookup x = some a → X.env.cells.lookup x = some a := fun x a => clOf_sub _ _ x a hs (fun _ _ z => nomatch z)
  refine ⟨comp_ok c I hf ho, rfl, I.bare, Un.kept hk, ⟨m, hn, fun i x v e1 e2 e3 => ?_⟩, fun x a e => ?_, I.hok.fresh (Nat.le_refl _), fun x a e => I.freeC x a (sub x a e), (fun p hp => nomatch hp), I.hok.kept hk, by simp only [compSt, List.length_map]; exact c.len⟩
  · have e2' : (compSt js σ)[i]? = some (some v) := e2
    unfold compSt at e2'
    rw [List.getElem?_map] at e2'
    cases ej : js[i]? with
    | none => rw [ej] at e2'; cases e2'
    | some o =>
      rw [ej] at e2'
      cases o with
      | none => cases e2'
      | some j =>
        have e4 : (σ[j]?).getD none = some v := Option.some.inj e2'
        have e5 : σ[j]? = some (some v) := by
          cases q : σ[j]? with
          | none => rw [q] at e4; cases e4
          | some w => rw [q] at e4; exact congrArg some e4
        obtain ⟨n1, n2⟩ := c.see i j x ej e1
        have hkd := c.free _ n2 rfl
        obtain ⟨a, ha⟩ := clOf_has (env := X.env) scope.names [] x n2
        obtain ⟨m0, _, hl⟩ := I.loc
        obtain ⟨u, r, l⟩ := hl j x v n1 e5 (by
          rcases hkd with z | z
          · exact .inr (.inl z)
          · exact .inr (.inr z))
        refine ⟨u, r, ?_⟩
        rcases l with ⟨k, _⟩ | ⟨_, a', ha', hcell⟩
        · rcases hkd with z | z
          · rw [z] at k; cases k
          · rw [z] at k; cases k
        · have : a' = a := Option.some.inj (ha'.symm.trans (sub x a ha))
          subst this
          refine .inr ⟨?_, a', ha, ?_⟩
          · rcases e3 with z | z | z
            · exfalso
              have q : (relabel scope X.env).names.lookup x = some .local := z
              exact c.nol x n2 (relabel_loc q)
            · exact .inl z
            · exact .inr z
          · obtain ⟨o, q, d⟩ := hcell
            exact ⟨o, hk _ o q, d⟩
  · obtain ⟨v, o, q, d⟩ := I.cell x a (sub x a e)
    exact ⟨v, o, hk _ o q, d⟩
theorem comp_after (I : Inv X pins σ H s) (hf : ∀ b ∈ fp, FpOk X pins H b) {σ' : L2.St} {H' : Hp} {s' : Shared} {h'' : Heap} (J : Inv (X.comp scope s.heap.objs.size Nc s H fp) [] σ' H' s') (hs : Heap.SameBut s.heap.objs.size s'.heap h'') :
    Inv X pins σ H' { s' with heap := h'' } := by
  have ne : ∀ b o, s.heap.get? b = some o → b ≠ s.heap.objs.size := fun b o e => Nat.ne_of_lt (Heap.lt_size e)
  have u : Un (frs X.stack) fp H H' s.heap s'.heap := J.base
  refine I.call' (s' := { s' with heap := h'' }) (ch := fp) J.os ⟨fun b o e n hb hx => ?_, fun b o e n hb hx => ?_, u.free, fun b o e hx => ?_, u.tups, u.frzs, u.tbls⟩ (fun b o e => ?_) J.bare fun b hb => ?_
  · exact (hs.2 b (ne b o e)).trans (u.keep b o e n hb hx)
  · obtain ⟨sl, q⟩ := u.slot b o e n hb hx
    exact ⟨sl, (hs.2 b (ne b o e)).trans q⟩
  · obtain ⟨o', q⟩ := u.there b o e hx
    exact ⟨o', (hs.2 b (ne b o e)).trans q⟩
  · have hC : H' s.heap.objs.size = none := J.free
    refine (J.hok b o e).stay (fun d v hd q => (hs.2 d ?_).trans q) (fun _ q => q) fun _ _ q => q
    rintro rfl
    rcases hd with z | z
    · rw [← z, hC] at e; cases e
    · rw [hC] at z; cases z
  · obtain ⟨_, f1, _, f3, f4, f5⟩ := hf b hb
    exact ⟨f3, f1, f4, f5⟩
end
section
variable {X : Cx} {scope : Scope} {Nc : List Str} {js : List (Option Nat)} {elt tg iter : Expr} {pos : Pos} {wi : TI} {g : TG} {te : TE}
theorem comp_core (hc : X.calm = true) (c : CompOk X scope Nc js) (hi : PI X tg iter wi) (hg : ∀ C s3 H3 fp, PG (X.comp scope C Nc s3 H3 fp) tg g) (he : ∀ C s3 H3 fp, PE (X.comp scope C Nc s3 H3 fp) elt te)
    {pins : List (Addr × Obj)} {s : Shared} {σ : L2.St} {H : Hp} (I : Inv X pins σ H s) {RR : Value → Addr → Result → Shared → Prop} {NX : Addr → Hp → Prop}
    (h : wi σ H fun J H1 => ∀ D, H1 D = none → LoopR J g (tEmit D te) { nx := fun _ H' => NX D H', rt := fun _ _ => False } (compSt js σ) (upd H1 D (.lst [])))
    (fin : ∀ D H3 s3 fp σ5 H5 s6, Inv X pins σ H3 s3 → (∀ b ∈ fp, FpOk X pins H3 b) → Inv (X.comp scope s3.heap.objs.size Nc s3 H3 fp) [] σ5 H5 s6 → NX D H5 → RR (.ref D) s3.heap.objs.size (.ok .next) s6) :
    wpAny (model X.prog X.w) X.A (eval iter X.env) (fun x s₁ => wpAny (model X.prog X.w) X.A (pyIter x) (fun it s₂ => wpAny (model X.prog X.w) X.A (newList []) (fun acc s₃ =>
      wpAny (model X.prog X.w) X.A (newFunctionEnv scope X.env.globals (clOf X.env scope.names []) [] X.env.qual none .none (some X.env)) (fun cenv s₄ =>
        codeAny (model X.prog X.w) X.A (.compStart (.ListComp elt [⟨tg, iter, [], 0⟩] scope pos) 0 it acc { cenv with scope := relabel scope X.env }) (RR acc cenv.locals) s₄) X.xe s₃) X.xe s₂) X.xe s₁) X.xe s := by
  refine thn (hi pins s σ H _ I h) fun v s1 h1 => thn h1 fun itv s2 h2 => ?_
  obtain ⟨it, fp, tn, J, H2, rfl, I2, T, st2, f2, h2⟩ := h2
  -- the list
  refine wpAny_newObj_type ?_ (by show 0 ≤ sizeLine; decide)
  have hD : H2 s2.heap.objs.size = none := I2.hok.fresh (Nat.le_refl _)
  have I3 : Inv X pins σ (upd H2 s2.heap.objs.size (.lst [])) { s2 with heap := s2.heap.push { cls := .type "list", data := .seq ([] : List Value).toArray } } :=
    I2.laid (t' := s2.toks) (fun b u e => Heap.get?_push_of_some _ e) (Nat.le_refl _) ⟨by show 0 ≤ sizeLine; decide, [], 0, .nil, Heap.get?_push_size _ rfl⟩
  have f3 : ∀ b ∈ fp, FpOk X pins (upd H2 s2.heap.objs.size (.lst [])) b := fun b hb => by
    obtain ⟨q0, q⟩ := f2 b hb
    obtain ⟨o, e, _⟩ := T.obj _ _ st2 b hb
    exact ⟨by rw [upd_ne (Nat.ne_of_lt (Heap.lt_size e))]; exact q0, q⟩
  have o3 : ∀ b ∈ fp, ∃ o, (s2.heap.push { cls := .type "list", data := .seq ([] : List Value).toArray }).get? b = some o := fun b hb => by
    obtain ⟨o, e, _⟩ := T.obj _ _ st2 b hb
    exact ⟨o, Heap.get?_push_of_some _ e⟩
  have st3 : tn 0 (s2.heap.push { cls := .type "list", data := .seq ([] : List Value).toArray }) := T.keep _ _ _ st2 fun b _ o e => Heap.get?_push_of_some _ e
  generalize hh3 : s2.heap.push { cls := .type "list", data := .seq ([] : List Value).toArray } = h3 at I3 o3 st3 ⊢
  refine wpAny_newFunctionEnv c.nocell (by intro y hy; simp at hy) (fun h4 hn4 hs4 => ?_) c.kind
  have k4 : ∀ b o, h3.get? b = some o → h4.get? b = some o := fun b o e => (hs4.2 b (Nat.ne_of_lt (Heap.lt_size e))).trans (Heap.get?_push_of_some _ e)
  have I4 := comp_inv (tk := s2.toks + ([] : List (Str × Value)).length) c I3 f3 o3 hn4 k4
  have st4 : tn 0 h4 := T.keep _ _ _ st3 fun b _ o e => k4 b o e
  obtain ⟨W, ⟨m0, w0⟩, turn⟩ := h2 _ hD
  let s3 : Shared := { s2 with heap := h3 }
  let Y : Cx := X.comp scope h3.objs.size Nc s3 (upd H2 s2.heap.objs.size (.lst [])) fp
  have stat : ∀ {H' : Hp}, (∀ b ∈ fp, H' b = none) → ∀ b ∈ fp, FpOk Y [] H' b := fun hn b hb => ⟨hn b hb, (I4.ok.exf b hb).1, I4.ok.exfs b hb, .inl hb, (I4.ok.exf b hb).2, (fun p hp => nomatch hp)⟩
  have loop : codeAny (model X.prog X.w) X.A (.compLoop (.ListComp elt [⟨tg, iter, [], 0⟩] scope pos) 0 (.ref it) (.ref s2.heap.objs.size) Y.env)
      (RR (.ref s2.heap.objs.size) h3.objs.size) { s2 with heap := h4, toks := s2.toks + ([] : List (Str × Value)).length } := by
    refine codeAny_loop rfl (fun n s' => ∃ i σ' H', Inv Y [] σ' H' s' ∧ tn i s'.heap ∧ (∀ b ∈ fp, H' b = none) ∧ W i n σ' H') (fun n s5 hI => ?_) m0 ⟨0, _, _, I4, st4, fun b hb => (f3 b hb).1, w0⟩
    obtain ⟨i, σ5, H5, I5, st5, fr5, w5⟩ := hI
    show wpAny _ X.A ((compTurn (.ListComp elt [⟨tg, iter, [], 0⟩] scope pos) 0 (.ref it) (.ref s2.heap.objs.size) Y.env).onRaise (fun x => do noteFrame x Y.env; theTreesLotGoes x)) _ _ s5
    refine wpAny_noted (wpAny_mono (E := fun _ _ => False) ?_ (fun _ _ q => q) fun _ _ z => z.elim)
    rw [compTurn_list1]
    refine wpAny_bind (wpAny_standAt (wpAny_bind ?_))
    rcases turn i n σ5 H5 w5 with ⟨stop, qn⟩ | ⟨go, N, hN, step⟩
    · refine thn (T.done Y rfl rfl rfl hc i [] s5 σ5 H5 _ I5 (stat fr5) st5 stop) fun r s6 ⟨hr, I6⟩ => ?_
      subst hr
      refine wpAny_pure ?_
      exact fin _ _ s3 fp σ5 H5 s6 I3 f3 I6 qn
    · refine thn (T.item Y rfl rfl rfl hc i [] s5 σ5 H5 _ I5 (stat fr5) st5 go) fun r s6 ⟨u, hr, h6⟩ => ?_
      subst hr
      refine wpAny_bind (thn h6 fun _ s7 ⟨x, H7, I7, r7, y7, st7, fr7⟩ => ?_)
      have I7' := I7.pinned (stat fr7) (T.obj _ _ st7)
      refine wpAny_bind (thn (hg _ _ _ _ _ s7 σ5 H7 x u _ I7' r7 (step x H7 y7)) fun _ s8 ⟨σ8, H8, I8, q8⟩ => ?_)
      refine wpAny_bind (wpAny_bind (thn (he _ _ _ _ _ s8 σ8 H8 _ I8 q8) fun v s9 ⟨y, H9, I9, r9, ys, e9, z9, n9⟩ => ?_))
      refine wpAny_bind (thn (mt_append (X := Y) _ s9 σ8 H9 (.ref s2.heap.objs.size) [y] (.ref s2.heap.objs.size) [v] (fun w H' => N σ8 H') I9 rfl (.cons r9 .nil) ⟨_, ys, y, rfl, rfl, of_lstOf e9, z9, n9⟩) fun w s10 ⟨_, H10, I10, _, n10⟩ => ?_)
      refine wpAny_pure (wpAny_pure ⟨rfl, ?_⟩)
      obtain ⟨m', hm, w10⟩ := hN σ8 H10 n10
      refine ⟨m', hm, i + 1, σ8, H10, I10.unpinned, T.keep _ _ _ st7 fun b hb o e => (I10.pin (b, o) (List.mem_append_right _ (List.mem_append_right _ (mem_pinsAt hb e)))).1, fun b hb => ?_, w10⟩
      obtain ⟨o, e, d⟩ := T.obj _ _ st7 b hb
      exact (I10.pin (b, o) (List.mem_append_right _ (List.mem_append_right _ (mem_pinsAt hb e)))).2.1
  exact codeAny_compStart_list loop (T.self _ 0 _ _ _ st4 loop)
theorem pe_comp (hc : X.calm = true) (c : CompOk X scope Nc js) (hi : PI X tg iter wi) (hg : ∀ C s3 H3 fp, PG (X.comp scope C Nc s3 H3 fp) tg g) (he : ∀ C s3 H3 fp, PE (X.comp scope C Nc s3 H3 fp) elt te)
    (hs : ∀ x, foldedSetIterable iter X.env x = pure x := by intro _; rfl) : PE X (.ListComp elt [⟨tg, iter, [], 0⟩] scope pos) (tComp wi g js te) := by
  intro pins s σ H Q I h
  rw [eval_ListComp]
  refine wpAny_comprehension_free (use := none) (g := ⟨tg, iter, [], 0⟩) (gs := []) rfl hs (closure_of (c.has I)) c.kind c.loc
    (comp_core (RR := fun acc C => compPost (model X.prog X.w) X.A X.xe none (EP X pins σ Q) acc C) (NX := fun D H' => Q (.ref D) H') hc c hi hg he I h fun D H3 s3 fp σ5 H5 s6 I3 f3 I6 qn => ?_)
  obtain ⟨m, hn, _⟩ := I6.loc
  exact ⟨m, hn, fun h' hs' => ⟨.ref D, H5, comp_after I3 f3 I6 hs', rfl, qn⟩⟩
end
end L2
set_option Elab.async false
set_option linter.all false
set_option maxRecDepth 100000
set_option maxHeartbeats 4000000
namespace L2
open PySem PySem.Spec PyProof.Rows
section
variable {X : Cx}
def rTupleU : List V → Hp → VK → Prop := fun xs H Q => match xs with
  | [.ref p] => (∃ ys, lstOf (H p) = some ys ∧ ∀ l, H l = none → Q (.ref l) (upd H l (.tup ys))) ∨ (∃ ys, tupOf (H p) = some ys ∧ Q (.ref p) H)
  | _ => False
theorem call_tupleU : CallR X (.type "tuple") rTupleU := by
  intro pins s σ H xs us Q I r h
  unfold rTupleU at h
  split at h
  · rename_i p
    rcases h with ⟨ys, e, h⟩ | ⟨ys, e, h⟩
    · exact call_tuple_of pins s σ H _ us Q I r ⟨p, ys, rfl, .inl ⟨SqL.of (of_lstOf e), h⟩⟩
    · exact call_tuple_of pins s σ H _ us Q I r ⟨p, ys, rfl, .inr ⟨SqT.of (of_tupOf e), h⟩⟩
  · exact h.elim
theorem rTupleU_lst {p : Addr} {H : Hp} {Q : VK} {ys : List V} (e : H p = some (.lst ys)) (h : ∀ l, H l = none → Q (.ref l) (upd H l (.tup ys))) : rTupleU [.ref p] H Q := .inl ⟨ys, by rw [e]; rfl, h⟩
def rMulW : R2 := fun x y H Q => match x, y with
  | .int i, .int j => CMul i j ∧ Q (.int (i * j)) H
  | .ref l, .int k => ∃ xs, lstOf (H l) = some xs ∧ 0 ≤ k ∧ k < 2 ^ 62 ∧ xs.length * k.toNat ≤ sizeLine ∧ ∀ p, H p = none → Q (.ref p) (upd H p (.lst (List.replicate k.toNat xs).flatten))
  | _, _ => False
theorem op_mulW : OpR X (binaryOp .Mult) rMulW := by
  intro pins s σ H x y v u Q I rx ry h
  cases x with
  | int i => cases y with
    | int j => exact op_mul pins s σ H _ _ v u Q I rx ry ⟨i, j, rfl, rfl, h⟩
    | _ => exact False.elim h
  | ref l => cases y with
    | int k =>
      obtain ⟨xs, e, k0, k1, h⟩ := h
      exact op_rep pins s σ H _ _ v u Q I rx ry ⟨l, k, xs, rfl, rfl, of_lstOf e, by omega, by omega, h⟩
    | _ => exact False.elim h
  | _ => exact False.elim h
theorem rMulW_int (H : Hp) (Q : VK) (i j : Int) : rMulW (.int i) (.int j) H Q = (CMul i j ∧ Q (.int (i * j)) H) := rfl
theorem rMulW_ref (H : Hp) (Q : VK) (l : Addr) (k : Int) : rMulW (.ref l) (.int k) H Q = (∃ xs, lstOf (H l) = some xs ∧ 0 ≤ k ∧ k < 2 ^ 62 ∧ xs.length * k.toNat ≤ sizeLine ∧ ∀ p, H p = none → Q (.ref p) (upd H p (.lst (List.replicate k.toNat xs).flatten))) := rfl
def isS (x : V) : Prop := match x with
  | .str _ => True
  | _ => False
def tBMS (r : V → List V → Hp → VK → Prop) (to : TE) (t : TA) : TE := fun σ H Q => to σ H fun x H1 => isS x ∧ t σ H1 fun xs H2 => r x xs H2 Q
theorem isS.ty {K : PySem.W.Frag} {x : V} {H : Hp} (h : isS x) : tyV K "str" x H := by
  unfold isS at h
  split at h
  · rfl
  · exact h.elim
theorem isS_str (z : Str) : isS (.str z) = True := rfl
theorem mono_c {v : V} : ∀ σ H Q Q', (∀ v H', Q v H' → Q' v H') → tC v σ H Q → tC v σ H Q' := fun _ _ _ _ h q => h _ _ q
variable {o e : Expr} {es : List Expr} {to : TE} {t : TA} {name : Str} {apos cpos : Pos} {id : String} {r : V → List V → Hp → VK → Prop}
theorem pe_bmS (slot : Slot "str" name id) (hty : typeOf (.builtin id) = pure (.type "method_descriptor")) (hm : MtM X id r) (ho : PE X o to) (ha : PA X (e :: es) t) (mono : ∀ σ H Q Q', (∀ v H', Q v H' → Q' v H') → to σ H Q → to σ H Q')
    (hbase : attributeBase o name X.env (eval o X.env) = eval o X.env := by rfl)
    (hfew : ((backTo cpos (starEach (e :: es) X.env)).all (fun x => !x.1) && (backToKw cpos (keywordEach [] X.env)).all (fun x => x.1.isSome)
      && decide ((e :: es).length + ([] : List Keyword).length + (if ([] : List Keyword).isEmpty then 0 else 1) < 30)) = true := by rfl)
    (hline : (apos.endLine == cpos.line) = true := by rfl) (hs : starEach (e :: es) X.env = (false, eval e X.env) :: starEach es X.env := by rfl) (hplain : (backTo cpos (starEach es X.env)).any (·.1) = false := by rfl) :
    PE X (.Call (.Attribute o name apos) (e :: es) [] cpos) (tBMS r to t) :=
  (pe_bm PySem.F.plainAttrs_str slot hty hm ho ha hbase hfew hline hs hplain).imp fun σ H Q h => mono σ H _ _ (fun v H' q => ⟨q.1.ty, q.2⟩) h
theorem strsAre_of : ∀ {ys : List Str} {us : List Value}, Vals (ys.map V.str) us → StrsAre us ys
  | [], us, r => by rw [List.map_nil] at r; cases r; exact .nil
  | y :: ys, us, r => by
    rw [List.map_cons] at r
    cases r with
    | cons r1 r2 =>
      obtain ⟨t, rfl⟩ := r1
      exact .cons y t (strsAre_of r2)
def rJoinU : V → List V → Hp → VK → Prop := fun x vs H Q => match x, vs with
  | .str z, [.ref p] => ∃ ys : List Str, H p = some (.lst (ys.map V.str)) ∧ (ys.map (·.length)).sum + ys.length * z.length ≤ 16777216 ∧ Q (.str (Txt.join z ys)) H
  | _, _ => False
theorem mt_joinU : MtM X "str.join" rJoinU := by
  intro pins s σ H x vs v us Q I rx rv h
  unfold rJoinU at h
  split at h
  · rename_i z p
    obtain ⟨ys, e, hz, q⟩ := h
    obtain ⟨t, rfl⟩ := rx
    obtain ⟨u, rfl, ru⟩ := rv.one
    cases ru
    obtain ⟨its, rr, pl, _⟩ := I.list (SqL.of e)
    exact join_list pl.isList (by simpa using strsAre_of rr) hz fun t' k => ⟨.str _, H, I.tok k, ⟨_, rfl⟩, q⟩
  · exact h.elim
def cutS (z : Str) (lo hi : Option Int) : Str := ⟨((z.cps.toList.drop (HT.sIx z.length 0 lo)).take (HT.sIx z.length z.length hi - HT.sIx z.length 0 lo)).toArray⟩
theorem strIx_eq (lo hi : Option Int) (n : Nat) : Builtin.Str.strSliceIndices lo hi 1 n = (List.range (HT.sIx n n hi - HT.sIx n 0 lo)).map (HT.sIx n 0 lo + ·) := by
  rw [← sliceRange_one]
  unfold Builtin.Str.strSliceIndices
  have e1 : (match lo with | none => (if (1 : Int) > 0 then (0 : Int) else (n : Int) - 1) | some i => let i := if i < 0 then i + (n : Int) else i; if (1 : Int) > 0 then max 0 (min i (n : Int)) else max (-1) (min i ((n : Int) - 1))) = ((HT.sIx n 0 lo : Nat) : Int) := by
    cases lo with
    | none => simp [HT.sIx]
    | some v =>
      simp only [show (1 : Int) > 0 by decide, if_true, HT.sIx]
      by_cases h : v < 0
      · simp only [h, if_true]; omega
      · simp only [h, if_false]; omega
  have e2 : (match hi with | none => (if (1 : Int) > 0 then (n : Int) else -1) | some i => let i := if i < 0 then i + (n : Int) else i; if (1 : Int) > 0 then max 0 (min i (n : Int)) else max (-1) (min i ((n : Int) - 1))) = ((HT.sIx n n hi : Nat) : Int) := by
    cases hi with
    | none => simp [HT.sIx]
    | some v =>
      simp only [show (1 : Int) > 0 by decide, if_true, HT.sIx]
      by_cases h : v < 0
      · simp only [h, if_true]; omega
      · simp only [h, if_false]; omega
  have key : ∀ a b a' b' : Int, a = a' → b = b' → sliceRange a b 1 = sliceRange a' b' 1 := by
    intro a b a' b' h1 h2
    rw [h1, h2]
  exact key _ _ _ _ e1 e2
theorem cutS_eq (z : Str) (lo hi : Option Int) : Txt.slice z lo hi = cutS z lo hi := by
  have e : (Builtin.Str.strSliceIndices lo hi 1 z.length).filterMap (z.cps[·]?) = (z.cps.toList.drop (HT.sIx z.length 0 lo)).take (HT.sIx z.length z.length hi - HT.sIx z.length 0 lo) := by
    rw [strIx_eq, pick_run]
  unfold Txt.slice cutS
  split
  · rename_i h
    have h2 : ((Builtin.Str.strSliceIndices lo hi 1 z.length).length == z.length) = true := by simpa using h
    have h3 : (Builtin.Str.strSliceIndices lo hi 1 z.length).length = z.length := eq_of_beq h2
    rw [strIx_eq, List.length_map, List.length_range] at h3
    have hl : z.cps.toList.length = z.length := by simp [Str.length]
    have q : ((z.cps.toList.drop (HT.sIx z.length 0 lo)).take (HT.sIx z.length z.length hi - HT.sIx z.length 0 lo)) = z.cps.toList := by
      have hb : HT.sIx z.length z.length hi ≤ z.length := by
        cases hi with
        | none => exact Nat.le_refl _
        | some v => simp only [HT.sIx]; split <;> omega
      by_cases h0 : z.length = 0
      · have : z.cps.toList = [] := List.length_eq_zero_iff.mp (by omega)
        rw [this]; simp
      · have ha : HT.sIx z.length 0 lo = 0 := by omega
        rw [h3, ha, List.drop_zero]
        exact List.take_of_length_le (by omega)
    rw [q]
  · rw [e]
def rSlS : V → Option Int → Option Int → Hp → VK → Prop := fun x lo hi H Q => ∃ z, x = .str z ∧ z.length ≤ sizeLine ∧ Q (.str (cutS z lo hi)) H
theorem sl_str : SlR X rSlS := by
  intro pins s σ H x v vl vu lo hi sl Q I rx hs pl pu h
  obtain ⟨z, rfl, hz, q⟩ := h
  obtain ⟨t, rfl⟩ := rx
  have gen : ∀ (l u : Option (Int × Tok)), vl = partValue l → vu = partValue u → lo = l.map (·.1) → hi = u.map (·.1) →
      wpAny (model X.prog X.w) X.A (getItem (.str z t) (.ref sl)) (EP X pins σ Q) X.xe s := by
    intro l u e1 e2 e3 e4
    subst e1 e2 e3 e4
    refine wpAny_getItem_str_slice (l := l) (u := u) (st := none) hs (by rfl) ?_
    have e : (if ((((none : Option (Int × Tok)).map (·.1)).getD 1 == 1 && (slicePicked z l u none).length == z.length) = true) then z else ⟨((slicePicked z l u none).filterMap (z.cps[·]?)).toArray⟩) = cutS z (l.map (·.1)) (u.map (·.1)) := by
      rw [← cutS_eq]; rfl
    refine post_val_or_str ⟨?_, fun t' c => ⟨.str (cutS z (l.map (·.1)) (u.map (·.1))), H, I.tok c, ⟨t', congrArg (Value.str · t') e⟩, q⟩⟩
    rw [e, ← cutS_eq]
    exact Nat.le_trans (Txt.slice_le _ _ _) hz
  refine ⟨"str", _, F.slot_str_getitem.lookup, typeIs_str _ _ _, ?_⟩
  cases pl with
  | none => cases pu with
    | none => exact gen none none rfl rfl rfl rfl
    | int j tj => exact gen none (some (j, tj)) rfl rfl rfl rfl
  | int i ti => cases pu with
    | none => exact gen (some (i, ti)) none rfl rfl rfl rfl
    | int j tj => exact gen (some (i, ti)) (some (j, tj)) rfl rfl rfl rfl
def compChk (sc : Scope) (N : List Str) (scope : Scope) (Nc : List Str) (js : List (Option Nat)) : Bool :=
  (scope.kind == .function) && scope.names.all (fun y => !(y.2 == .cell)) && scope.names.all (fun y => !(y.2 == .local) || scope.names.lookup y.1 == some .local) &&
  scope.names.all (fun y => !(y.2 == .free) || ((sc.names.lookup y.1 == some .cell || sc.names.lookup y.1 == some .free) && !(scope.names.lookup y.1 == some .local))) && (js.length == Nc.length) &&
  (List.range js.length).all (fun i => match js[i]? with
    | some (some j) => (N[j]? == Nc[i]?) && (match Nc[i]? with | some x => scope.names.any (fun y => y.1 == x && y.2 == .free) | none => true)
    | _ => true)
theorem compOk_of {sc scope : Scope} {N Nc : List Str} {js : List (Option Nat)} (hd : compChk sc N scope Nc js = true) (hsc : X.env.scope = sc := by rfl) (hN : X.N = N := by rfl) : CompOk X scope Nc js := by
  simp only [compChk, Bool.and_eq_true, List.all_eq_true, Bool.or_eq_true, Bool.not_eq_true', beq_iff_eq, List.mem_range] at hd
  obtain ⟨⟨⟨⟨⟨h1, h2⟩, h3⟩, h4⟩, h5⟩, h6⟩ := hd
  have kk : ∀ x, X.env.kindOf x = sc.names.lookup x := fun x => by rw [← hsc]; rfl
  refine ⟨h1, fun y hy e => ?_, fun y hy e => ?_, fun y hy e => ?_, h5, fun x hx => ?_, fun i j x e1 e2 => ?_⟩
  · have := h2 y hy
    rw [e] at this; cases this
  · rcases h3 y hy with q | q
    · rw [e] at q; cases q
    · exact q
  · rcases h4 y hy with q | q
    · rw [e] at q; cases q
    · rw [kk]
      exact q.1
  · rcases h4 _ hx with q | q
    · cases q
    · intro z
      have q2 := q.2
      rw [z] at q2
      cases q2
  · have hi : i < js.length := (List.getElem?_eq_some_iff.mp e1).1
    have q := h6 i hi
    rw [e1, e2] at q
    simp only [Bool.and_eq_true, beq_iff_eq, List.any_eq_true] at q
    refine ⟨by rw [hN]; exact q.1, ?_⟩
    obtain ⟨y, hy, hy1, hy2⟩ := q.2
    obtain ⟨a, b⟩ := y
    simp only at hy1 hy2
    subst hy1 hy2
    exact hy
end
end L2
set_option Elab.async false
set_option linter.all false
set_option maxRecDepth 100000
set_option maxHeartbeats 4000000
namespace L2
open PySem PySem.Spec PyProof.Rows
section
variable {X : Cx}
end
end L2
set_option Elab.async false
set_option linter.all false
set_option maxRecDepth 100000
set_option maxHeartbeats 4000000
namespace L2
open PySem PySem.Spec PyProof.Rows
section
variable {X : Cx}
theorem vals_of {xs : List V} {us : List Value} (hl : xs.length = us.length) (h : ∀ (i : Nat) (x : V) (u : Value), xs[i]? = some x → us[i]? = some u → RelV x u) : Vals xs us := by
  induction xs generalizing us with
  | nil => cases us with
    | nil => exact .nil
    | cons _ _ => simp at hl
  | cons x xs ih => cases us with
    | nil => simp at hl
    | cons u us => exact .cons (h 0 x u rfl rfl) (ih (by simpa using hl) fun i a b e1 e2 => h (i + 1) a b (by simpa using e1) (by simpa using e2))
def rAddW : R2 := fun x y H Q => match x, y with
  | .int i, .int j => Q (.int (i + j)) H
  | .str i, .str j => i.length + j.length ≤ sizeLine ∧ Q (.str (i ++ j)) H
  | .ref l, .ref b => (∃ xs zs, lstOf (H l) = some xs ∧ lstOf (H b) = some zs ∧ xs.length + zs.length ≤ sizeLine ∧ ∀ p, H p = none → Q (.ref p) (upd H p (.lst (xs ++ zs)))) ∨
      (∃ xs zs, tupOf (H l) = some xs ∧ tupOf (H b) = some zs ∧ xs ≠ [] ∧ zs ≠ [] ∧ xs.length + zs.length ≤ sizeLine ∧ ∀ p, H p = none → Q (.ref p) (upd H p (.tup (xs ++ zs))))
  | _, _ => False
theorem op_addW : OpR X (binaryOp .Add) rAddW := by
  intro pins s σ H x y v u Q I rx ry h
  cases x with
  | int i => cases y with
    | int j => exact op_add pins s σ H _ _ v u Q I rx ry ⟨i, j, rfl, rfl, h⟩
    | _ => exact False.elim h
  | str i => cases y with
    | str j => exact op_add_str pins s σ H _ _ v u Q I rx ry ⟨i, j, rfl, rfl, h⟩
    | _ => exact False.elim h
  | ref l => cases y with
    | ref b =>
      rcases h with ⟨xs, zs, e1, e2, h⟩ | ⟨xs, zs, e1, e2, n1, n2, hz, h⟩
      · exact op_cat pins s σ H _ _ v u Q I rx ry ⟨l, b, xs, zs, rfl, rfl, of_lstOf e1, of_lstOf e2, h⟩
      · exact op_catT pins s σ H _ _ v u Q I rx ry ⟨l, b, xs, zs, rfl, rfl, SqT.of (of_tupOf e1), SqT.of (of_tupOf e2), n1, hz, fun z => absurd z n2, fun _ => h⟩
    | _ => exact False.elim h
  | _ => exact False.elim h
theorem rAddW_int (H : Hp) (Q : VK) (i j : Int) : rAddW (.int i) (.int j) H Q = (Q (.int (i + j)) H) := rfl
theorem rAddW_str (H : Hp) (Q : VK) (i j : Str) : rAddW (.str i) (.str j) H Q = (i.length + j.length ≤ sizeLine ∧ Q (.str (i ++ j)) H) := rfl
theorem rAddW.lst {H : Hp} {Q : VK} {l b : Addr} {xs zs : List V} (e1 : H l = some (.lst xs)) (e2 : H b = some (.lst zs)) (hz : xs.length + zs.length ≤ sizeLine)
    (h : ∀ p, H p = none → Q (.ref p) (upd H p (.lst (xs ++ zs)))) : rAddW (.ref l) (.ref b) H Q := .inl ⟨xs, zs, by rw [e1]; rfl, by rw [e2]; rfl, hz, h⟩
end
end L2
set_option Elab.async false
set_option linter.all false
set_option maxRecDepth 100000
set_option maxHeartbeats 4000000
namespace L2
open PySem PySem.Spec PyProof.Rows
section
variable {X : Cx} {pos : Pos} {k v : Expr} {tk tv : TE}
end
end L2
set_option Elab.async false
set_option linter.all false
set_option maxRecDepth 100000
set_option maxHeartbeats 4000000
namespace L2
open PySem PySem.Spec PyProof.Rows
section
variable {X : Cx}
def rSlU (K : PySem.W.Frag) : V → Option Int → Option Int → Hp → VK → Prop := fun x lo hi H Q => match x with
  | .str z => z.length ≤ sizeLine ∧ Q (.str (cutS z lo hi)) H
  | .ref a => (∃ xs, SqL K H a xs ∧ ∀ p, H p = none → Q (.ref p) (upd H p (.lst (cutV xs lo hi)))) ∨
      ∃ xs, SqT K H a xs ∧ ¬ (HT.sIx xs.length 0 lo = 0 ∧ HT.sIx xs.length xs.length hi = xs.length) ∧ ∀ p, H p = none → Q (.ref p) (upd H p (.tup (cutV xs lo hi)))
  | _ => False
theorem sl_U : SlR X (rSlU X.K) := by
  intro pins s σ H x v vl vu lo hi sl Q I rx hs pl pu h
  unfold rSlU at h
  split at h
  · rename_i z
    exact sl_str pins s σ H (.str z) v vl vu lo hi sl Q I rx hs pl pu ⟨z, rfl, h⟩
  · rename_i a
    rcases h with ⟨xs, hx, q⟩ | ⟨xs, hx, nw, q⟩
    · exact sl_list pins s σ H (.ref a) v vl vu lo hi sl Q I rx hs pl pu ⟨a, xs, rfl, hx, q⟩
    · exact sl_tup pins s σ H (.ref a) v vl vu lo hi sl Q I rx hs pl pu ⟨a, xs, rfl, hx, nw, q⟩
  · exact h.elim
theorem rSlU_str (K : PySem.W.Frag) (H : Hp) (Q : VK) (z : Str) (lo hi : Option Int) : rSlU K (.str z) lo hi H Q = (z.length ≤ sizeLine ∧ Q (.str (cutS z lo hi)) H) := rfl
theorem rSlU.tup {K : PySem.W.Frag} {H : Hp} {Q : VK} {a : Addr} {xs : List V} {lo hi : Option Int} (e : H a = some (.tup xs)) (nw : ¬ (HT.sIx xs.length 0 lo = 0 ∧ HT.sIx xs.length xs.length hi = xs.length)) (h : ∀ p, H p = none → Q (.ref p) (upd H p (.tup (cutV xs lo hi)))) : rSlU K (.ref a) lo hi H Q := .inr ⟨xs, SqT.of e, nw, h⟩
end
end L2
set_option Elab.async false
set_option linter.all false
set_option maxRecDepth 100000
set_option maxHeartbeats 4000000
namespace L2
open PySem PySem.Spec PyProof.Rows
section
variable {X : Cx}
def hasS (z y : Str) : Bool := !(Builtin.Str.occurrences z y 0 z.length 1).isEmpty
def rInU (K : PySem.W.Frag) (neg : Bool) : R2 := fun x y H Q => match x, y with
  | .str i, .str j => Q (.bl (if neg then !hasS j i else hasS j i)) H
  | x, .ref p => ∃ xs, (SqL K H p xs ∨ SqT K H p xs) ∧ flatV x = true ∧ xs.all flatV = true ∧ Q (.bl (if neg then !inV x xs else inV x xs)) H
  | _, _ => False
theorem rInU_str (K : PySem.W.Frag) (neg : Bool) (H : Hp) (Q : VK) (i j : Str) : rInU K neg (.str i) (.str j) H Q = Q (.bl (if neg then !hasS j i else hasS j i)) H := rfl
theorem op_inU {K : PySem.W.Frag} (hK : X.K = K) : OpR X (compareOp .In) (rInU K false) := by
  subst hK
  intro pins s σ H x y v u Q I rx ry h
  unfold rInU at h
  split at h
  · rename_i i j
    exact op_in_str pins s σ H _ _ v u Q I rx ry ⟨i, j, rfl, rfl, h⟩
  · rename_i p
    obtain ⟨xs, h⟩ := h
    exact op_in_seq pins s σ H _ _ v u Q I rx ry ⟨p, xs, rfl, h⟩
  · exact h.elim
theorem rInU.tupS {K : PySem.W.Frag} {neg : Bool} {H : Hp} {Q : VK} {x : V} {p : Addr} {xs : List V} (e : SqT K H p xs) (fx : flatV x = true) (fs : xs.all flatV = true) (q : Q (.bl (if neg then !inV x xs else inV x xs)) H) : rInU K neg x (.ref p) H Q := by
  cases x <;> exact ⟨xs, .inr e, fx, fs, q⟩
theorem kept_it {s : Shared} {h' : Heap} {o : Obj} (hk : ∀ b x, b ∉ [s.heap.objs.size] → (s.heap.push o).get? b = some x → h'.get? b = some x) : ∀ b x, s.heap.get? b = some x → h'.get? b = some x :=
  fun b x e => hk b x (fun hm => by rw [List.mem_singleton.mp hm] at e; exact Nat.lt_irrefl _ (Heap.lt_size e)) (Heap.get?_push_of_some _ e)
end
end L2
set_option Elab.async false
set_option linter.all false
set_option maxRecDepth 100000
set_option maxHeartbeats 4000000
namespace L2
open PySem PySem.Spec PyProof.Rows
theorem upd_D {H : Hp} {D : Addr} {a b : HO} : upd (upd H D a) D b = upd H D b := upd_upd
section
variable {D : Addr} {te : TE} {E : Ends} {r : L2.St} {H : Hp}
theorem comp_list {K : PySem.W.Frag} {a : Addr} {xs : List V} (f : V → V) (ha : H a = some (.lst xs)) (hD : H D = none) (hz : xs.length ≤ sizeLine) (he : ∀ x ∈ xs, ∀ l Q, Q (f x) (upd H D (.lst l)) → te (some x :: r) (upd H D (.lst l)) Q)
    (hn : ∀ v, E.nx (v :: r) (upd H D (.lst (xs.map f)))) : LoopR (Itl K a) (gName 0) (tEmit D te) E (none :: r) (upd H D (.lst [])) := by
  have ne : a ≠ D := ne_of_none ha hD
  refine loop_list (xs := xs) (fun i σ H' => ∃ v : Option V, σ = v :: r ∧ H' = upd H D (.lst ((xs.take i).map f))) ⟨none, rfl, rfl⟩ ?_ ?_ ?_
  · rintro i σ H' _ ⟨v, _, rfl⟩
    rw [upd_ne ne]; exact ha
  · rintro i x σ H' hx ⟨v, rfl, rfl⟩
    have hl : i < xs.length := (List.getElem?_eq_some_iff.mp hx).1
    refine he x (List.mem_of_getElem? hx) _ _ ⟨_, by rw [upd_same]; rfl, by simp; omega, some x, rfl, ?_⟩
    rw [upd_D, List.take_succ, hx]
    simp
  · rintro σ H' ⟨v, rfl, rfl⟩
    rw [List.take_of_length_le (Nat.le_refl _)]
    exact hn v
end
end L2
set_option Elab.async false
set_option linter.all false
set_option maxRecDepth 100000
set_option maxHeartbeats 4000000
set_option autoImplicit true
set_option relaxedAutoImplicit true
namespace L2
open PySem PySem.Spec PyProof.Rows
structure QE (X : Cx) (e : Expr) (t : TE) : Prop where
  h : PE X e t
structure QT (X : Cx) (e : Expr) (t : TT) : Prop where
  h : PT X e t
structure QW (X : Cx) (e : Expr) (t : TT) : Prop where
  h : PW X e t
structure QA (X : Cx) (es : List Expr) (t : TA) : Prop where
  h : PA X es t
structure QS (X : Cx) (st : Stmt) (t : TS) : Prop where
  h : PS X st t
structure QSs (X : Cx) (st : List Stmt) (t : TS) : Prop where
  h : PSs X st t
structure QG (X : Cx) (e : Expr) (t : TG) : Prop where
  h : PG X e t
structure QI (X : Cx) (tg iter : Expr) (wi : TI) : Prop where
  h : PI X tg iter wi
structure QO (X : Cx) (e : Option Expr) (t : TO) : Prop where
  h : PO X e t
structure QC (X : Cx) (op : CmpOp) (a b : Expr) (t : TE) : Prop where
  h : PC X op a b t
theorem qpss_nil : QSs X [] tNext := ⟨pss_nil⟩
theorem qpss_one (h1 : QS X stm t) : QSs X [stm] t := ⟨pss_one h1.h⟩
theorem qpss_cons (h1 : QS X stm t) (h2 : QSs X rst u) : QSs X (stm :: rst) (tSeq t u) := ⟨pss_cons h1.h h2.h⟩
theorem qpv (i : Nat) {x : Str} {pos : Pos} (hN : X.N[i]? = some x := by rfl) (hv : Vis X.env.scope x := by first | exact Or.inl rfl | exact Or.inr (Or.inl rfl) | exact Or.inr (Or.inr rfl))
    (hd : (x == ("__debug__" : Str)) = false := by decide) (hcd : (x == ("__classdict__" : Str)) = false := by decide) : QE X (.Name x pos) (tVar i) := ⟨pv i hN hv hd hcd⟩
theorem qpe_int : QE X (.Constant (.int i) j pos) (tC (.int i)) := ⟨pe_int⟩
theorem qpe_bl : QE X (.Constant (.bool b) j pos) (tC (.bl b)) := ⟨pe_bl⟩
theorem qpe_non : QE X (.Constant .none j pos) (tC .non) := ⟨pe_non⟩
theorem qpe_str : QE X (.Constant (.str x) j pos) (tC (.str x)) := ⟨pe_str⟩
theorem qpe_glob {x : Str} {v : V} {u : Value} {pos : Pos} (hg : Gl X x) (hm : X.mg x = some u) (r : RelV v u) (hd : (x == ("__debug__" : Str)) = false := by decide) : QE X (.Name x pos) (tC v) := ⟨pe_glob hg hm r hd⟩
theorem qpe_bltn {x : Str} {v : V} {u : Value} {pos : Pos} (hg : Gl X x) (hm : X.mg x = none) (hv : bootBuiltins x = some u) (r : RelV v u) (hn : x ≠ "__name__" := by decide) (hd : (x == ("__debug__" : Str)) = false := by decide) :
    QE X (.Name x pos) (tC v) := ⟨pe_bltn hg hm hv r hn hd⟩
theorem qpe_op (ho : OpR X (binaryOp op) r) (ha : QE X a ta) (hb : QE X b tb) : QE X (.BinOp a op b pos) (tOp r ta tb) := ⟨pe_op ho ha.h hb.h⟩
theorem qpe_un (ho : UnR X (unaryOp op) r) (ha : QE X a ta) : QE X (.UnaryOp op a pos) (tUn r ta) := ⟨pe_un ho ha.h⟩
theorem qpe_cmpR (ho : OpR X (compareOp op) r) (ha : QE X a ta) (hb : QE X b tb) (hm : behindInMarks op b = false) : QE X (.Compare a [op] [b] pos) (tOp r ta tb) := ⟨pe_cmpR ho ha.h hb.h hm⟩
theorem qpt_cmpR (ho : OpR X (compareOp op) r) (ha : QE X a ta) (hb : QE X b tb) (hm : behindInMarks op b = false) : QT X (.Compare a [op] [b] pos) (tTest (tOp r ta tb)) := ⟨pt_cmpR ho ha.h hb.h hm⟩
theorem qpe_cmp (h : QC X op a b t) (h1 : behindInMarks op b = false := by first | exact nobehind _ (by decide) (by decide) | rfl) : QE X (.Compare a [op] [b] pos) t := ⟨pe_cmp h.h h1⟩
theorem qpt_cmp (h : QC X op a b t) (h1 : behindInMarks op b = false := by first | exact nobehind _ (by decide) (by decide) | rfl) : QT X (.Compare a [op] [b] pos) (tB t) := ⟨pt_cmp h.h h1⟩
theorem qpc_din (hu : X.A.units + 1 < cLine) (hi : QE X i ty) (ho : QE X o td) : QC X .In i o (tDIn ty td) := ⟨pc_din hu hi.h ho.h⟩
theorem qpt_not (ha : QT X a tA) : QT X (.UnaryOp .Not a pos) (tNot tA) := ⟨pt_not ha.h⟩
theorem QW.pt (h : QW X e t) : QT X e t := ⟨PW.pt h.h⟩
theorem qpw_and (ha : QT X a tA) (hb : QW X (.BoolOp .And (b :: rst) pos) tB') : QW X (.BoolOp .And (a :: b :: rst) pos) (tAnd tA tB') := ⟨pw_and ha.h hb.h⟩
theorem qpw_or (ha : QT X a tA) (hb : QW X (.BoolOp .Or (b :: rst) pos) tB') : QW X (.BoolOp .Or (a :: b :: rst) pos) (tOr tA tB') := ⟨pw_or ha.h hb.h⟩
theorem qpw_and1 (ha : QT X a tA) : QW X (.BoolOp .And [a] pos) tA := ⟨pw_and1 ha.h⟩
theorem qpw_or1 (ha : QT X a tA) : QW X (.BoolOp .Or [a] pos) tA := ⟨pw_or1 ha.h⟩
theorem qpt_val {e : Expr} (h : QE X e t) (he : ∀ whole, isTrue e X.env whole = (do let v ← whole; standAt e.pos; holding [v] (truthy v)) := by intro _; rfl) : QT X e (tB t) := ⟨pt_val h.h he⟩
theorem qpe_one (h : QE X a t) : QE X (.BoolOp op [a] pos) t := ⟨pe_one h.h⟩
theorem qpe_and (ha : QE X a ta) (hb : QE X (.BoolOp .And (b :: rst) pos) tb) : QE X (.BoolOp .And (a :: b :: rst) pos) (tAndV ta tb) := ⟨pe_and ha.h hb.h⟩
theorem qpe_or (ha : QE X a ta) (hb : QE X (.BoolOp .Or (b :: rst) pos) tb) : QE X (.BoolOp .Or (a :: b :: rst) pos) (tOrV ta tb) := ⟨pe_or ha.h hb.h⟩
theorem qpe_ifExp (hc : QT X c tA) (ha : QE X a ta) (hb : QE X b tb) : QE X (.IfExp c a b pos) (tIf tA ta tb) := ⟨pe_ifExp hc.h ha.h hb.h⟩
theorem qpe_lst (h : QA X es t) : QE X (.List es pos) (tLst t) := ⟨pe_lst h.h⟩
theorem qpe_tup (h : QA X es t) : QE X (.Tuple es x1 pos) (tTup t) := ⟨pe_tup h.h⟩
theorem qpe_slice (hr : SlR X r) (he : QE X e te) (hl : QO X lw tl) (hu : QO X hi th) : QE X (.Subscript e (.Slice lw hi none p2) pos) (tSl r te tl th) := ⟨pe_slice hr he.h hl.h hu.h⟩
theorem qpo_none : QO X none tNoPart := ⟨po_none⟩
theorem qpo_some (h : QE X e te) : QO X (some e) (tPart te) := ⟨po_some h.h⟩
theorem qpe_ix (hr : IxR X r) (ha : QE X a ta) (hb : QE X b tb) (hs : PlainIx b) : QE X (.Subscript a b pos) (tOp r ta tb) := ⟨pe_ix hr ha.h hb.h hs⟩
theorem qpe_comp (hc : X.calm = true) (c : CompOk X scope Nc js) (hi : QI X tg iter wi) (hg : ∀ C s3 H3 fp, QG (X.comp scope C Nc s3 H3 fp) tg g) (he : ∀ C s3 H3 fp, QE (X.comp scope C Nc s3 H3 fp) elt te)
    (hs : ∀ x, foldedSetIterable iter X.env x = pure x := by intro _; rfl) : QE X (.ListComp elt [⟨tg, iter, [], 0⟩] scope pos) (tComp wi g js te) := ⟨pe_comp hc c hi.h (fun C s H f => (hg C s H f).h) (fun C s H f => (he C s H f).h) hs⟩
theorem qpe_call (F : FnOk X.prog X.w X.K X.mg X.base CX k f fd ps sp) (hr : Room k X.A) (hg : Gl X x) (hm : X.mg x = some (.ref f)) (hk : PySem.W.keepIn X.K (.ref f) = true) (hb : Binds X.K fd ps ds) (hd : Vals dvs ds) (hx : Passes CX X E)
    (ha : QA X (e :: es) t) (hdb : (x == ("__debug__" : Str)) = false := by decide) (he : starEach (e :: es) X.env = (false, eval e X.env) :: starEach es X.env := by rfl) (hpl : (backTo pos (starEach es X.env)).any (·.1) = false := by rfl) :
    QE X (.Call (.Name x p) (e :: es) [] pos) (tCall sp dvs E t) := ⟨pe_call F hr hg hm hk hb hd hx ha.h hdb he hpl⟩
theorem qpe_callTy (hc : CallR X (.type T) r) (hg : Gl X x) (hm : X.mg x = none) (hv : bootBuiltins x = some (.type T)) (ha : QA X (e :: es) t) (hn : x ≠ "__name__" := by decide) (hdb : (x == ("__debug__" : Str)) = false := by decide)
    (he : starEach (e :: es) X.env = (false, eval e X.env) :: starEach es X.env := by rfl) (hpl : (backTo pos (starEach es X.env)).any (·.1) = false := by rfl) : QE X (.Call (.Name x p) (e :: es) [] pos) (tCB r t) := ⟨pe_callTy hc hg hm hv ha.h hn hdb he hpl⟩
theorem qpe_callB (hc : CallR X (.builtin idn) r) (hg : Gl X x) (hm : X.mg x = none) (hv : bootBuiltins x = some (.builtin idn)) (ha : QA X (e :: es) t) (hn : x ≠ "__name__" := by decide) (hdb : (x == ("__debug__" : Str)) = false := by decide)
    (he : starEach (e :: es) X.env = (false, eval e X.env) :: starEach es X.env := by rfl) (hpl : (backTo pos (starEach es X.env)).any (·.1) = false := by rfl) : QE X (.Call (.Name x p) (e :: es) [] pos) (tCB r t) := ⟨pe_callB hc hg hm hv ha.h hn hdb he hpl⟩
theorem qpe_bmL (slot : Slot "list" name idn) (hty : typeOf (.builtin idn) = pure (.type "method_descriptor")) (hm : MtM X idn r) (ho : QE X o to) (ha : QA X (e :: es) t) (mono : ∀ σ H Q Q', (∀ v H', Q v H' → Q' v H') → to σ H Q → to σ H Q')
    (hbase : attributeBase o name X.env (eval o X.env) = eval o X.env := by rfl)
    (hfew : ((backTo cpos (starEach (e :: es) X.env)).all (fun x => !x.1) && (backToKw cpos (keywordEach [] X.env)).all (fun x => x.1.isSome)
      && decide ((e :: es).length + ([] : List Keyword).length + (if ([] : List Keyword).isEmpty then 0 else 1) < 30)) = true := by rfl)
    (hline : (apos.endLine == cpos.line) = true := by rfl) (hs : starEach (e :: es) X.env = (false, eval e X.env) :: starEach es X.env := by rfl) (hplain : (backTo cpos (starEach es X.env)).any (·.1) = false := by rfl) :
    QE X (.Call (.Attribute o name apos) (e :: es) [] cpos) (tBML r to t) := ⟨pe_bmL slot hty hm ho.h ha.h mono hbase hfew hline hs hplain⟩
theorem qpe_bmS (slot : Slot "str" name idn) (hty : typeOf (.builtin idn) = pure (.type "method_descriptor")) (hm : MtM X idn r) (ho : QE X o to) (ha : QA X (e :: es) t) (mono : ∀ σ H Q Q', (∀ v H', Q v H' → Q' v H') → to σ H Q → to σ H Q')
    (hbase : attributeBase o name X.env (eval o X.env) = eval o X.env := by rfl)
    (hfew : ((backTo cpos (starEach (e :: es) X.env)).all (fun x => !x.1) && (backToKw cpos (keywordEach [] X.env)).all (fun x => x.1.isSome)
      && decide ((e :: es).length + ([] : List Keyword).length + (if ([] : List Keyword).isEmpty then 0 else 1) < 30)) = true := by rfl)
    (hline : (apos.endLine == cpos.line) = true := by rfl) (hs : starEach (e :: es) X.env = (false, eval e X.env) :: starEach es X.env := by rfl) (hplain : (backTo cpos (starEach es X.env)).any (·.1) = false := by rfl) :
    QE X (.Call (.Attribute o name apos) (e :: es) [] cpos) (tBMS r to t) := ⟨pe_bmS slot hty hm ho.h ha.h mono hbase hfew hline hs hplain⟩
theorem qpe_bmL0 (slot : Slot "list" name idn) (hty : typeOf (.builtin idn) = pure (.type "method_descriptor")) (hm : MtM X idn r) (ho : QE X o to) (mono : ∀ σ H Q Q', (∀ v H', Q v H' → Q' v H') → to σ H Q → to σ H Q')
    (hbase : attributeBase o name X.env (eval o X.env) = eval o X.env := by rfl) (hline : (apos.endLine == cpos.line) = true := by rfl) : QE X (.Call (.Attribute o name apos) [] [] cpos) (tBML0 r to) := ⟨pe_bmL0 slot hty hm ho.h mono hbase hline⟩
theorem qpa_nil : QA X [] tNil := ⟨pa_nil⟩
theorem qpa_cons (ha : QE X e te) (hr : QA X es t) (hs : starEach (e :: es) X.env = (false, eval e X.env) :: starEach es X.env := by rfl) : QA X (e :: es) (tCons te t) := ⟨pa_cons ha.h hr.h hs⟩
theorem qpg_name {i : Nat} {x : Str} (hN : X.N.Nodup) (hi : X.N[i]? = some x) (hx : Loc X.env.scope x) (hf : X.fn x = true ∨ X.env.scope.names.lookup x = some .local := by first | exact .inl rfl | exact .inr rfl | assumption) : QG X (.Name x pos) (gName i) := ⟨pg_name hN hi hx hf⟩
theorem qpg_sub {o i : Expr} (ho : QE X o to) (hi : QE X i ti) (hs : PSet X t)
    (ha : ∀ v, assign (.Subscript o i pos) X.env v = (do
      let ov ← holding [v] (eval o X.env)
      let iv ← holding [v, ov] (eval i X.env)
      standAt pos
      holding [v, ov, iv] (setItem ov iv v)
      release [v, ov, iv] []) := by intro _; rfl) : QG X (.Subscript o i pos) (gSub to ti t) := ⟨pg_sub ho.h hi.h hs ha⟩
theorem qps_set {i : Nat} {x : Str} {e : Expr} {te : TE} {pos' : Pos} (hN : X.N.Nodup) (hi : X.N[i]? = some x) (hx : Loc X.env.scope x) (he : QE X e te) (hs : swapsWith e (some (.Name x pos')) pos.line X.env = pure false := by rfl)
    (hf : X.fn x = true ∨ X.env.scope.names.lookup x = some .local := by first | exact .inl rfl | exact .inr rfl | assumption) : QS X (.Assign [.Name x pos'] e pos) (tAsg te (gName i)) := ⟨ps_set hN hi hx he.h hs hf⟩
theorem qps_asg {tg e : Expr} (he : QE X e te) (hg : QG X tg g) (hs : swapsWithSole [tg] e pos.line X.env = pure false := by rfl) (hw : swappedStores [tg] e X.env = pure none := by rfl)
    (h1 : (assignEach [tg] X.env).map (·.2) = [assign tg X.env] := by rfl) : QS X (.Assign [tg] e pos) (tAsg te g) := ⟨ps_asg he.h hg.h hs hw h1⟩
theorem qps_dput (hu : X.A.units + 1 < cLine) (ho : QE X o td) (hi : QE X i ty) (hv : QE X value tv) (hs : swapsWith value (some (.Subscript o i pos')) pos.line X.env = pure false) :
    QS X (.Assign [.Subscript o i pos'] value pos) (sDPut td ty tv) := ⟨ps_dput hu ho.h hi.h hv.h hs⟩
theorem qps_ret (he : QE X e te) : QS X (.Return (some e) pos) (tRet te) := ⟨ps_ret he.h⟩
theorem qps_expr (he : QE X e te) (hs : swapsWith e none pos.line X.env = pure false := by rfl) : QS X (.Expr e pos) (tDrop te) := ⟨ps_expr he.h hs⟩
theorem qps_if (hc : QT X c tc) (ha : QSs X a t) (hb : QSs X b u) : QS X (.If c a b pos) (tIfS tc t u) := ⟨ps_if hc.h ha.h hb.h⟩
theorem qps_for {iter : Expr} (hp : PassesOwn (model X.prog X.w) X.A X.env X.xe) (hc : X.calm = true) (hi : QI X tg iter wi) (hg : QG X tg g) (hb : QSs X body tb) (hs : ∀ x, foldedSetIterable iter X.env x = pure x := by intro _; rfl) :
    QS X (.For tg iter body [] pos) (tFor wi g tb) := ⟨ps_for hp hc hi.h hg.h hb.h hs⟩
theorem qps_while (hp : PassesOwn (model X.prog X.w) X.A X.env X.xe) (hc : QT X c tc) (hb : QSs X body tb) : QS X (.While c body [] pos) (tWhile tc tb) := ⟨ps_while hp hc.h hb.h⟩
theorem qpi_range1 {a : Expr} {ta : TA} {p pos : Pos} (hg : Gl X "range") (hm : X.mg "range" = none) (ha : QA X [a] ta) (hs : starEach [a] X.env = [(false, eval a X.env)] := by rfl) : QI X tg (.Call (.Name "range" p) [a] [] pos) (iRng1 ta) := ⟨pi_range1 hg hm ha.h hs⟩
theorem qpi_any {K : PySem.W.Frag} (hl : QE X l tl) (hK : X.K = K) : QI X tg l (iAny K tl) := by subst hK; exact ⟨pi_any hl.h⟩
end L2
set_option Elab.async false
set_option linter.all false
set_option maxRecDepth 100000
set_option maxHeartbeats 4000000
namespace L2
open PySem PySem.Spec PyProof.Rows
def tEmitIf (D : Addr) (tt : TT) (te : TE) : TS := fun E σ H => tt σ H fun b H1 => if b = true then tEmit D te E σ H1 else E.nx σ H1
def tCompIf (wi : TI) (g : TG) (js : List (Option Nat)) (tt : TT) (te : TE) : TE := fun σ H Q => wi σ H fun J H1 => ∀ D, H1 D = none →
  LoopR J g (tEmitIf D tt te) { nx := fun _ H' => Q (.ref D) H', rt := fun _ _ => False } (compSt js σ) (upd H1 D (.lst []))
theorem compTurn_if1 (elt target iter cd : Expr) (scope : Scope) (pos : Pos) (it acc : Value) (env : Env) :
    compTurn (.ListComp elt [⟨target, iter, [cd], 0⟩] scope pos) 0 it acc env = (standAt iter.pos >>= fun _ => pyNext it >>= fun r => match r with
      | none => pure (.done .next)
      | some v => letOwnedTupleGo target it v >>= fun _ => assign target env v >>= fun _ =>
        (forIn [cd] true fun c ok => if ok = true then (isTrue c env (eval c env) >>= fun b => pure (ForInStep.yield b)) else pure (ForInStep.yield ok)) >>= fun ok =>
        if ok = true then ((eval elt env >>= fun x => call (.builtin "list.append") [acc, x] >>= fun _ => pure ()) >>= fun _ => again (.compLoop (.ListComp elt [⟨target, iter, [cd], 0⟩] scope pos) 0 it acc env))
        else again (.compLoop (.ListComp elt [⟨target, iter, [cd], 0⟩] scope pos) 0 it acc env)) := by rfl
section
variable {X : Cx} {scope : Scope} {Nc : List Str} {js : List (Option Nat)} {elt tg iter cd : Expr} {pos : Pos} {wi : TI} {g : TG} {te : TE} {tt : TT}
theorem comp_coreIf (hc : X.calm = true) (c : CompOk X scope Nc js) (hi : PI X tg iter wi) (hg : ∀ C s3 H3 fp, PG (X.comp scope C Nc s3 H3 fp) tg g) (ht : ∀ C s3 H3 fp, PT (X.comp scope C Nc s3 H3 fp) cd tt) (he : ∀ C s3 H3 fp, PE (X.comp scope C Nc s3 H3 fp) elt te)
    {pins : List (Addr × Obj)} {s : Shared} {σ : L2.St} {H : Hp} (I : Inv X pins σ H s) {RR : Value → Addr → Result → Shared → Prop} {NX : Addr → Hp → Prop}
    (h : wi σ H fun J H1 => ∀ D, H1 D = none → LoopR J g (tEmitIf D tt te) { nx := fun _ H' => NX D H', rt := fun _ _ => False } (compSt js σ) (upd H1 D (.lst [])))
    (fin : ∀ D H3 s3 fp σ5 H5 s6, Inv X pins σ H3 s3 → (∀ b ∈ fp, FpOk X pins H3 b) → Inv (X.comp scope s3.heap.objs.size Nc s3 H3 fp) [] σ5 H5 s6 → NX D H5 → RR (.ref D) s3.heap.objs.size (.ok .next) s6) :
    wpAny (model X.prog X.w) X.A (eval iter X.env) (fun x s₁ => wpAny (model X.prog X.w) X.A (pyIter x) (fun it s₂ => wpAny (model X.prog X.w) X.A (newList []) (fun acc s₃ =>
      wpAny (model X.prog X.w) X.A (newFunctionEnv scope X.env.globals (clOf X.env scope.names []) [] X.env.qual none .none (some X.env)) (fun cenv s₄ =>
        codeAny (model X.prog X.w) X.A (.compStart (.ListComp elt [⟨tg, iter, [cd], 0⟩] scope pos) 0 it acc { cenv with scope := relabel scope X.env }) (RR acc cenv.locals) s₄) X.xe s₃) X.xe s₂) X.xe s₁) X.xe s := by
  refine thn (hi pins s σ H _ I h) fun v s1 h1 => thn h1 fun itv s2 h2 => ?_
  obtain ⟨it, fp, tn, J, H2, rfl, I2, T, st2, f2, h2⟩ := h2
  -- the list
  refine wpAny_newObj_type ?_ (by show 0 ≤ sizeLine; decide)
  have hD : H2 s2.heap.objs.size = none := I2.hok.fresh (Nat.le_refl _)
  have I3 : Inv X pins σ (upd H2 s2.heap.objs.size (.lst [])) { s2 with heap := s2.heap.push { cls := .type "list", data := .seq ([] : List Value).toArray } } :=
    I2.laid (t' := s2.toks) (fun b u e => Heap.get?_push_of_some _ e) (Nat.le_refl _) ⟨by show 0 ≤ sizeLine; decide, [], 0, .nil, Heap.get?_push_size _ rfl⟩
  have f3 : ∀ b ∈ fp, FpOk X pins (upd H2 s2.heap.objs.size (.lst [])) b := fun b hb => by
    obtain ⟨q0, q⟩ := f2 b hb
    obtain ⟨o, e, _⟩ := T.obj _ _ st2 b hb
    exact ⟨by rw [upd_ne (Nat.ne_of_lt (Heap.lt_size e))]; exact q0, q⟩
  have o3 : ∀ b ∈ fp, ∃ o, (s2.heap.push { cls := .type "list", data := .seq ([] : List Value).toArray }).get? b = some o := fun b hb => by
    obtain ⟨o, e, _⟩ := T.obj _ _ st2 b hb
    exact ⟨o, Heap.get?_push_of_some _ e⟩
  have st3 : tn 0 (s2.heap.push { cls := .type "list", data := .seq ([] : List Value).toArray }) := T.keep _ _ _ st2 fun b _ o e => Heap.get?_push_of_some _ e
  generalize hh3 : s2.heap.push { cls := .type "list", data := .seq ([] : List Value).toArray } = h3 at I3 o3 st3 ⊢
  refine wpAny_newFunctionEnv c.nocell (by intro y hy; simp at hy) (fun h4 hn4 hs4 => ?_) c.kind
  have k4 : ∀ b o, h3.get? b = some o → h4.get? b = some o := fun b o e => (hs4.2 b (Nat.ne_of_lt (Heap.lt_size e))).trans (Heap.get?_push_of_some _ e)
  have I4 := comp_inv (tk := s2.toks + ([] : List (Str × Value)).length) c I3 f3 o3 hn4 k4
  have st4 : tn 0 h4 := T.keep _ _ _ st3 fun b _ o e => k4 b o e
  obtain ⟨W, ⟨m0, w0⟩, turn⟩ := h2 _ hD
  let s3 : Shared := { s2 with heap := h3 }
  let Y : Cx := X.comp scope h3.objs.size Nc s3 (upd H2 s2.heap.objs.size (.lst [])) fp
  have stat : ∀ {H' : Hp}, (∀ b ∈ fp, H' b = none) → ∀ b ∈ fp, FpOk Y [] H' b := fun hn b hb => ⟨hn b hb, (I4.ok.exf b hb).1, I4.ok.exfs b hb, .inl hb, (I4.ok.exf b hb).2, (fun p hp => nomatch hp)⟩
  have loop : codeAny (model X.prog X.w) X.A (.compLoop (.ListComp elt [⟨tg, iter, [cd], 0⟩] scope pos) 0 (.ref it) (.ref s2.heap.objs.size) Y.env)
      (RR (.ref s2.heap.objs.size) h3.objs.size) { s2 with heap := h4, toks := s2.toks + ([] : List (Str × Value)).length } := by
    refine codeAny_loop rfl (fun n s' => ∃ i σ' H', Inv Y [] σ' H' s' ∧ tn i s'.heap ∧ (∀ b ∈ fp, H' b = none) ∧ W i n σ' H') (fun n s5 hI => ?_) m0 ⟨0, _, _, I4, st4, fun b hb => (f3 b hb).1, w0⟩
    obtain ⟨i, σ5, H5, I5, st5, fr5, w5⟩ := hI
    show wpAny _ X.A ((compTurn (.ListComp elt [⟨tg, iter, [cd], 0⟩] scope pos) 0 (.ref it) (.ref s2.heap.objs.size) Y.env).onRaise (fun x => do noteFrame x Y.env; theTreesLotGoes x)) _ _ s5
    refine wpAny_noted (wpAny_mono (E := fun _ _ => False) ?_ (fun _ _ q => q) fun _ _ z => z.elim)
    rw [compTurn_if1]
    refine wpAny_bind (wpAny_standAt (wpAny_bind ?_))
    rcases turn i n σ5 H5 w5 with ⟨stop, qn⟩ | ⟨go, N, hN, step⟩
    · refine thn (T.done Y rfl rfl rfl hc i [] s5 σ5 H5 _ I5 (stat fr5) st5 stop) fun r s6 ⟨hr, I6⟩ => ?_
      subst hr
      refine wpAny_pure ?_
      exact fin _ _ s3 fp σ5 H5 s6 I3 f3 I6 qn
    · refine thn (T.item Y rfl rfl rfl hc i [] s5 σ5 H5 _ I5 (stat fr5) st5 go) fun r s6 ⟨u, hr, h6⟩ => ?_
      subst hr
      refine wpAny_bind (thn h6 fun _ s7 ⟨x, H7, I7, r7, y7, st7, fr7⟩ => ?_)
      have I7' := I7.pinned (stat fr7) (T.obj _ _ st7)
      refine wpAny_bind (thn (hg _ _ _ _ _ s7 σ5 H7 x u _ I7' r7 (step x H7 y7)) fun _ s8 ⟨σ8, H8, I8, q8⟩ => ?_)
      have fin2 : ∀ {H' : Hp} {s' : Shared}, Inv Y ([] ++ pinsAt fp s7.heap) σ8 H' s' → N σ8 H' → ∃ m, m < n ∧ ∃ i σ1 H1, Inv Y [] σ1 H1 s' ∧ tn i s'.heap ∧ (∀ b ∈ fp, H1 b = none) ∧ W i m σ1 H1 := fun {H'} {s'} I10 n10 => by
        obtain ⟨m', hm, w10⟩ := hN σ8 H' n10
        refine ⟨m', hm, i + 1, σ8, H', I10.unpinned, T.keep _ _ _ st7 fun b hb o e => (I10.pin (b, o) (List.mem_append_right _ (List.mem_append_right _ (mem_pinsAt hb e)))).1, fun b hb => ?_, w10⟩
        obtain ⟨o, e, d⟩ := T.obj _ _ st7 b hb
        exact (I10.pin (b, o) (List.mem_append_right _ (List.mem_append_right _ (mem_pinsAt hb e)))).2.1
      rw [List.forIn_cons, if_pos rfl]
      refine wpAny_bind (wpAny_bind (wpAny_bind (thn (ht _ _ _ _ _ s8 σ8 H8 _ I8 q8) fun ok s9 ⟨H9, I9, q9⟩ => wpAny_pure ?_)))
      simp only [List.forIn_nil]
      refine wpAny_pure ?_
      cases ok with
      | false =>
        simp only [Bool.false_eq_true, if_false] at q9 ⊢
        exact wpAny_pure ⟨rfl, fin2 I9 q9⟩
      | true =>
        simp only [if_true] at q9 ⊢
        refine wpAny_bind (wpAny_bind (thn (he _ _ _ _ _ s9 σ8 H9 _ I9 q9) fun v s10 ⟨y, H10, I10, r10, ys, e10, z10, n10⟩ => ?_))
        refine wpAny_bind (thn (mt_append (X := Y) _ s10 σ8 H10 (.ref s2.heap.objs.size) [y] (.ref s2.heap.objs.size) [v] (fun w H' => N σ8 H') I10 rfl (.cons r10 .nil) ⟨_, ys, y, rfl, rfl, of_lstOf e10, z10, n10⟩) fun w s11 ⟨_, H11, I11, _, n11⟩ => ?_)
        exact wpAny_pure (wpAny_pure ⟨rfl, fin2 I11 n11⟩)
  exact codeAny_compStart_list loop (T.self _ 0 _ _ _ st4 loop)
theorem pe_compIf (hc : X.calm = true) (c : CompOk X scope Nc js) (hi : PI X tg iter wi) (hg : ∀ C s3 H3 fp, PG (X.comp scope C Nc s3 H3 fp) tg g) (ht : ∀ C s3 H3 fp, PT (X.comp scope C Nc s3 H3 fp) cd tt) (he : ∀ C s3 H3 fp, PE (X.comp scope C Nc s3 H3 fp) elt te)
    (hs : ∀ x, foldedSetIterable iter X.env x = pure x := by intro _; rfl) : PE X (.ListComp elt [⟨tg, iter, [cd], 0⟩] scope pos) (tCompIf wi g js tt te) := by
  intro pins s σ H Q I h
  rw [eval_ListComp]
  refine wpAny_comprehension_free (use := none) (g := ⟨tg, iter, [cd], 0⟩) (gs := []) rfl hs (closure_of (c.has I)) c.kind c.loc
    (comp_coreIf (RR := fun acc C => compPost (model X.prog X.w) X.A X.xe none (EP X pins σ Q) acc C) (NX := fun D H' => Q (.ref D) H') hc c hi hg ht he I h fun D H3 s3 fp σ5 H5 s6 I3 f3 I6 qn => ?_)
  obtain ⟨m, hn, _⟩ := I6.loc
  exact ⟨m, hn, fun h' hs' => ⟨.ref D, H5, comp_after I3 f3 I6 hs', rfl, qn⟩⟩
theorem ps_setcIf {i : Nat} {y : Str} {py spos : Pos} (hN : X.N.Nodup) (hiN : X.N[i]? = some y) (hy : Loc X.env.scope y) (hc : X.calm = true) (c : CompOk X scope Nc js) (hi : PI X tg iter wi) (hg : ∀ C s3 H3 fp, PG (X.comp scope C Nc s3 H3 fp) tg g)
    (ht : ∀ C s3 H3 fp, PT (X.comp scope C Nc s3 H3 fp) cd tt) (he : ∀ C s3 H3 fp, PE (X.comp scope C Nc s3 H3 fp) elt te) (hsw : swapsWith (.ListComp elt [⟨tg, iter, [cd], 0⟩] scope pos) (some (.Name y py)) spos.line X.env = pure true := by rfl)
    (hs : ∀ x, foldedSetIterable iter X.env x = pure x := by intro _; rfl) (hf : X.fn y = true ∨ X.env.scope.names.lookup y = some .local := by first | exact .inl rfl | exact .inr rfl | assumption) :
    PS X (.Assign [.Name y py] (.ListComp elt [⟨tg, iter, [cd], 0⟩] scope pos) spos) (tAsg (tCompIf wi g js tt te) (gName i)) := by
  intro pins s σ H D I h
  rw [exec_Assign_Name_used _ _ _ _ hsw]
  refine wpAny_bind (wpAny_standAt (wpAny_bind ?_))
  show wpAny _ X.A (do let _ ← comprehension (.ListComp elt [⟨tg, iter, [cd], 0⟩] scope pos) scope X.env _ (newList []) false (eval iter X.env) (some (assign (.Name y py) X.env))) _ _ s
  refine wpAny_bind (wpAny_mono (wpAny_comprehension_free (use := some (assign (.Name y py) X.env)) (g := ⟨tg, iter, [cd], 0⟩) (gs := []) (Q := fun _ s' => SP X pins D .next s') rfl hs (closure_of (c.has I)) c.kind c.loc
    (comp_coreIf (RR := fun acc C => compPost (model X.prog X.w) X.A X.xe (some (assign (.Name y py) X.env)) (fun _ s' => SP X pins D .next s') acc C) (NX := fun Da H' => D.nx (σ.set i (some (.ref Da))) H') hc c hi hg ht he I h fun Da H3 s3 fp σ5 H5 s6 I3 f3 I6 qn => ?_))
    (fun _ s' hq => wpAny_pure (wpAny_pure hq)) fun _ _ e => e)
  obtain ⟨m, hn, _⟩ := id I6.loc
  have I7 : Inv X pins σ H5 s6 := comp_after I3 f3 I6 (.refl ..)
  have hC : H5 s3.heap.objs.size = none := I6.free
  have nL : s3.heap.objs.size ≠ X.env.locals := Nat.ne_of_gt I3.lt
  have nc : ∀ x a, X.env.cells.lookup x = some a → a ≠ s3.heap.objs.size := fun x a e => by
    obtain ⟨v, q⟩ := I3.cell x a e
    exact Nat.ne_of_lt q.lt
  have np : ∀ p ∈ X.pn ++ pins, p.1 ≠ s3.heap.objs.size := fun p hp => Nat.ne_of_lt (Heap.lt_size (I3.pin p hp).1)
  show wpAny _ _ (assign (.Name y py) X.env (.ref Da)) _ _ _
  refine wpAny_assign_Name (store_ok2 (v := .ref Da) I7 hN hiN hy rfl (fun s8 I8 hb => ?_) hf)
  obtain ⟨a, hs8, ha⟩ := hb
  have nCa : s3.heap.objs.size ≠ a := by
    rcases ha with z | z
    · rw [z]; exact nL
    · exact (nc y a z).symm
  refine ⟨m, hn.sameBut hs8 nCa, fun h9 hs9 => ?_⟩
  exact ⟨_, H5, I8.turned (t' := s8.toks) (fun b o hb e => (hs9.2 b hb).trans e) hC nL (.inr (Nat.le_trans I3.sz (Nat.le_refl _))) nc np, qn⟩
end
section
variable {X : Cx} {scope : Scope} {Nc : List Str} {js : List (Option Nat)} {elt tg iter cd : Expr} {pos : Pos} {wi : TI} {g : TG} {te : TE} {tt : TT}
theorem qpe_compIf (hc : X.calm = true) (c : CompOk X scope Nc js) (hi : QI X tg iter wi) (hg : ∀ C s3 H3 fp, QG (X.comp scope C Nc s3 H3 fp) tg g) (ht : ∀ C s3 H3 fp, QT (X.comp scope C Nc s3 H3 fp) cd tt) (he : ∀ C s3 H3 fp, QE (X.comp scope C Nc s3 H3 fp) elt te)
    (hs : ∀ x, foldedSetIterable iter X.env x = pure x := by intro _; rfl) : QE X (.ListComp elt [⟨tg, iter, [cd], 0⟩] scope pos) (tCompIf wi g js tt te) :=
  ⟨pe_compIf hc c hi.h (fun C s H f => (hg C s H f).h) (fun C s H f => (ht C s H f).h) (fun C s H f => (he C s H f).h) hs⟩
theorem qps_setcIf {i : Nat} {y : Str} {py spos : Pos} (hN : X.N.Nodup) (hiN : X.N[i]? = some y) (hy : Loc X.env.scope y) (hc : X.calm = true) (c : CompOk X scope Nc js) (hi : QI X tg iter wi) (hg : ∀ C s3 H3 fp, QG (X.comp scope C Nc s3 H3 fp) tg g)
    (ht : ∀ C s3 H3 fp, QT (X.comp scope C Nc s3 H3 fp) cd tt) (he : ∀ C s3 H3 fp, QE (X.comp scope C Nc s3 H3 fp) elt te) (hsw : swapsWith (.ListComp elt [⟨tg, iter, [cd], 0⟩] scope pos) (some (.Name y py)) spos.line X.env = pure true := by rfl)
    (hs : ∀ x, foldedSetIterable iter X.env x = pure x := by intro _; rfl) (hf : X.fn y = true ∨ X.env.scope.names.lookup y = some .local := by first | exact .inl rfl | exact .inr rfl | assumption) :
    QS X (.Assign [.Name y py] (.ListComp elt [⟨tg, iter, [cd], 0⟩] scope pos) spos) (tAsg (tCompIf wi g js tt te) (gName i)) :=
  ⟨ps_setcIf hN hiN hy hc c hi.h (fun C s H f => (hg C s H f).h) (fun C s H f => (ht C s H f).h) (fun C s H f => (he C s H f).h) hsw hs hf⟩
end
section
variable {D : Addr} {te : TE} {tt : TT} {E : Ends} {r : L2.St} {H : Hp}
theorem filt_step {α : Type} (p : α → Bool) (f : α → V) (xs : List α) (i : Nat) (x : α) (h : xs[i]? = some x) : ((xs.take (i + 1)).filter p).map f = ((xs.take i).filter p).map f ++ (if p x = true then [f x] else []) := by
  rw [List.take_succ, h]
  simp only [Option.toList_some, List.filter_append, List.map_append]
  congr 1
  by_cases q : p x = true
  · simp [q]
  · simp [q]
theorem compIf_tup {K : PySem.W.Frag} {a : Addr} {xs : List V} (p : V → Bool) (f : V → V) (ha : H a = some (.tup xs)) (hD : H D = none) (hz : xs.length ≤ sizeLine)
    (ht : ∀ x ∈ xs, ∀ l Q, Q (p x) (upd H D (.lst l)) → tt (some x :: r) (upd H D (.lst l)) Q) (he : ∀ x ∈ xs, p x = true → ∀ l Q, Q (f x) (upd H D (.lst l)) → te (some x :: r) (upd H D (.lst l)) Q)
    (hn : ∀ v, E.nx (v :: r) (upd H D (.lst ((xs.filter p).map f)))) : LoopR (Itt K a) (gName 0) (tEmitIf D tt te) E (none :: r) (upd H D (.lst [])) := by
  have ne : a ≠ D := ne_of_none ha hD
  refine loop_tup (xs := xs) (fun i σ H' => ∃ v : Option V, σ = v :: r ∧ H' = upd H D (.lst (((xs.take i).filter p).map f))) ⟨none, rfl, rfl⟩ ?_ ?_ ?_
  · rintro i σ H' _ ⟨v, _, rfl⟩
    rw [upd_ne ne]; exact ha
  · rintro i x σ H' hx ⟨v, rfl, rfl⟩
    have hl : i < xs.length := (List.getElem?_eq_some_iff.mp hx).1
    have hm := List.mem_of_getElem? hx
    have hf : (((xs.take i).filter p).map f).length ≤ i := by
      rw [List.length_map]
      exact Nat.le_trans (List.length_filter_le _ _) (by rw [List.length_take]; omega)
    refine ht x hm _ _ ?_
    by_cases q : p x = true
    · rw [q, if_pos rfl]
      refine he x hm q _ _ ⟨_, by rw [upd_same]; rfl, by omega, some x, rfl, ?_⟩
      rw [upd_D, filt_step p f xs i x hx, if_pos q]
    · rw [if_neg q]
      refine ⟨some x, rfl, ?_⟩
      rw [filt_step p f xs i x hx, if_neg q, List.append_nil]
  · rintro σ H' ⟨v, rfl, rfl⟩
    rw [List.take_of_length_le (Nat.le_refl _)]
    exact hn v
theorem compIf_range {lo : Int} {n : Nat} (p : Nat → Bool) (f : Nat → V) (hz : n ≤ sizeLine)
    (ht : ∀ i, i < n → ∀ l Q, Q (p i) (upd H D (.lst l)) → tt (some (.int (lo + (i : Nat))) :: r) (upd H D (.lst l)) Q) (he : ∀ i, i < n → p i = true → ∀ l Q, Q (f i) (upd H D (.lst l)) → te (some (.int (lo + (i : Nat))) :: r) (upd H D (.lst l)) Q)
    (hn : ∀ v, E.nx (v :: r) (upd H D (.lst (((List.range n).filter p).map f)))) : LoopR (Itr lo n) (gName 0) (tEmitIf D tt te) E (none :: r) (upd H D (.lst [])) := by
  refine loop_range (fun i σ H' => ∃ v : Option V, σ = v :: r ∧ H' = upd H D (.lst (((List.range i).filter p).map f))) ⟨none, rfl, rfl⟩ ?_ ?_
  · rintro i σ H' hi ⟨v, rfl, rfl⟩
    have hf : (((List.range i).filter p).map f).length ≤ i := by
      rw [List.length_map]
      exact Nat.le_trans (List.length_filter_le _ _) (by rw [List.length_range]; omega)
    refine ht i hi _ _ ?_
    by_cases q : p i = true
    · rw [q, if_pos rfl]
      refine he i hi q _ _ ⟨_, by rw [upd_same]; rfl, by omega, some (.int (lo + (i : Nat))), rfl, ?_⟩
      rw [upd_D, List.range_succ]
      simp [q]
    · rw [if_neg q]
      refine ⟨some (.int (lo + (i : Nat))), rfl, ?_⟩
      rw [List.range_succ]
      simp [q]
  · rintro σ H' ⟨v, rfl, rfl⟩
    exact hn v
end
end L2
set_option Elab.async false
set_option linter.all false
set_option maxRecDepth 100000
set_option maxHeartbeats 4000000
namespace L2
open PySem PySem.Spec PyProof.Rows
section
variable {X : Cx}
def tCallV (i : Nat) (f : Addr) (sp : Sp) (dvs : List V) (E : XK) (t : TA) : TE := fun σ H Q => σ[i]? = some (some (.ref f)) ∧ t σ H fun vs H1 => sp (vs ++ dvs) H1 Q E
theorem pe_callV {CX : CXT} {k : Nat} {f : Addr} {fd : FuncData} {ps : List Str} {sp : Sp} {dvs : List V} {ds : List Value} {E : XK} {x : Str} {p pos : Pos} {e : Expr} {es : List Expr} {t : TA} (i : Nat)
    (F : FnOk X.prog X.w X.K X.mg X.base CX k f fd ps sp) (hr : Room k X.A) (hk : PySem.W.keepIn X.K (.ref f) = true) (hb : Binds X.K fd ps ds) (hd : Vals dvs ds) (hx : Passes CX X E) (ha : PA X (e :: es) t)
    (hN : X.N[i]? = some x := by rfl) (hv : Vis X.env.scope x := by first | exact Or.inl rfl | exact Or.inr (Or.inl rfl) | exact Or.inr (Or.inr rfl))
    (hdb : (x == ("__debug__" : Str)) = false := by decide) (hcd : (x == ("__classdict__" : Str)) = false := by decide) (he : starEach (e :: es) X.env = (false, eval e X.env) :: starEach es X.env := by rfl) (hpl : (backTo pos (starEach es X.env)).any (·.1) = false := by rfl) :
    PE X (.Call (.Name x p) (e :: es) [] pos) (tCallV i f sp dvs E t) := by
  intro pins s σ H Q I h
  obtain ⟨e0, h⟩ := h
  refine wpAny_Call_Name_kw (thn (pe_var hN hv hdb hcd pins s σ H (fun v H' => v = .ref f ∧ t σ H' fun vs H1 => sp (vs ++ dvs) H1 Q E) I ⟨_, e0, rfl, h⟩) fun u s1 ⟨v, H1, I1, r, hv1, h1⟩ => ?_)
  subst hv1
  cases r
  refine PySem.W.callWith_K (h₀ := X.base) I1.ok.mod.kin hk (thn (ha pos pins s1 σ H1 _ I1 h1) fun us s2 ⟨vs, H2, I2, r2, q⟩ => ⟨I2.kIn, ?_⟩) he hpl
  exact run_fn F hr hb hd hx I2 r2 q
def rTru (x : V) (H : Hp) (Q : Bool → Hp → Prop) : Prop := match x with
  | .bl b => Q b H
  | .int i => Q (i != 0) H
  | .non => Q false H
  | .str y => y.length ≤ sizeLine ∧ Q ((y.length : Int) != 0) H
  | .ref p => ∃ xs, seqOf (H p) = some xs ∧ Q (!xs.isEmpty) H
  | _ => False
def tTru (ta : TE) : TT := fun σ H Q => ta σ H fun x H1 => rTru x H1 Q
theorem rTru_ref (p : Addr) (H : Hp) (Q : Bool → Hp → Prop) : rTru (.ref p) H Q = (∃ xs, seqOf (H p) = some xs ∧ Q (!xs.isEmpty) H) := rfl
theorem rTru_bl (b : Bool) (H : Hp) (Q : Bool → Hp → Prop) : rTru (.bl b) H Q = Q b H := rfl
theorem rTru_str (y : Str) (H : Hp) (Q : Bool → Hp → Prop) : rTru (.str y) H Q = (y.length ≤ sizeLine ∧ Q ((y.length : Int) != 0) H) := rfl
theorem pt_tru {a : Expr} {ta : TE} (ha : PE X a ta) (he : ∀ whole, isTrue a X.env whole = (do let v ← whole; standAt a.pos; holding [v] (truthy v)) := by intro _; rfl) : PT X a (tTru ta) := by
  intro pins s σ H Q I h
  refine isTrue_plain (thn (ha pins s σ H _ I h) fun v s1 ⟨x, H1, I1, r1, q1⟩ => tru_ok pins s1 σ H1 x v Q I1 r1 ?_) (he _)
  replace q1 : rTru x H1 Q := q1
  unfold rTru at q1
  split at q1
  · exact ⟨_, rfl, q1⟩
  · exact ⟨_, rfl, q1⟩
  · exact ⟨_, rfl, q1⟩
  · exact ⟨_, ⟨q1.1, rfl⟩, q1.2⟩
  · obtain ⟨xs, e, q⟩ := q1
    rcases of_seqOf e with e | e
    · exact ⟨_, .inl ⟨xs, SqL.of e, rfl⟩, q⟩
    · exact ⟨_, .inr (.inl ⟨xs, SqT.of e, rfl⟩), q⟩
  · exact q1.elim
def rPop0U : V → List V → Hp → VK → Prop := fun x vs H Q => match x, vs with
  | .ref l, [] => ∃ xs, lstOf (H l) = some xs ∧ ∃ y, xs[xs.length - 1]? = some y ∧ Q y (upd H l (.lst xs.dropLast))
  | _, _ => False
theorem rPop0U_ref (l : Addr) (H : Hp) (Q : VK) : rPop0U (.ref l) [] H Q = (∃ xs, lstOf (H l) = some xs ∧ ∃ y, xs[xs.length - 1]? = some y ∧ Q y (upd H l (.lst xs.dropLast))) := rfl
theorem mt_pop0U : MtM X "list.pop" rPop0U := by
  intro pins s σ H x vs v us Q I rx rv h
  unfold rPop0U at h
  split at h
  · rename_i l
    obtain ⟨xs, e, y, hy, q⟩ := h
    exact mt_pop pins s σ H _ _ v us Q I rx rv ⟨l, xs, y, rfl, rfl, of_lstOf e, hy, q⟩
  · exact h.elim
theorem preSum_list (ns : List Int) : ∀ k, k ≤ ns.length → preSum (fun i => (ns[i]?).getD 0) k = (ns.take k).sum
  | 0, _ => by simp [preSum]
  | k + 1, h => by
    have ih := preSum_list ns k (by omega)
    show preSum _ k + (ns[k]?).getD 0 = _
    have e : ns[k]? = some (ns[k]'(by omega)) := by simp
    rw [ih, List.take_succ, e, Option.getD_some, List.sum_append]
    simp
def rSumU : List V → Hp → VK → Prop := fun xs H Q => match xs with
  | [.ref p] => ∃ ns : List Int, H p = some (.lst (ns.map V.int)) ∧ (∀ n ∈ ns, 0 ≤ n) ∧ ns.sum < 1073741824 ∧ Q (.int ns.sum) H
  | _ => False
theorem rSumU_ref (p : Addr) (H : Hp) (Q : VK) : rSumU [.ref p] H Q = (∃ ns : List Int, H p = some (.lst (ns.map V.int)) ∧ (∀ n ∈ ns, 0 ≤ n) ∧ ns.sum < 1073741824 ∧ Q (.int ns.sum) H) := rfl
theorem vals_intsI : ∀ {ns : List Int} {us : List Value}, Vals (ns.map V.int) us → ∀ (i : Nat) (v : Value), us[i]? = some v → ∃ n t, ns[i]? = some n ∧ v = .int n t
  | [], us, r, i, v, e => by rw [List.map_nil] at r; cases r; simp at e
  | n :: ns, us, r, i, v, e => by
    rw [List.map_cons] at r
    cases r with
    | cons r1 r2 =>
      cases i with
      | zero => obtain ⟨t, rfl⟩ := r1; simp at e; exact ⟨n, t, rfl, e.symm⟩
      | succ i => simp at e; obtain ⟨n', t, e1, e2⟩ := vals_intsI r2 i v e; exact ⟨n', t, by simpa using e1, e2⟩
theorem sum_nn : ∀ {l : List Int}, (∀ n ∈ l, 0 ≤ n) → 0 ≤ l.sum
  | [], _ => by simp
  | x :: l, h => by
    rw [List.sum_cons]
    have := h x (.head _)
    have := sum_nn fun n hn => h n (.tail _ hn)
    omega
theorem sum_take_le (l : List Int) (h : ∀ n ∈ l, 0 ≤ n) (k : Nat) : (l.take k).sum ≤ l.sum := by
  have e : l.sum = (l.take k).sum + (l.drop k).sum := by rw [← List.sum_append, List.take_append_drop]
  have := sum_nn fun n hn => h n (List.mem_of_mem_drop (i := k) hn)
  omega
theorem mem_le_sum : ∀ {l : List Int}, (∀ n ∈ l, 0 ≤ n) → ∀ x ∈ l, x ≤ l.sum
  | [], _, x, h => nomatch h
  | y :: l, h, x, hx => by
    rw [List.sum_cons]
    have h0 := h y (.head _)
    have h1 := sum_nn fun n hn => h n (.tail _ hn)
    rcases List.mem_cons.mp hx with rfl | hx
    · omega
    · have := mem_le_sum (fun n hn => h n (.tail _ hn)) x hx
      omega
theorem call_sumU (hc : X.calm = true) : CallR X (.builtin "sum") rSumU := by
  intro pins s σ H xs us Q I r h
  unfold rSumU at h
  split at h
  · rename_i p
    obtain ⟨ns, e, nn, hs, q⟩ := h
    obtain ⟨u, rfl, ru⟩ := vals1 r
    cases ru
    obtain ⟨its, rr, pl, _⟩ := I.list (SqL.of e)
    have isl := pl.isList
    have plt : p < s.heap.objs.size := by obtain ⟨_, e, _⟩ := isl; exact Heap.lt_size e
    have hlen : its.length = ns.length := by have := rr.length; simpa using this.symm
    refine call_sum_walk (wpAny_pyIter_list isl ?_)
    refine ⟨s.heap.objs.size, [s.heap.objs.size, p], [s.heap.objs.size], its.toArray.size, _, _, fun i => (ns[i]?).getD 0, rfl, Walks.list (A := X.A.in1) (I.ok.hd hc) _ p (Nat.ne_of_lt plt) its.toArray,
      ⟨⟨_, Heap.get?_push_size _ rfl, rfl, rfl⟩, isl.push _⟩, ?_, fun i v hp => ?_, fun j hj => ?_, fun h' tk t' hk => ?_⟩
    · intro b hb
      show b < (s.heap.objs.push _).size
      rw [Array.size_push]
      rcases List.mem_cons.mp hb with rfl | hb
      · exact Nat.lt_succ_self _
      · rw [List.mem_singleton.mp hb]; exact Nat.lt_succ_of_lt plt
    · obtain ⟨n, t, e1, rfl⟩ := vals_intsI rr i v (by simpa using hp)
      exact ⟨t, by show Value.int n t = Value.int ((ns[i]?).getD 0) t; rw [e1]; rfl⟩
    · have hj' : j < ns.length := by rw [List.size_toArray, hlen] at hj; exact hj
      have e1 : ns[j]? = some (ns[j]'hj') := by simp
      have m1 := mem_le_sum nn _ (List.getElem_mem hj')
      have m0 := nn _ (List.getElem_mem hj')
      refine ⟨?_, ?_⟩
      · show InLong ((ns[j]?).getD 0)
        rw [e1]
        show InLong (ns[j]'hj')
        unfold InLong
        omega
      · rw [preSum_list ns (j + 1) (by omega)]
        have := sum_take_le ns nn (j + 1)
        have := sum_nn fun n hn => nn n (List.mem_of_mem_take (i := j + 1) hn)
        unfold InLong
        omega
    · rw [List.size_toArray, hlen, preSum_list ns ns.length (Nat.le_refl _), List.take_length]
      exact ⟨.int _, H, I.kept (kept_it hk), ⟨_, rfl⟩, q⟩
  · exact h.elim
end
end L2
set_option Elab.async false
set_option linter.all false
set_option maxRecDepth 100000
set_option maxHeartbeats 4000000
namespace L2
open PySem PySem.Spec PyProof.Rows
theorem rv_nolen : typeLookup (.type "list_reverseiterator") "__len__" = pure none := by rw [typeLookup_type, builtinLookup_eq_fast]; kernel_rfl
theorem rv_hint : typeLookup (.type "list_reverseiterator") "__length_hint__" = pure (some (.builtin "list_reverseiterator.__length_hint__")) := by rw [typeLookup_type, builtinLookup_eq_fast]; kernel_rfl
section
variable {P : Program} {w : World} {A : Around} {E : Value → Shared → Prop} {s : Shared}
theorem rv_extend {R : Result → Shared → Prop} {it l : Addr} {items : Array Value} (hh : A.handled = none) (hne : l ≠ it) (hit : s.heap.IsRevIter it l ((items.size : Int) - 1)) (hl : s.heap.IsList l items) (D : Addr) (res : Value) (c0 : Nat)
    (hD : s.heap.get? D = some { cls := .type "list", data := .seq #[] c0 }) (h1 : D ≠ it) (h2 : D ≠ l)
    (hR : ∀ h' tk acc c', (∀ b o, b ≠ D → b ≠ it → s.heap.get? b = some o → h'.get? b = some o) → h'.get? D = some { cls := .type "list", dict := none, data := .seq acc c', slots := #[] } →
      ItemsOf (fun i v => items[items.size - 1 - i]? = some v) acc items.size → R (.ok (.ret res)) { s with heap := h', toks := tk }) (hn : items.size ≤ sizeLine) :
    wpAny (model P w) A.in1 (Builtin.List.listExtendWith (.ref D) (.ref it) res)
      (fun fin s' => match fin with | .done f => R (.ok f) s' | .again c' => c'.quiet = true ∧ codeAny (model P w) A c' R s') (fun e s' => R (.error e) s') s := by
  have hDf : D ∉ [it, l] := fun hm => by
    rcases List.mem_cons.mp hm with e | hm
    · exact h1 e
    · exact h2 (List.mem_singleton.mp hm)
  have W := (Walks.listRev (prog := P) (w := w) (A := A.in1) hh it l hne items).toS
  have st0 : (0 : Nat) ≤ items.size ∧ s.heap.IsRevIter it l ((items.size : Int) - 1 - ((0 : Nat) : Int)) ∧ s.heap.IsList l items := ⟨Nat.zero_le _, by simpa using hit, hl⟩
  have q1 : Builtin.List.listSameRef (.ref D) (.ref it) = false := by simp [Builtin.List.listSameRef, h1]
  unfold Builtin.List.listExtendWith
  refine wpAny_bind (wpAny_typeOf (T := "list_reverseiterator") hit.typeIs ?_)
  rw [if_neg (by rw [q1]; decide)]
  refine wpAny_bind (wpAny_pyIter_revIter hit ?_)
  refine wpAny_bind (wpAny_holding ?_)
  unfold Builtin.List.listLengthHint
  refine wpAny_bind (wpAny_specialOf (T := "list_reverseiterator") hit.typeIs rv_nolen ?_)
  show wpAny _ A.in1 ((specialOf (Value.ref it) (Str.ofString "__length_hint__")) >>= _) _ _ _
  refine wpAny_bind (wpAny_specialOf (T := "list_reverseiterator") hit.typeIs rv_hint ?_)
  generalize hid : ("list_reverseiterator.__length_hint__" : String) = idh
  wp_delta
  rw [show splitId idh = some ("list_reverseiterator", "__length_hint__") from by subst hid; decide +kernel]
  subst hid
  refine wpAny_bind (wpAny_isInstance (b := true) (T := "list_reverseiterator") hit.typeIs (by rw [isSubtype_type]; kernel_rfl) (wpAny_pure ?_))
  rw [if_neg (by decide)]
  refine wpAny_pure ⟨plainId_quiet F.plain_extend_loop _, codeAny_extend_loopS W hn _ hDf _ items.size 0 _ _ _ rfl (Nat.zero_le _) st0 hD (ItemsOf.nil _) fun s' acc' c' hm hS' hacc => ?_⟩
  rw [Moved.eq_with hm]
  refine hR s'.heap s'.toks acc' c' (fun b o hb hb2 e => hm.heap b o (fun hmem => ?_) e) hS' hacc
  rcases List.mem_cons.mp hmem with e' | hmem
  · exact hb e'
  · exact hb2 (List.mem_singleton.mp hmem)
theorem rv_list {Q : Value → Shared → Prop} {it l : Addr} {items : Array Value} (hh : A.handled = none) (hne : l ≠ it) (hit : s.heap.IsRevIter it l ((items.size : Int) - 1)) (hl : s.heap.IsList l items) (hn : items.size ≤ sizeLine)
    (hQ : ∀ h' tk acc c', (∀ b o, b ≠ it → s.heap.get? b = some o → h'.get? b = some o) → h'.get? s.heap.objs.size = some { cls := .type "list", dict := none, data := .seq acc c', slots := #[] } →
      ItemsOf (fun i v => items[items.size - 1 - i]? = some v) acc items.size → Q (.ref s.heap.objs.size) { s with heap := h', toks := tk }) :
    wpAny (model P w) A (call (.type "list") [.ref it]) Q E s := by
  refine callType_codes (Q₁ := fun obj s1 => obj = .ref s.heap.objs.size ∧ s1 = { s with heap := s.heap.push { cls := .type "list", data := .seq #[] } }) F.called_list (F.typeCall_list_1 _) F.entry_list_init (code_list_new _ ⟨rfl, rfl⟩) fun obj s1 hs1 => ?_
  obtain ⟨rfl, rfl⟩ := hs1
  have hS : (s.heap.push { cls := .type "list", data := .seq #[] }).get? s.heap.objs.size = some { cls := .type "list", data := .seq #[] } := (Heap.get?_push_size _ rfl)
  have ni : s.heap.objs.size ≠ it := fun e => by obtain ⟨o, ho, _⟩ := hit; rw [← e] at ho; exact Nat.lt_irrefl _ (Heap.lt_size ho)
  have nl : s.heap.objs.size ≠ l := fun e => by obtain ⟨o, ho, _⟩ := hl; rw [← e] at ho; exact Nat.lt_irrefl _ (Heap.lt_size ho)
  refine ⟨⟨_, hS, rfl⟩, F.args_list_init_2 _ _, ?_⟩
  show wpAny _ _ (do let was ← Builtin.List.listItems (.ref s.heap.objs.size); Builtin.List.listUpdate (.ref s.heap.objs.size) (fun _ => #[]); letGo was.toList.reverse; Builtin.List.listExtendWith (.ref s.heap.objs.size) (.ref it) .none) _ _ _
  refine wpAny_bind ?_
  unfold Builtin.List.listItems
  refine wpAny_bind (wpAny_seqItems hS rfl (wpAny_pure ?_))
  show wpAny _ _ (updateSeq s.heap.objs.size (fun _ => #[]) >>= fun _ => letGo (#[] : Array Value).toList.reverse >>= fun _ => Builtin.List.listExtendWith (.ref s.heap.objs.size) (.ref it) .none) _ _ _
  refine wpAny_bind (wpAny_updateSeq hS rfl ?_)
  have hS2 := Heap.get?_update_self (Obj.mapSeq (fun _ => (#[] : Array Value))) hS rfl
  have oth : ∀ b o, b ≠ s.heap.objs.size → s.heap.get? b = some o → ((s.heap.push { cls := .type "list", data := .seq #[] }).update s.heap.objs.size (Obj.mapSeq (fun _ => (#[] : Array Value)))).get? b = some o :=
    fun b o hb e => (Heap.get?_update_other _ _ (Ne.symm hb)).trans (Heap.get?_push_of_some _ e)
  refine wpAny_bind (wpAny_letGo ?_)
  refine rv_extend (A := A.in1) hh hne (hit.at fun o e => oth it o ni.symm e) (hl.at fun o e => oth l o nl.symm e) _ .none _ hS2 ni nl (fun h' tk acc c' hk hS' hacc => ?_) hn
  exact ⟨rfl, hQ h' tk acc c' (fun b o hb e => hk b o (Nat.ne_of_lt (Heap.lt_size e)) hb (oth b o (Nat.ne_of_lt (Heap.lt_size e)) e)) hS' hacc⟩
end
section
variable {X : Cx}
def rRev : List V → Hp → VK → Prop := fun vs H Q => match vs with
  | [.ref p] => ∃ xs, lstOf (H p) = some xs ∧ ∀ l, H l = none → Q (.ref l) (upd H l (.lst xs.reverse))
  | _ => False
theorem rRev_ref (p : Addr) (H : Hp) (Q : VK) : rRev [.ref p] H Q = (∃ xs, lstOf (H p) = some xs ∧ ∀ l, H l = none → Q (.ref l) (upd H l (.lst xs.reverse))) := rfl
def tListRev (ta : TE) : TE := tCB rRev (tCons ta tNil)
theorem bt_reversed : bootBuiltins "reversed" = some (.type "reversed") := by decide +kernel
theorem pe_listRev {a : Expr} {ta : TE} {p1 p2 q1 q2 : Pos} (hc : X.calm = true) (hg : Gl X "list") (hm : X.mg "list" = none) (hg2 : Gl X "reversed") (hm2 : X.mg "reversed" = none) (ha : PE X a ta)
    (hs : starEach [(.Call (.Name "reversed" p2) [a] [] q2)] X.env = [(false, eval (.Call (.Name "reversed" p2) [a] [] q2) X.env)] := by rfl) (hs2 : starEach [a] X.env = [(false, eval a X.env)] := by rfl) :
    PE X (.Call (.Name "list" p1) [.Call (.Name "reversed" p2) [a] [] q2] [] q1) (tListRev ta) := by
  intro pins s σ H Q I h
  refine wpAny_Call_Name_kw (ld_blt I hg hm bt_list ?_)
  refine PyProof.Rows.callWith_type1 ?_ hs rfl
  rw [hs]
  show wpAny _ _ (spliced ((false, eval (.Call (.Name "reversed" p2) [a] [] q2) X.env) :: [])) _ _ s
  refine Calls.spliced_cons ?_
  refine wpAny_Call_Name_kw (ld_blt I hg2 hm2 bt_reversed ?_)
  have hA : PA X [a] (tCons ta tNil) := pa_cons ha pa_nil hs2
  refine PyProof.Rows.callWith_type1 (thn (hA q2 pins s σ H (fun vs H1 => rRev vs H1 Q) I h) fun us s1 ⟨vs, H1, I1, r1, q1⟩ => ?_) hs2 rfl
  replace q1 : rRev vs H1 Q := q1
  unfold rRev at q1
  split at q1
  · rename_i p
    obtain ⟨xs, e, q⟩ := q1
    replace e := of_lstOf e
    obtain ⟨u, rfl, ru⟩ := vals1 r1
    cases ru
    obtain ⟨its, rr, pl, hz⟩ := I1.list (SqL.of e)
    have isl := pl.isList
    have hlen : its.length = xs.length := by have := rr.length; simpa using this.symm
    refine call_reversed_list isl (Calls.spliced_nil ?_)
    have plt : p < s1.heap.objs.size := by obtain ⟨_, e, _⟩ := isl; exact Heap.lt_size e
    refine rv_list (I1.ok.hd hc) (Nat.ne_of_lt plt) ⟨_, Heap.get?_push_size _ rfl, rfl, rfl⟩ (isl.push _) (by rw [List.size_toArray]; omega) fun h' tk acc c' hk hS' hacc => ?_
    have hD : s1.heap.objs.size ≤ (s1.heap.push (revObj p ((its.toArray.size : Int) - 1))).objs.size := by
      show _ ≤ (s1.heap.objs.push _).size
      rw [Array.size_push]; exact Nat.le_succ _
    obtain ⟨a1, a2⟩ := hacc
    refine ⟨.ref _, _, I1.laid (o := .lst xs.reverse) (t' := tk) (fun b o eb => hk b o (Nat.ne_of_lt (Heap.lt_size eb)) (Heap.get?_push_of_some _ eb)) hD ⟨by rw [List.length_reverse]; exact hz, acc.toList, c', ?_, by simpa using hS'⟩, rfl, q _ (I1.hok.fresh hD)⟩
    refine vals_of (by simp [a1, hlen]) fun i x u e1 e2 => ?_
    have hi : i < xs.length := by have := (List.getElem?_eq_some_iff.mp e1).1; simpa using this
    have h2 := a2 i u (by simpa using e2)
    rw [List.getElem?_reverse hi] at e1
    obtain ⟨u', hu, ruu⟩ := rr.get e1
    have e3 : its[xs.length - 1 - i]? = some u := by
      have : its.toArray.size = xs.length := by simp [hlen]
      rw [this] at h2
      simpa using h2
    rw [e3] at hu
    cases hu
    exact ruu
  · exact q1.elim
end
end L2
set_option Elab.async false
set_option linter.all false
set_option maxRecDepth 100000
set_option maxHeartbeats 4000000
namespace L2
open PySem PySem.Spec PyProof.Rows
section
variable {X : Cx}
def rStrK (x : V) (k : Str → Prop) : Prop := match x with
  | .str y => k y
  | _ => False
theorem rStrK_str (y : Str) (k : Str → Prop) : rStrK (.str y) k = k y := rfl
def tFmt (te : TE) : TE := fun σ H Q => te σ H fun x H1 => rStrK x fun y => y.length ≤ sizeLine ∧ Q (.str y) H1
theorem pe_fmt {a : Expr} {te : TE} {pos : Pos} (ha : PE X a te) : PE X (.FormattedValue a (-1) none pos) (tFmt te) := by
  intro pins s σ H Q I h
  refine FormattedValue_plain (thn (ha pins s σ H _ I h) fun v s1 ⟨x, H1, I1, r1, q1⟩ => ?_)
  replace q1 : rStrK x fun y => y.length ≤ sizeLine ∧ Q (.str y) H1 := q1
  cases x with
  | str y => obtain ⟨t, rfl⟩ := r1; exact formatField_str (fun t' tk => ⟨.str y, H1, I1.tok tk, ⟨t', rfl⟩, q1.2⟩) q1.1
  | _ => exact q1.elim
abbrev TJ := L2.St → Hp → Str → VK → Prop
def PJ (X : Cx) (es : List Expr) (t : TJ) : Prop := ∀ (pins : List (Addr × Obj)) (s : Shared) (σ : L2.St) (H : Hp) (out : Str) (Q : VK), Inv X pins σ H s → t σ H out Q → wpAny (model X.prog X.w) X.A (joinParts out (evalEach es X.env)) (EP X pins σ Q) X.xe s
def tJnil : TJ := fun _ H out Q => out.length ≤ sizeLine ∧ Q (.str out) H
def tJcons (te : TE) (t : TJ) : TJ := fun σ H out Q => te σ H fun x H1 => rStrK x fun y => (out ++ y).length ≤ sizeLine ∧ t σ H1 (out ++ y) Q
theorem pj_nil : PJ X [] tJnil := fun pins s σ H out Q I h => joinParts_nil ⟨.str out, H, I.tok _, ⟨_, rfl⟩, h.2⟩ h.1
theorem pj_cons {a : Expr} {es : List Expr} {te : TE} {t : TJ} (ha : PE X a te) (hr : PJ X es t) : PJ X (a :: es) (tJcons te t) := by
  intro pins s σ H out Q I h
  show wpAny _ _ (joinParts out (eval a X.env :: evalEach es X.env)) _ _ s
  refine joinParts_cons (thn (ha pins s σ H _ I h) fun v s1 ⟨x, H1, I1, r1, q1⟩ => ?_)
  replace q1 : rStrK x fun y => (out ++ y).length ≤ sizeLine ∧ t σ H1 (out ++ y) Q := q1
  cases x with
  | str y => obtain ⟨u, rfl⟩ := r1; exact ⟨q1.1, hr pins s1 σ H1 _ Q I1 q1.2⟩
  | _ => exact q1.elim
def tJoin (t : TJ) : TE := fun σ H Q => t σ H Str.empty Q
theorem pe_joined {a b : Expr} {es : List Expr} {t : TJ} {pos : Pos} (h : PJ X (a :: b :: es) t) : PE X (.JoinedStr (a :: b :: es) pos) (tJoin t) := fun pins s σ H Q I hw => JoinedStr_many (h pins s σ H _ Q I hw)
end
def tMid (t u : TS) : TS := fun D σ H => ∃ J : L2.St → Hp → Prop, t { D with nx := J } σ H ∧ ∀ σ H, J σ H → u D σ H
theorem pss_mid {X : Cx} {st : Stmt} {rest : List Stmt} {t u : TS} (h1 : PS X st t) (h2 : PSs X rest u) : PSs X (st :: rest) (tMid t u) := by
  intro pins s σ H D I h
  obtain ⟨J, h, hJ⟩ := h
  refine wpAny_execs_cons (thn (h1 pins s σ H { D with nx := J } I h) fun f s1 q => ?_)
  cases f with
  | next =>
    obtain ⟨σ1, H1, I1, q1⟩ := q
    exact h2 pins s1 σ1 H1 D I1 (hJ _ _ q1)
  | ret v => exact q
  | brk => exact q
  | cont => exact q
theorem qpss_mid {X : Cx} {st : Stmt} {rest : List Stmt} {t u : TS} (h1 : QS X st t) (h2 : QSs X rest u) : QSs X (st :: rest) (tMid t u) := ⟨pss_mid h1.h h2.h⟩
structure QJ (X : Cx) (es : List Expr) (t : TJ) : Prop where
  h : PJ X es t
section
variable {X : Cx}
theorem qpj_nil : QJ X [] tJnil := ⟨pj_nil⟩
theorem qpj_cons {a : Expr} {es : List Expr} {te : TE} {t : TJ} (ha : QE X a te) (hr : QJ X es t) : QJ X (a :: es) (tJcons te t) := ⟨pj_cons ha.h hr.h⟩
theorem qpe_fmt {a : Expr} {te : TE} {pos : Pos} (ha : QE X a te) : QE X (.FormattedValue a (-1) none pos) (tFmt te) := ⟨pe_fmt ha.h⟩
theorem qpe_joined {a b : Expr} {es : List Expr} {t : TJ} {pos : Pos} (h : QJ X (a :: b :: es) t) : QE X (.JoinedStr (a :: b :: es) pos) (tJoin t) := ⟨pe_joined h.h⟩
theorem qpt_tru {a : Expr} {ta : TE} (ha : QE X a ta) (he : ∀ whole, isTrue a X.env whole = (do let v ← whole; standAt a.pos; holding [v] (truthy v)) := by intro _; rfl) : QT X a (tTru ta) := ⟨pt_tru ha.h he⟩
theorem qpe_listRev {a : Expr} {ta : TE} {p1 p2 q1 q2 : Pos} (hc : X.calm = true) (hg : Gl X "list") (hm : X.mg "list" = none) (hg2 : Gl X "reversed") (hm2 : X.mg "reversed" = none) (ha : QE X a ta)
    (hs : starEach [(.Call (.Name "reversed" p2) [a] [] q2)] X.env = [(false, eval (.Call (.Name "reversed" p2) [a] [] q2) X.env)] := by rfl) (hs2 : starEach [a] X.env = [(false, eval a X.env)] := by rfl) :
    QE X (.Call (.Name "list" p1) [.Call (.Name "reversed" p2) [a] [] q2] [] q1) (tListRev ta) := ⟨pe_listRev hc hg hm hg2 hm2 ha.h hs hs2⟩
theorem qpe_callV {CX : CXT} {k : Nat} {f : Addr} {fd : FuncData} {ps : List Str} {sp : Sp} {dvs : List V} {ds : List Value} {E : XK} {x : Str} {p pos : Pos} {e : Expr} {es : List Expr} {t : TA} (i : Nat)
    (F : FnOk X.prog X.w X.K X.mg X.base CX k f fd ps sp) (hr : Room k X.A) (hk : PySem.W.keepIn X.K (.ref f) = true) (hb : Binds X.K fd ps ds) (hd : Vals dvs ds) (hx : Passes CX X E) (ha : QA X (e :: es) t)
    (hN : X.N[i]? = some x := by rfl) (hv : Vis X.env.scope x := by first | exact Or.inl rfl | exact Or.inr (Or.inl rfl) | exact Or.inr (Or.inr rfl))
    (hdb : (x == ("__debug__" : Str)) = false := by decide) (hcd : (x == ("__classdict__" : Str)) = false := by decide) (he : starEach (e :: es) X.env = (false, eval e X.env) :: starEach es X.env := by rfl) (hpl : (backTo pos (starEach es X.env)).any (·.1) = false := by rfl) :
    QE X (.Call (.Name x p) (e :: es) [] pos) (tCallV i f sp dvs E t) := ⟨pe_callV i F hr hk hb hd hx ha.h hN hv hdb hcd he hpl⟩
theorem call_isinstanceK {K : PySem.W.Frag} (hK : X.K = K) : CallR X (.builtin "isinstance") (rIsU K) := by
  subst hK
  exact call_isinstanceU
end
end L2
set_option Elab.async false
set_option linter.all false
set_option maxRecDepth 100000
set_option maxHeartbeats 4000000
namespace L2
open PySem PySem.Spec PyProof.Rows
section
variable {P : Program} {w : World} {A : Around} {R : Result → Shared → Prop} {I : Addr} {fp wr : List Addr} {n : Nat} {Pv : Nat → Value → Prop} {St : Nat → Heap → Prop}
end
section
variable {X : Cx}
end
end L2
set_option Elab.async false
set_option linter.all false
set_option maxRecDepth 100000
set_option maxHeartbeats 4000000
namespace L2
open PySem PySem.Spec PyProof.Rows
section
variable {P : Program} {w : World} {A : Around} {E : Value → Shared → Prop} {s : Shared} {d it : Addr} {o : Obj} {es : Array DictEntry} {ep i : Nat}
end
section
variable {X : Cx} {tg : Expr}
end
end L2
set_option Elab.async false
set_option linter.all false
set_option maxRecDepth 100000
set_option maxHeartbeats 4000000
namespace L2
open PySem PySem.Spec PyProof.Rows
section
variable {D : Addr} {te : TE} {tt : TT} {E : Ends} {r : L2.St} {H : Hp}
def Firm (P : V → Hp → Prop) : Prop := ∀ S x H1 H2, Kp S H1 H2 → P x H1 → P x H2
theorem comp_rangeK {lo : Int} {n : Nat} (P : Nat → V → Hp → Prop) (hP : ∀ i, Firm (P i)) (hD : H D = none) (hz : n ≤ sizeLine)
    (he : ∀ i H1 Q, i < n → Kp [] H H1 → (∀ v H2, Kp [] H1 H2 → P i v H2 → Q v H2) → te (some (.int (lo + (i : Nat))) :: r) H1 Q)
    (hn : ∀ v xs H', Kp [] H H' → H' D = some (.lst xs) → Paired (fun i x => P i x H') (List.range n) xs → E.nx (v :: r) H') : LoopR (Itr lo n) (gName 0) (tEmit D te) E (none :: r) (upd H D (.lst [])) := by
  refine loop_range (fun i σ H' => ∃ (v : Option V) (xs : List V), σ = v :: r ∧ Kp [] H H' ∧ H' D = some (.lst xs) ∧ Paired (fun i x => P i x H') (List.range i) xs) ⟨none, [], rfl, (Kp.refl [] H).new hD, upd_same, .nil⟩ ?_ ?_
  · rintro i σ H' hi ⟨v, xs, rfl, kp, hd, pr⟩
    have hl : xs.length = i := by have := Paired.length pr; simpa using this.symm
    refine he i H' _ hi kp fun y H2 k2 hy => ?_
    have hd2 : H2 D = some (.lst xs) := k2.old _ _ hd (by simp)
    refine ⟨xs, by rw [hd2]; rfl, by omega, some (.int (lo + (i : Nat))), xs ++ [y], rfl, (kp.trans k2).set hd2 (.inr hD), upd_same, ?_⟩
    have k3 : Kp [D] H2 (upd H2 D (.lst (xs ++ [y]))) := (Kp.refl [D] H2).set hd2 (.inl (by simp))
    rw [List.range_succ]
    exact Paired.snoc (Paired.mapP pr fun j x q => hP j _ x _ _ k3 (hP j _ x _ _ k2 q)) (hP i _ y _ _ k3 hy)
  · rintro σ H' ⟨v, xs, rfl, kp, hd, pr⟩
    exact hn v xs H' kp hd pr
end
end L2
namespace L2
open PySem PySem.Spec PyProof.Rows
section
variable {prog : Program} {w : World} {A : Around} {E : Value → Shared → Prop} {s : Shared}
theorem tup_whole {t sl : Addr} {items : Array Value} {vl vu : Value} {lo hi : Option Int} {Q : Value → Shared → Prop} (ht : IsTup s.heap t items) (hs : s.heap.IsSliceOf sl vl vu .none) (pl : IsPart vl lo) (pu : IsPart vu hi)
    (hw : HT.sIx items.size 0 lo = 0 ∧ HT.sIx items.size items.size hi = items.size) (h : Q (.ref t) s) : wpAny (model prog w) A (getItem (.ref t) (.ref sl)) Q E s := by
  obtain ⟨os, hos, hcs, hds⟩ := id hs
  have hTs : s.TypeIs (.ref sl) "slice" := ⟨os, hos, hcs⟩
  unfold getItem
  try with_reducible refine wpAny_holding ?_
  first | refine wpAny_bind (wpAny_pure ?_) | skip
  refine wpAny_bind (wpAny_sequenceKey ht.typeIs (by decide) ?_)
  refine wpAny_bind (wpAny_callSpecial?_slot (name := Str.ofString "__getitem__") ht.typeIs PyProof.Rows.slot_tuple_getitem
    (wpAny_call_entry PyProof.Rows.slot_tuple_getitem ht.typeIs PyProof.Rows.entry_tuple_getitem ?_ (PyProof.Rows.args_tuple_getitem _ _)))
  show wpAny _ _ (Builtin.Tuple.tupleItemsOf (.ref t) >>= _) _ _ s
  refine wpAny_bind (tupleItemsOf_ ht ?_)
  refine wpAny_bind (wpAny_typeOf hTs ?_)
  rw [if_pos (by decide)]
  refine wpAny_bind (HT.sliceApplied_gen hs pl pu ?_)
  show wpAny _ _ (if (((HT.sIx items.size 0 lo : Nat) : Int) == 0 && (1 : Int) == 1 && (HT.sIx items.size items.size hi - HT.sIx items.size 0 lo) == items.size) = true then _ else _) _ _ s
  rw [if_pos (by rw [hw.1, hw.2]; simp)]
  unfold Builtin.Tuple.tupleIsExact
  exact wpAny_bind (wpAny_bind (wpAny_typeOf ht.typeIs (wpAny_pure (by rw [if_pos (by decide)]; exact wpAny_bind (wpAny_rule (wpAny_pure ⟨_, rfl, wpAny_pure h⟩))))))
end
section
variable {X : Cx}
def rSlW (K : PySem.W.Frag) : V → Option Int → Option Int → Hp → VK → Prop := fun x lo hi H Q => ∃ a xs, x = .ref a ∧ SqT K H a xs ∧ (HT.sIx xs.length 0 lo = 0 ∧ HT.sIx xs.length xs.length hi = xs.length) ∧ Q (.ref a) H
theorem sl_tupW : SlR X (rSlW X.K) := by
  intro pins s σ H x v vl vu lo hi sl Q I rx hs pl pu h
  obtain ⟨a, xs, rfl, hx, hw, q⟩ := h
  cases rx
  obtain ⟨its, r, ht, hz⟩ := I.tuple hx
  have hlen : its.toArray.size = xs.length := by rw [List.size_toArray]; exact r.length.symm
  refine ⟨"tuple", _, PyProof.Rows.slot_tuple_getitem.lookup, ht.typeIs, ?_⟩
  exact tup_whole ht hs pl pu (by rw [hlen]; exact hw) ⟨.ref a, H, I, rfl, q⟩
def rSlV (K : PySem.W.Frag) : V → Option Int → Option Int → Hp → VK → Prop := fun x lo hi H Q => rSlU K x lo hi H Q ∨ rSlW K x lo hi H Q
theorem sl_VK {K : PySem.W.Frag} (hK : X.K = K) : SlR X (rSlV K) := by
  subst hK
  exact SlR.or sl_U sl_tupW
theorem rSlV.tup {K : PySem.W.Frag} {H : Hp} {Q : VK} {a : Addr} {xs : List V} {lo hi : Option Int} (e : H a = some (.tup xs)) (h : ∀ p H', H' p = some (.tup (cutV xs lo hi)) → Kp [] H H' → Q (.ref p) H') : rSlV K (.ref a) lo hi H Q := by
  by_cases w : HT.sIx xs.length 0 lo = 0 ∧ HT.sIx xs.length xs.length hi = xs.length
  · refine .inr ⟨a, xs, rfl, SqT.of e, w, h a H ?_ (Kp.refl [] H)⟩
    have : cutV xs lo hi = xs := by
      unfold cutV
      rw [w.1, w.2, List.drop_zero]
      exact List.take_of_length_le (by omega)
    rw [this]; exact e
  · exact .inl (rSlU.tup e w fun p hp => h p _ upd_same ((Kp.refl [] H).new hp))
end
end L2
set_option Elab.async false
set_option linter.all false
set_option maxRecDepth 100000
set_option maxHeartbeats 4000000
namespace L2
open PySem PySem.Spec PyProof.Rows
section
variable {prog : Program} {w : World} {A : Around} {E : Value → Shared → Prop} {s : Shared} {i1 i2 : Addr} {f1 f2 : List Addr} {n1 n2 : Nat} {P1 P2 : Nat → Value → Prop} {S1 S2 : Nat → Heap → Prop}
end
section
variable {X : Cx}
end
end L2
set_option Elab.async false
set_option linter.all false
set_option maxRecDepth 100000
set_option maxHeartbeats 4000000
namespace L2
open PySem PySem.Spec PyProof.Rows
section
variable {X : Cx}
end
end L2
set_option Elab.async false
set_option linter.all false
set_option maxRecDepth 100000
set_option maxHeartbeats 4000000
namespace HT
open PySem PyProof.Rows
section
open PySem.SeqAt
open PySem.AutoSeq1 (wpAny_loadPart')
open PySem.MeetsSeq PySem.MeetsSeq2 PySem.MeetsSeq3
end
section
variable {prog : Program} {w : World} {A : Around} {E : Value → Shared → Prop} {s : Shared}
end
end HT
namespace L2
open PySem PySem.Spec PyProof.Rows
section
variable {X : Cx}
end
end L2
set_option Elab.async false
set_option linter.all false
set_option maxRecDepth 100000
set_option maxHeartbeats 4000000
namespace L2
open PySem PySem.Spec PyProof.Rows
section
variable {prog : Program} {w : World} {A : Around} {R : Result → Shared → Prop} {I : Addr} {fp wr : List Addr} {G : Array GenState → Array GenState → Prop} {n : Nat} {P : Nat → Value → Prop} {St : Nat → Shared → Prop}
end
section
variable {prog : Program} {w : World} {A : Around} {E : Value → Shared → Prop} {s : Shared}
end
section
variable {X : Cx}
end
end L2
set_option Elab.async false
set_option linter.all false
set_option maxRecDepth 100000
set_option maxHeartbeats 4000000
namespace L2
open PySem PySem.Spec PyProof.Rows
section
variable {prog : Program} {w : World} {A : Around} {E : Value → Shared → Prop} {h : Heap} {g : Array GenState} {d : Drawn} {t : Nat} {os : OsState}
variable {nm q : Str} {C N : Addr} {bs bm bmB : List Value} {hdct : Bool} {sn : List Str} {sub : List Value} {ab : Bool} {col : Option Bool} {dd : Option Addr} {k0 k1 k2 k3 k5 : Option Value} {B newId initId : String}
end
end L2
set_option Elab.async false
set_option linter.all false
set_option maxRecDepth 100000
set_option maxHeartbeats 4000000
namespace L2
open PySem PySem.Spec PyProof.Rows
open Builtin Builtin.ObjectAttr
section
variable {prog : Program} {w : World} {A : Around} {E : Value → Shared → Prop} {h : Heap} {g : Array GenState} {d : Drawn} {t : Nat} {os : OsState}
variable {nm q : Str} {C D N x : Addr} {bs bmB : List Value} {sn : List Str} {sub : List Value} {ab : Bool} {col : Option Bool} {dd : Option Addr} {k0 k1 k2 k3 k5 : Option Value} {newId name : Str} {nid sa owner B : String} {v : Value}
def Finds (M : Model) (h : Heap) (C : Addr) (name : Str) (r : Option Value) : Prop := ∀ (A : Around) (E : Value → Shared → Prop) (g : Array GenState) (d : Drawn) (t : Nat) (os : OsState) (Q : Option Value → Shared → Prop), Q r ⟨h, g, d, t, os⟩ → wpAny M A (typeLookup (.ref C) name) Q E ⟨h, g, d, t, os⟩
theorem Finds.go {M : Model} {r : Option Value} {Q : Option Value → Shared → Prop} (f : Finds M h C name r) (q : Q r ⟨h, g, d, t, os⟩) : wpAny M A (typeLookup (.ref C) name) Q E ⟨h, g, d, t, os⟩ := f _ _ _ _ _ _ _ q
theorem Finds.of {M : Model} {K : PySem.W.Frag} {r : Option Value} (X : K.In h) (e : PySem.W.findIn K (.ref C) name = some r) : Finds M h C name r := fun A E g d t os Q q => (PySem.W.looks_findIn X e).at q
end
end L2
set_option Elab.async false
set_option linter.all false
set_option maxRecDepth 100000
set_option maxHeartbeats 4000000
namespace L2
open PySem PySem.Spec PyProof.Rows
open Builtin Builtin.ObjectAttr
section
variable {prog : Program} {w : World} {A : Around} {E : Value → Shared → Prop} {h : Heap} {g : Array GenState} {d : Drawn} {t : Nat} {os : OsState}
variable {nm q : Str} {C D N x dx : Addr} {bs bmB : List Value} {sn : List Str} {sub : List Value} {ab : Bool} {col : Option Bool} {dd : Option Addr} {k0 k1 k2 k3 k5 : Option Value} {name : Str} {nid B : String} {v : Value} {mA : Str → Option Value}
theorem exc_check_ga {M : Model} {o : Obj} {nameV : Value} {Q : Unit → Shared → Prop} (hB : bmB.contains (.type "BaseException") = true) (hC : h.get? C = some (excClassObj nm q C N bs (.ref D :: bmB) true sn sub ab col dd k0 k1 k2 k3 k5 nid))
    (hx : h.get? x = some o) (hc : o.cls = .ref C) (hq : Q () ⟨h, g, d, t, os⟩) : wpAny M A (checkBuiltinCall "BaseException.__getattribute__" ⟨[.ref x, nameV], []⟩) Q E ⟨h, g, d, t, os⟩ := by
  have hk : builtinKind "BaseException.__getattribute__" = some .slot := by decide +kernel
  have hsplit : splitId "BaseException.__getattribute__" = some ("BaseException", "__getattribute__") := by decide +kernel
  have hcB : (Value.ref C :: .ref D :: bmB).contains (.type "BaseException") = true := by rw [List.contains_cons, List.contains_cons, hB, Bool.or_true, Bool.or_true]
  have ha := PySem.F.args_bexc_ga (.ref x) nameV
  simp only [checkBuiltinCall, hk, hsplit]
  refine wpAny_bind ?_
  · unfold isInstance
    repeat (first | (with_reducible refine wpAny_loadPart_at hx ?_; rw [hc]) | (with_reducible refine wpAny_isSubtype_exc hC ?_; rw [hcB]) | wp_step)
    exact hq
end
end L2
set_option Elab.async false
set_option linter.all false
set_option maxRecDepth 100000
set_option maxHeartbeats 4000000
namespace L2
open PySem PySem.Spec PyProof.Rows
section
variable {prog : Program} {w : World} {A : Around} {E : Value → Shared → Prop} {h : Heap} {g : Array GenState} {d : Drawn} {t : Nat} {os : OsState}
variable {nm q : Str} {C N : Addr} {bs bm bmB : List Value} {hdct : Bool} {sn : List Str} {sub : List Value} {ab : Bool} {col : Option Bool} {dd : Option Addr} {k0 k1 k2 k3 k5 : Option Value} {B newId initId : String}
theorem exc_make0 (F : ExcBaseFacts B newId initId bmB) (T : OwnTail h bmB bm) {mN : Str → Option Value} {rest : List Value} {Q : Fin → Shared → Prop}
    (hC : h.get? C = some (excClassObj nm q C N bs bm hdct sn sub ab col dd k0 k1 k2 k3 k5 newId)) (hn : h.Ns N mN) (hni : mN "__init__" = none)
    (hq : ∀ h', (∀ b o, h.get? b = some o → h'.get? b = some o) → h'.get? (h.objs.size + 1) = some { cls := .ref C, data := .fields #[.ref (h.objs.size + 2), .none, .none, .none, .bool false, .none] } → Q (.done (.ret (.ref (h.objs.size + 1)))) ⟨h', g, d, t, os⟩) (hrest : rest.length ≤ sizeLine) :
    wpAny (model prog w) A (Builtin.«type.__call__» ⟨.ref C :: rest, []⟩) Q E ⟨h, g, d, t, os⟩ := by
  repeat (first | with_reducible refine wpAny_loadPart_at hC ?_ | with_reducible refine wpAny_madeBy_exc hC ?_ | wp_step)
  refine codeAny_call_builtin_code (Code.quiet_builtin _ F.quiet) (wpAny_check_new_subT F T hC ?_)
  refine codeAny_exc_new_subT F T hC ?_ hrest
  show wpAny _ _ _ _ _ _
  have kp : ∀ b o, h.get? b = some o → ((h.push { cls := .type "tuple", data := .seq rest.toArray }).push { cls := .ref C, data := .fields #[.ref h.objs.size, .none, .none, .none, .bool false, .none] }).get? b = some o := fun b o e => Heap.get?_push_of_some _ (Heap.get?_push_of_some _ e)
  have hget : ((h.push { cls := .type "tuple", data := .seq rest.toArray }).push
      { cls := .ref C, data := .fields #[.ref h.objs.size, .none, .none, .none, .bool false, .none] }).get? (h.objs.size + 1) = some
      { cls := .ref C, data := .fields #[.ref h.objs.size, .none, .none, .none, .bool false, .none] } := by heap_get
  have hcC : (Value.ref C :: bm).contains (.ref C) = true := by simp
  have hC₁ := kp _ _ hC
  have T₁ := T.keeps kp
  unfold isInstance
  repeat (first | with_reducible refine wpAny_loadPart_at hget ?_ | (with_reducible refine wpAny_isSubtype_exc hC₁ ?_; rw [hcC]) | wp_step)
  show wpAny _ _ (typeLookup (.ref C) _) _ _ _
  refine wpAny_typeLookup_tail hC₁ (hn.keeps kp) T₁ F.mroIs F.init.lookup ?_
  rw [hni]
  refine wpAny_holding (wpAny_bind (wpAny_of_eq (F.init.bind _) ?_))
  refine wpAny_bind (wpAny_call (codeAny_call_builtin F.init.plain F.initEntry (wpAny_check_init_subT F T₁ hC₁ hget rfl ?_)))
  wp_walk
  refine hq _ (fun b o hb => ?_) ?_
  · rw [Heap.get?_update_other _ _ (Nat.ne_of_gt (Nat.lt_succ_of_lt (Heap.lt_size hb)))]
    exact Heap.get?_push_of_some _ (Heap.get?_push_of_some _ (Heap.get?_push_of_some _ hb))
  · rw [Heap.get?_update_self _ (Heap.get?_push_of_some _ hget) rfl]
    simp only [Heap.size_push]
    rfl
theorem call_exc_make0 (F : ExcBaseFacts B newId initId bmB) (T : OwnTail h bmB bm) {mN : Str → Option Value} {rest : List Value} {Q : Value → Shared → Prop}
    (hC : h.get? C = some (excClassObj nm q C N bs bm hdct sn sub ab col dd k0 k1 k2 k3 k5 newId)) (hn : h.Ns N mN) (hni : mN "__init__" = none)
    (hq : ∀ h', (∀ b o, h.get? b = some o → h'.get? b = some o) → h'.get? (h.objs.size + 1) = some { cls := .ref C, data := .fields #[.ref (h.objs.size + 2), .none, .none, .none, .bool false, .none] } → Q (.ref (h.objs.size + 1)) ⟨h', g, d, t, os⟩) (hrest : rest.length ≤ sizeLine) :
    wpAny (model prog w) A (call (.ref C) rest) Q E ⟨h, g, d, t, os⟩ := by
  have f1 := tc_lookup
  have f2 := tc_bind (.ref C)
  have hT : (⟨h, g, d, t, os⟩ : Shared).TypeIs (.ref C) "type" := ⟨_, hC, rfl⟩
  refine wpAny_call (codeAny_of_tree ?_)
  show wpAny _ _ (callAny (.ref C) _) _ _ _
  repeat (any_goals (first | assumption | with_reducible refine wpAny_loadPart_at hC ?_ | wp_step))
  refine ⟨rfl, ?_⟩
  exact codeAny_call_builtin_at (Code.quiet_builtin _ (by decide +kernel)) entry_typeCall (wpAny_check_type_call_sub hC (exc_make0 F T hC hn hni hq hrest))
end
end L2
set_option Elab.async false
set_option linter.all false
set_option maxRecDepth 100000
set_option maxHeartbeats 4000000
namespace L2
open PySem PySem.Spec PyProof.Rows
abbrev bmVE : List Value := [.type "ValueError", .type "Exception", .type "BaseException", .type "object"]
def excφ (a C : Addr) (dx : Option Addr) (h : Heap) : Prop := ∃ t, h.get? a = some { cls := .ref C, dict := dx, data := .fields #[.ref t, .none, .none, .none, .bool false, .none] }
def ExO (a C : Addr) (dx : Option Addr) : HO := .ext (excφ a C dx)
theorem exO_ok {P : Program} {w : World} {H : Hp} {h : Heap} {a C : Addr} {dx : Option Addr} {t : Addr} (e : h.get? a = some { cls := .ref C, dict := dx, data := .fields #[.ref t, .none, .none, .none, .bool false, .none] }) : ObjOk P w H h a (ExO a C dx) :=
  ⟨⟨t, e⟩, ⟨_, e⟩, fun h1 h2 ⟨t', e1⟩ k => ⟨t', k _ e1⟩⟩
structure XC (K : PySem.W.Frag) (C D N : Addr) : Prop where
  sh : ∃ nm q bs sn sub ab col dd k0 k1 k2 k3 k5, K.lookup C = some (excClassObj nm q C N bs (.ref D :: bmVE) true sn sub ab col dd k0 k1 k2 k3 k5 "ValueError.__new__")
  tl : PySem.W.tailIn K bmVE (.ref D :: bmVE) = true
  ns : PySem.W.nsOkIn K N = true
  sa : PySem.W.findIn K (.ref C) "__setattr__" = some (some (.builtin "object.__setattr__"))
  ga : PySem.W.findIn K (.ref C) "__getattribute__" = some (some (.builtin "BaseException.__getattribute__"))
  gx : PySem.W.findIn K (.ref C) "__getattr__" = some none
  kp : PySem.W.keepIn K (.ref C) = true
section
variable {X : Cx} {pins : List (Addr × Obj)} {σ : St} {H : Hp} {s : Shared} {C D N : Addr}
def tExc0 (C : Addr) : TE := fun σ H Q => ∀ e, H e = none → Q (.ref e) (upd H e (ExO e C none))
theorem pe_exc0 {x : Str} {p pos : Pos} (c : XC X.K C D N) (ni : PySem.W.nsIn X.K N "__init__" = some none) (hg : Gl X x) (hm : X.mg x = some (.ref C)) (hdb : (x == ("__debug__" : Str)) = false := by decide) :
    PE X (.Call (.Name x p) [] [] pos) (tExc0 C) := by
  intro pins s σ H Q I h
  refine wpAny_Call_Name_kw (ld_glob I hg hm ?_ hdb)
  refine PySem.W.callWith_K0 I.kIn c.kp ?_
  obtain ⟨nm, q, bs, sn, sub, ab, col, dd, k0, k1, k2, k3, k5, lk⟩ := c.sh
  have hC := I.kIn _ _ lk
  have hn := Heap.Ns.of_isNs (PySem.W.isNs_of_in I.kIn c.ns)
  have hni := PySem.W.nsMap_none_of_in I.kIn c.ns ni
  have T := PySem.W.tail_of_in I.kIn c.tl
  obtain ⟨hh, g, d, t, os⟩ := s
  refine call_exc_make0 PySem.F.excBase_ValueError T hC hn hni (fun h' k e => ?_) (Nat.zero_le _)
  exact ⟨.ref _, _, I.laid (t' := t) k (Nat.le_succ _) (exO_ok e), rfl, h _ (I.hok.fresh (Nat.le_succ _))⟩
end
end L2
set_option Elab.async false
set_option linter.all false
set_option maxRecDepth 100000
set_option maxHeartbeats 4000000
namespace L2
open PySem PySem.Spec PyProof.Rows
open Builtin Builtin.ObjectAttr
section
variable {prog : Program} {w : World} {A : Around} {E : Value → Shared → Prop} {h : Heap} {g : Array GenState} {d : Drawn} {t : Nat} {os : OsState}
variable {nm q : Str} {C D N x : Addr} {bs bmB : List Value} {sn : List Str} {sub : List Value} {ab : Bool} {col : Option Bool} {dd : Option Addr} {k0 k1 k2 k3 k5 : Option Value} {nid : String} {K : PySem.W.Frag}
theorem exc_class_entry {tk : Tok} {o : Obj} {od : Option Obj} {Q : Fin → Shared → Prop} (X : K.In h) (hC : h.get? C = some (excClassObj nm q C N bs (.ref D :: bmB) true sn sub ab col dd k0 k1 k2 k3 k5 nid))
    (hl : Finds (model prog w) h C "__class__" (some (.builtin "object.__class__"))) (I : PySem.W.InstAt h x o C od) (hm : PySem.W.mroIn K C (.type "object") = some true) (hq : Q (.done (.ret (.ref C))) ⟨h, g, d, t, os⟩) :
    wpAny (model prog w) A (Builtin.«object.__getattribute__» ⟨[.ref x, .str "__class__" tk], []⟩) Q E ⟨h, g, d, t, os⟩ := by
  have hx := I.at_
  have hc : o.cls = .ref C := I.cls
  have f5 := PySem.F.typeOf_object_class
  have f6 := PySem.F.slot_gs_get.lookup
  have f7 := PySem.F.slot_gs_set.lookup
  have hT5 : (⟨h, g, d, t, os⟩ : Shared).TypeIs (.builtin "object.__class__") "getset_descriptor" := f5
  unfold Builtin.«object.__getattribute__»
  repeat (any_goals (first | assumption | (with_reducible refine wpAny_loadPart_at hx ?_; rw [hc]) | (with_reducible refine Finds.go hl ?_) | wp_step))
  refine PySem.W.class_get (K := K) (s := ⟨h, g, d, t, os⟩) X I hm ?_
  repeat (any_goals (first | assumption | wp_step))
theorem exc_class_attr {o : Obj} {od : Option Obj} {Q : Option Value → Shared → Prop} (X : K.In h) (hB : bmB.contains (.type "BaseException") = true) (hC : h.get? C = some (excClassObj nm q C N bs (.ref D :: bmB) true sn sub ab col dd k0 k1 k2 k3 k5 nid))
    (hg : Finds (model prog w) h C "__getattribute__" (some (.builtin "BaseException.__getattribute__"))) (hh : Finds (model prog w) h C "__getattr__" none)
    (hl : Finds (model prog w) h C "__class__" (some (.builtin "object.__class__"))) (I : PySem.W.InstAt h x o C od) (hm : PySem.W.mroIn K C (.type "object") = some true)
    (hq : Q (some (.ref C)) ⟨h, g, d, t + 1, os⟩) : wpAny (model prog w) A (getAttr? (.ref x) "__class__") Q E ⟨h, g, d, t, os⟩ := by
  have hx := I.at_
  have hc : o.cls = .ref C := I.cls
  have f3 := PySem.F.attrBase_ValueError.ga.bind (.ref x)
  have hx2 : (Value.builtin "BaseException.__getattribute__" == Value.builtin "object.__getattribute__") = false := by decide +kernel
  have hx1 : (onTheHeap (Value.ref C) && Value.builtin "BaseException.__getattribute__" == Value.builtin "object.__getattribute__") = false := by rw [hx2]; rfl
  unfold getAttr? getAttrBy? getAttrBy
  repeat (any_goals (first | assumption | (with_reducible refine wpAny_loadPart_at hx ?_; rw [hc]) | (with_reducible refine Finds.go hg ?_) | (with_reducible refine Finds.go hh ?_) | wp_step))
  refine codeAny_call_builtin PySem.F.attrBase_ValueError.ga.plain PySem.F.entry_bexc_ga (exc_check_ga hB hC hx hc (exc_class_entry X hC hl I hm ?_))
  show wpAny _ _ (handedOut (.ref C)) _ _ _
  rw [PySem.W.handedOut_of rfl]
  exact wpAny_pure (wpAny_pure hq)
end
end L2
set_option Elab.async false
set_option linter.all false
set_option maxRecDepth 100000
set_option maxHeartbeats 4000000
namespace L2
open PySem PySem.Spec PyProof.Rows
structure XI (K : PySem.W.Frag) (C : Addr) : Prop where
  cl : PySem.W.findIn K (.ref C) "__class__" = some (some (.builtin "object.__class__"))
  ob : PySem.W.mroIn K C (.type "object") = some true
theorem kitx_exc {K : PySem.W.Frag} {C D N x : Addr} (c : XC K C D N) (xi : XI K C) : PySem.W.KitX K (.ref x) (.ref C) (fun h => ∃ o od, PySem.W.InstAt h x o C od) where
  ty := fun M h X ⟨o, od, I⟩ => I.type
  it := fun M h X _ => by
    obtain ⟨nm, q, bs, sn, sub, ab, col, dd, k0, k1, k2, k3, k5, lk⟩ := c.sh
    intro A' Q' E' s' k q
    unfold isType loadHead
    exact wpAny_bind (wpAny_loadPart (k _ _ (X _ _ lk)) (wpAny_pure q))
  ne := fun h tp dd its n sl X htp => by
    obtain ⟨nm, q, bs, sn, sub, ab, col, dd, k0, k1, k2, k3, k5, lk⟩ := c.sh
    refine Bool.eq_false_iff.mpr fun q => ?_
    have e : C = tp := Value.ref.inj (beq_iff_eq.mp q)
    subst e
    have z := (X _ _ lk).symm.trans htp
    simp at z
  ca := fun {prog w A E Q s} X ⟨o, od, I⟩ k => by
    obtain ⟨nm, q, bs, sn, sub, ab, col, dd, k0, k1, k2, k3, k5, lk⟩ := c.sh
    obtain ⟨hh, g, d, tk, os⟩ := s
    exact exc_class_attr X (by decide) (X _ _ lk) (Finds.of X c.ga) (Finds.of X c.gx) (Finds.of X xi.cl) I xi.ob k
section
variable {X : Cx}
end
end L2
set_option Elab.async false
set_option linter.all false
set_option maxRecDepth 100000
set_option maxHeartbeats 4000000
namespace L2
open PySem PySem.Spec PyProof.Rows
section
variable {X : Cx}
end
end L2
set_option Elab.async false
set_option linter.all false
set_option maxRecDepth 100000
set_option maxHeartbeats 4000000
set_option autoImplicit true
set_option relaxedAutoImplicit true
namespace L2
open PySem PySem.Spec PyProof.Rows
section
variable {X : Cx} {K : PySem.W.Frag}
theorem bt_ValueError : bootBuiltins "ValueError" = some (.type "ValueError") := by decide +kernel
theorem qpe_exc0 {x : Str} {p pos : Pos} {C D N : Addr} (hK : X.K = K) (c : XC K C D N) (ni : PySem.W.nsIn K N "__init__" = some none) (hg : Gl X x) (hm : X.mg x = some (.ref C)) (hdb : (x == ("__debug__" : Str)) = false := by decide) :
    QE X (.Call (.Name x p) [] [] pos) (tExc0 C) := by subst hK; exact ⟨pe_exc0 c ni hg hm hdb⟩
end
theorem kit_self {K : PySem.W.Frag} {C : Addr} : PySem.W.kitOne K (.ref C) (.ref C) = some true := if_pos (by simp)
end L2
set_option Elab.async false
set_option linter.all false
set_option maxRecDepth 100000
set_option maxHeartbeats 4000000
namespace HT
open PySem PyProof.Rows
section
open PySem.AutoSeq1 (wpAny_loadPart')
open PySem.MeetsSeq PySem.MeetsSeq2 PySem.MeetsSeq3
theorem tuple_add0 (l b : Addr) (items2 : Array Value) (n n2 : Nat) (dd dd2 : Option Addr) (sl sl2 : Array (Option Value)) :
    Meets (Builtin.«tuple.__add__» ⟨[.ref l, .ref b], []⟩)
      (fun _ R s => s.heap.get? l = some { cls := .type "tuple", dict := dd, data := .seq #[] n, slots := sl } ∧ s.heap.get? b = some { cls := .type "tuple", dict := dd2, data := .seq items2 n2, slots := sl2 } ∧ R (.ok (.ret (.ref b))) s) :=
  .of_wp fun prog w A R s h => by
    obtain ⟨hp, g, d, tk, os⟩ := s; obtain ⟨hl, hb, h⟩ := h
    have f2 := AutoSeq1.sub_tuple_tuple
    wp_walk using wpAny_loadPart' hl, wpAny_loadPart' hb
    exact ⟨_, rfl, h⟩
end
end HT
namespace L2
open PySem PySem.Spec PyProof.Rows
section
variable {X : Cx}
end
end L2
set_option Elab.async false
set_option linter.all false
set_option maxRecDepth 100000
set_option maxHeartbeats 4000000
set_option autoImplicit true
set_option relaxedAutoImplicit true
namespace L2
open PySem PySem.Spec PyProof.Rows
theorem ns_ok {K : PySem.W.Frag} {N : Addr} {no : Value} {nd : Option Addr} {es : Array DictEntry} {en : Nat} {nl : Array (Option Value)} (l : K.lookup N = some ⟨no, nd, .dict es en, nl⟩) (e : (es.all fun e => match e.key with | .str _ _ => true | _ => false) = true) : PySem.W.nsOkIn K N = true := by
  unfold PySem.W.nsOkIn
  rw [l]
  exact e
section
variable {K : PySem.W.Frag} {C C' D N N' : Addr} {nm q nm' q' : Str} {bs bm bs' bm' : List Value} {sn sn' : List Str} {sub sub' : List Value} {ab ab' hd hd' : Bool} {col col' : Option Bool} {dd dd' : Option Addr} {k0 k1 k2 k3 k5 j0 j1 j2 j3 j5 : Option Value} {nid nid' : String}
theorem tail_ok (l : K.lookup D = some (excClassObj nm q D N bs bm hd sn sub ab col dd k0 k1 k2 k3 k5 nid)) (ns : PySem.W.nsOkIn K N = true) (i : PySem.W.nsIn K N "__init__" = some none) : PySem.W.tailIn K bmVE (.ref D :: bmVE) = true := by
  unfold PySem.W.tailIn
  dsimp only
  rw [l]
  dsimp only
  rw [ns, i]
  have : PySem.W.tailIn K bmVE bmVE = true := by
    unfold PySem.W.tailIn
    simp
  rw [this]
  simp
theorem kit_sub {c : Value} (l : K.lookup C = some (excClassObj nm q C N bs bm hd sn sub ab col dd k0 k1 k2 k3 k5 nid)) : PySem.W.subIn K (.ref C) c = some ((Value.ref C :: bm).contains c) := by
  unfold PySem.W.subIn PySem.W.mroIn PySem.W.clsIn
  dsimp only
  rw [l]
  rfl
theorem kit_ne (l : K.lookup C = some (excClassObj nm q C N bs (.ref D :: bmVE) hd sn sub ab col dd k0 k1 k2 k3 k5 nid)) (l' : K.lookup C' = some (excClassObj nm' q' C' N' bs' bm' hd' sn' sub' ab' col' dd' j0 j1 j2 j3 j5 nid')) (ty : PySem.W.typeIn K (.ref C') = some (.type "type")) (n : C ≠ C') (nD : C' ≠ D) :
    PySem.W.kitOne K (.ref C) (.ref C') = some false := by
  unfold PySem.W.kitOne
  rw [if_neg (by simpa using n)]
  unfold PySem.W.kitCls
  have : ((PySem.W.clsIn K C').isSome && PySem.W.typeIn K (.ref C') == some (.type "type")) = true := by
    rw [ty]
    unfold PySem.W.clsIn
    rw [l']
    rfl
  dsimp only
  rw [if_pos this, kit_sub l]
  simp [Ne.symm n, nD]
theorem kit_V (l : K.lookup C = some (excClassObj nm q C N bs (.ref D :: bmVE) hd sn sub ab col dd k0 k1 k2 k3 k5 nid)) : PySem.W.kitOne K (.ref C) (.type "ValueError") = some true := by
  unfold PySem.W.kitOne
  rw [if_neg (by simp)]
  unfold PySem.W.kitCls
  dsimp only
  rw [if_pos (by decide +kernel), kit_sub l]
  simp
end
end L2
set_option Elab.async false
set_option linter.all false
set_option maxRecDepth 100000
set_option maxHeartbeats 4000000
namespace L2
open PySem PySem.Spec PyProof.Rows
section
variable {M : Model} {A : Around} {E : Value → Shared → Prop} {s : Shared}
theorem put_entry {base : Heap} {env : Env} {outer : List Env} {L e : Addr} {c : Value} {dx : Option Addr} {sl : Array (Option Value)} {vs : Array Value} {head : Value} {hn : Bool} {Q : Unit → Shared → Prop}
    (fr : A.frames = some (env :: outer)) (ff : s.heap.FunFrames base (env :: outer)) (ef : env.frame = some L) (he : s.heap.get? e = some ⟨c, dx, .fields vs, sl⟩) (ne : e ∉ frs (env :: outer)) (hsz : 1 < vs.size)
    (q : ∀ h' T oT ts, (∀ b o, b ≠ e → b ∉ frs (env :: outer) → s.heap.get? b = some o → h'.get? b = some o) → (∀ b o, b ≠ e → s.heap.get? b = some o → ∃ sl', h'.get? b = some { o with slots := sl' }) →
      h'.get? e = some ⟨c, dx, .fields (vs.setIfInBounds 1 (.ref T)), sl⟩ → s.heap.objs.size ≤ T → T ≠ e → h'.get? T = some oT → oT.data = .fields ts → ts[3]? = some (rawInt L) → Q () { s with heap := h' }) :
    wpAny M A (do let a ← frameOf env; let pl ← entryPlaceOf L hn; let b ← EntryCells.newEntry head a .none (rawInt L) .none pl; setField (.ref e) 1 b) Q E s := by
  refine wpAny_bind (wpAny_frameOf_fun fr ff ef fun h1 so => ?_)
  refine wpAny_bind (wpAny_entryPlaceOf fun pl ip => ?_)
  unfold EntryCells.newEntry newFields
  refine wpAny_bind (wpAny_newObj_type ?_ (ip.sizeOk5 _ _ _ _ _))
  have e1 : h1.get? e = some ⟨c, dx, .fields vs, sl⟩ := (so.2.1 e ne).trans he
  have e2 := Heap.get?_push_of_some (h := h1) (⟨.type "traceback", none, .fields ([head, .ref L, .none, rawInt L, .none] ++ (if pl.isEmpty then List.replicate 6 Value.none else pl)).toArray, #[]⟩ : Obj) e1
  refine wpAny_setField e2 rfl hsz ?_
  have nT : h1.objs.size ≠ e := Nat.ne_of_gt (Heap.lt_size e1)
  have kp : ∀ b o, b ≠ e → h1.get? b = some o → ((h1.push (⟨.type "traceback", none, .fields ([head, .ref L, .none, rawInt L, .none] ++ (if pl.isEmpty then List.replicate 6 Value.none else pl)).toArray, #[]⟩ : Obj)).update e (Obj.mapFields (·.setIfInBounds 1 (Value.ref h1.objs.size)))).get? b = some o := fun b o hb ho => by
    rw [Heap.get?_update_other _ _ (Ne.symm hb)]
    exact Heap.get?_push_of_some _ ho
  refine q _ h1.objs.size _ _ (fun b o hb hf ho => kp b o hb ((so.2.1 b hf).trans ho)) (fun b o hb ho => ?_) ?_ (Nat.le_of_eq so.1.symm) nT ((Heap.get?_update_other _ _ (Ne.symm nT)).trans (Heap.get?_push_size h1 rfl)) rfl ?_
  · obtain ⟨sl', e3⟩ := so.2.2 b o ho
    exact ⟨sl', kp b _ hb e3⟩
  · rw [Heap.get?_update_self _ e2 rfl]
    rfl
  · first
      | (simp; done)
      | (rcases ip with rfl | ⟨_, _, _, _, _, _, _, rfl⟩ <;> simp)
end
end L2
set_option Elab.async false
set_option linter.all false
set_option maxRecDepth 100000
set_option maxHeartbeats 4000000
namespace L2
open PySem PySem.Spec PyProof.Rows
section
variable {X : Cx} {pins : List (Addr × Obj)} {σ : St} {H H' : Hp} {s : Shared} {a C T : Addr} {dx : Option Addr} {fl : Option Value}
structure Own (X : Cx) (pins : List (Addr × Obj)) (H : Hp) (b : Addr) : Prop where
  new : X.s₀.heap.get? b = none
  free : H b = none
  loc : b ≠ X.env.locals
  cell : ∀ x c, X.env.cells.lookup x = some c → c ≠ b
  pin : ∀ p ∈ X.pn ++ pins, p.1 ≠ b
  fr : b ∉ frs X.stack
theorem Inv.frThere (I : Inv X pins σ H s) {b : Addr} (hb : b ∈ frs X.stack) : ∃ o, s.heap.get? b = some o := by
  obtain ⟨_, o, ho, _⟩ := I.stack.mem hb
  exact ⟨o, ho⟩
theorem Inv.own (I : Inv X pins σ H s) (hx : X.ex = []) {b : Addr} (n : s.heap.get? b = none) (hf : H' b = none) : Own X pins H' b := by
  refine ⟨?_, hf, ?_, fun x c e z => ?_, fun p hp z => ?_, fun hb => ?_⟩
  · cases e : X.s₀.heap.get? b with
    | none => rfl
    | some o =>
      obtain ⟨o', e'⟩ := I.base.there b o e (by rw [hx]; simp)
      rw [n] at e'; cases e'
  · rintro rfl
    obtain ⟨m, ⟨o, _, _, ho, _⟩, _⟩ := I.loc
    rw [n] at ho; cases ho
  · subst z
    obtain ⟨v, o, ho, _⟩ := I.cell x c e
    rw [n] at ho; cases ho
  · have := (I.pin p hp).1
    rw [z, n] at this; cases this
  · obtain ⟨o, ho⟩ := I.frThere hb
    rw [n] at ho; cases ho
theorem Inv.fly {h' : Heap} {t' : Nat} {φ : Addr → Prop} (I : Inv X pins σ H s) (hφ : ∀ b, φ b → Own X pins H b)
    (k : ∀ b o, ¬ φ b → b ∉ frs X.stack → s.heap.get? b = some o → h'.get? b = some o) (ks : ∀ b o, ¬ φ b → s.heap.get? b = some o → ∃ sl, h'.get? b = some { o with slots := sl }) : Inv X pins σ H { s with heap := h', toks := t' } := by
  have old : ∀ b o, X.s₀.heap.get? b = some o → ¬ φ b := fun b o e z => by rw [(hφ b z).new] at e; cases e
  have trd : ∀ b u, H b = some u → ¬ φ b ∧ b ∉ frs X.stack := fun b u e => ⟨fun z => (by rw [(hφ b z).free] at e; cases e), fun z => (by rw [I.stkFree b z] at e; cases e)⟩
  have cel : ∀ x c, X.env.cells.lookup x = some c → ∀ v, s.heap.IsCell c v → h'.IsCell c v := fun x c e v ⟨o, ho, hd⟩ => by
    obtain ⟨sl, q⟩ := ks c o (fun z => (hφ c z).cell x c e rfl) ho
    exact ⟨_, q, hd⟩
  refine ⟨I.ok, I.os, I.bare, ⟨fun b o e n hb hx => ?_, fun b o e n hb hx => ?_, I.base.free, fun b o e hx => ?_, I.base.tups, I.base.frzs, I.base.tbls⟩, ?_, fun x c e => ?_, I.free, I.freeC, fun p hp => ?_, fun b u e => ?_, I.len⟩
  · refine k b o (old b o e) (fun z => ?_) (I.base.keep b o e n hb hx)
    rcases List.mem_cons.mp (I.stkSub b z) with r | r
    · exact absurd (r ▸ Heap.lt_size e) (Nat.not_lt.mpr I.ok.above)
    · exact hb r
  · obtain ⟨sl, e1⟩ := I.base.slot b o e n hb hx
    obtain ⟨sl', e2⟩ := ks b _ (old b o e) e1
    exact ⟨sl', e2⟩
  · obtain ⟨o', e1⟩ := I.base.there b o e hx
    obtain ⟨sl, e2⟩ := ks b o' (old b o e) e1
    exact ⟨_, e2⟩
  · obtain ⟨m, ⟨o, es, ep, ho, r⟩, hl⟩ := I.loc
    obtain ⟨sl, e2⟩ := ks _ o (fun z => (hφ _ z).loc rfl) ho
    refine ⟨m, ⟨_, es, ep, e2, r⟩, fun i x v e1 e3 e4 => ?_⟩
    obtain ⟨u, ru, l⟩ := hl i x v e1 e3 e4
    refine ⟨u, ru, ?_⟩
    rcases l with l | ⟨kk, c, e, z⟩
    · exact .inl l
    · exact .inr ⟨kk, c, e, cel x c e _ z⟩
  · obtain ⟨v, z⟩ := I.cell x c e
    exact ⟨v, cel x c e v z⟩
  · obtain ⟨e, n, ne, nf, d⟩ := I.pin p hp
    refine ⟨k p.1 p.2 (fun z => (hφ _ z).pin p hp rfl) (fun z => ?_) e, n, ne, nf, d⟩
    rcases List.mem_cons.mp (I.stkSub _ z) with r | r
    · exact ne r
    · exact nf r
  · refine (I.hok b u e).stay (fun c v hc q => ?_) (fun _ q => q) fun _ _ q => q
    rcases hc with rfl | hc
    · exact k c v (trd c u e).1 (trd c u e).2 q
    · exact k c v (trd c _ hc).1 (trd c _ hc).2 q
structure FlS (X : Cx) (pins : List (Addr × Obj)) (H : Hp) (h : Heap) (a C : Addr) (dx : Option Addr) (fl : Option Value) : Prop where
  own : Own X pins H a
  ex : ∃ vs sl, h.get? a = some ⟨.ref C, dx, .fields vs, sl⟩ ∧ match fl with
    | none => vs[1]? = some .none
    | some f => ∃ T oT ts, vs[1]? = some (.ref T) ∧ Own X pins H T ∧ T ≠ a ∧ h.get? T = some oT ∧ oT.data = .fields ts ∧ ts[3]? = some f
theorem station {M : Model} {A : Around} {E : Value → Shared → Prop} {Q : Unit → Shared → Prop} (I : Inv X pins σ H s) (hA : A.frames = X.A.frames) (hs : X.stack = X.env :: X.outer ∧ X.env.frame = some X.env.locals) (hx : X.ex = []) (f : FlS X pins H s.heap a C dx fl) (hfl : fl = none ∨ fl = some .none)
    (q : ∀ s', Inv X pins σ H s' → FlS X pins H s'.heap a C dx (some (rawInt X.env.locals)) → Q () s') : wpAny M A (noteFrame (.ref a) X.env) Q E s := by
  obtain ⟨own, vs, sl, ea, r⟩ := f
  have fr : A.frames = some (X.env :: X.outer) := by rw [hA, I.ok.frames, hs.1]
  have ff := I.stack
  rw [hs.1] at ff
  have nf : a ∉ frs (X.env :: X.outer) := by rw [← hs.1]; exact own.fr
  unfold noteFrame
  simp only [hs.2]
  rcases hfl with rfl | rfl
  · have hsz : 1 < vs.size := (Array.getElem?_eq_some_iff.mp r).1
    refine wpAny_bind (wpAny_field ea rfl r ?_)
    rw [if_neg (by decide)]
    refine put_entry fr ff hs.2 ea nf hsz fun h' T oT ts k ks e1 zT nT eT dT fT => q _ (I.fly (t' := s.toks) (φ := fun b => b = a) (fun b e => e ▸ own) (fun b o e hb ho => k b o e (by rw [← hs.1]; exact hb) ho) fun b o e ho => ks b o e ho) ?_
    exact ⟨own, _, sl, e1, T, oT, ts, by simp [hsz], I.own hx (Heap.get?_none_of_le zT) (I.hok.fresh zT), nT, eT, dT, fT⟩
  · obtain ⟨T0, o0, t0, v1, ow0, n0, e0, d0, f0⟩ := r
    have hsz : 1 < vs.size := (Array.getElem?_eq_some_iff.mp v1).1
    refine wpAny_bind (wpAny_field ea rfl v1 ?_)
    rw [if_pos (show (Value.ref T0 != Value.none) = true from by simp)]
    refine wpAny_bind (wpAny_field e0 d0 f0 ?_)
    rw [if_neg (show ¬ ((Value.none == rawInt X.env.locals) = true) from by simp [rawInt])]
    refine wpAny_bind (wpAny_setField e0 d0 (Array.getElem?_eq_some_iff.mp f0).1 ?_)
    have oth : ∀ b, b ≠ T0 → (s.heap.update T0 (Obj.mapFields (·.setIfInBounds 3 Value.none))).get? b = s.heap.get? b := fun b hb => Heap.get?_update_other _ _ (Ne.symm hb)
    have I1 : Inv X pins σ H { s with heap := s.heap.update T0 (Obj.mapFields (·.setIfInBounds 3 Value.none)) } :=
      I.fly (t' := s.toks) (φ := fun b => b = T0) (fun b e => e ▸ ow0) (fun b o e _ ho => (oth b e).trans ho) fun b o e ho => ⟨o.slots, (oth b e).trans ho⟩
    have ff1 := I1.stack
    rw [hs.1] at ff1
    refine put_entry (s := { s with heap := s.heap.update T0 (Obj.mapFields (·.setIfInBounds 3 Value.none)) }) fr ff1 hs.2 ((oth a (Ne.symm n0)).trans ea) nf hsz fun h' T oT ts k ks e1 zT nT eT dT fT => q _ (I1.fly (t' := s.toks) (φ := fun b => b = a) (fun b e => e ▸ own) (fun b o e hb ho => k b o e (by rw [← hs.1]; exact hb) ho) fun b o e ho => ks b o e ho) ?_
    exact ⟨own, _, sl, e1, T, oT, ts, by simp [hsz], I1.own hx (Heap.get?_none_of_le zT) (I1.hok.fresh zT), nT, eT, dT, fT⟩
theorem land {M : Model} {A : Around} {E : Value → Shared → Prop} {Q : Unit → Shared → Prop} {fv : Value} (I : Inv X pins σ H s) (f : FlS X pins H s.heap a C dx (some fv))
    (q : ∀ s', Inv X pins σ H s' → FlS X pins H s'.heap a C dx (some .none) → Q () s') : wpAny M A (setFlight (.ref a) none) Q E s := by
  obtain ⟨own, vs, sl, ea, T0, o0, t0, v1, ow0, n0, e0, d0, f0⟩ := f
  have h3 : 3 < t0.size := (Array.getElem?_eq_some_iff.mp f0).1
  have oth : ∀ b, b ≠ T0 → (s.heap.update T0 (Obj.mapFields (·.setIfInBounds 3 ((none : Option Addr).elim Value.none fun f => rawInt f)))).get? b = s.heap.get? b := fun b hb => Heap.get?_update_other _ _ (Ne.symm hb)
  unfold setFlight
  refine wpAny_bind (wpAny_field ea rfl v1 ?_)
  rw [if_pos (show (Value.ref T0 != Value.none) = true from by simp)]
  refine wpAny_setField e0 d0 h3 (q _ (I.fly (t' := s.toks) (φ := fun b => b = T0) (fun b e => e ▸ ow0) (fun b o e _ ho => (oth b e).trans ho) fun b o e ho => ⟨o.slots, (oth b e).trans ho⟩) ?_)
  exact ⟨own, vs, sl, (oth a (Ne.symm n0)).trans ea, T0, _, _, v1, ow0, n0, Heap.get?_update_self _ e0 (Obj.isFreed_of_fields (Obj.data_mapFields d0 _)), Obj.data_mapFields d0 _, by simp [h3]⟩
end
def CXE (P : Program) (w : World) : CXT := fun outer H s E e s' => ∃ a C dx H', e = .ref a ∧ s'.os = s.os ∧ AllBare s'.gens ∧ Un (frs outer) [] H H' s.heap s'.heap ∧ HOk P w H' s'.heap ∧ (s.heap.get? a = none ∧ H' a = none) ∧
  (∃ vs sl T oT ts, s'.heap.get? a = some ⟨.ref C, dx, .fields vs, sl⟩ ∧ vs[1]? = some (.ref T) ∧ (s.heap.get? T = none ∧ H' T = none) ∧ T ≠ a ∧ s'.heap.get? T = some oT ∧ oT.data = .fields ts ∧ ts[3]? = some .none) ∧ E (.ref C) dx H'
def Leaves (X : Cx) (E : XK) : Prop := ∀ (pins : List (Addr × Obj)) (σ : St) (H : Hp) (s : Shared) (a C : Addr) (dx : Option Addr) (fl : Option Value), Inv X pins σ H s → FlS X pins H s.heap a C dx fl → (fl = none ∨ fl = some .none) → E (.ref C) dx H → X.xe (.ref a) s
section
variable {X : Cx} {E : XK}
theorem cx_at {pins : List (Addr × Obj)} {σ : St} {H H1 : Hp} {s s' : Shared} {P : Program} {w : World} (I : Inv X pins σ H s) (hP : X.prog = P) (hw : X.w = w) (hx : X.ex = []) {e : Value} (h : CXE P w X.stack H s E e s') :
    ∃ a C dx H', e = .ref a ∧ Inv X pins σ H' s' ∧ FlS X pins H' s'.heap a C dx (some .none) ∧ E (.ref C) dx H' := by
  subst hP hw
  obtain ⟨a, C, dx, H', rfl, os, bare, un, hok, ⟨na, fa⟩, ⟨vs, sl, T, oT, ts, ea, v1, ⟨nT, fT⟩, nTa, eT, dT, f3⟩, hE⟩ := h
  have I' : Inv X pins σ H' s' := I.call' os un hok bare (fun b z => absurd z (by simp))
  exact ⟨a, C, dx, H', rfl, I', ⟨I.own hx na fa, vs, sl, ea, T, oT, ts, v1, I.own hx nT fT, nTa, eT, dT, f3⟩, hE⟩
theorem Leaves.passes (l : Leaves X E) (hx : X.ex = []) : Passes (CXE X.prog X.w) X E := fun pins σ H s e s' I h => by
  obtain ⟨a, C, dx, H', rfl, I', f, hE⟩ := cx_at (H1 := H) I rfl rfl hx h
  exact l pins σ H' s' a C dx _ I' f (.inr rfl) hE
theorem leaves_of {P : Program} {w : World} {K : PySem.W.Frag} {mg : Str → Option Value} {base : Heap} {N : List Str} {qual : Str} {scope : Scope} {f : Addr} {cd : Value} {A : Around} {outer : List Env} {s : Shared} {H : Hp} :
    Leaves (cxOf (CXE P w) P w K mg base N qual scope f cd A outer s H E) E := by
  intro pins σ H1 s1 a C dx fl I fS hfl hE
  show wpAny _ _ (leaving _ _) _ _ _
  unfold leaving
  refine wpAny_bind (station I rfl ⟨rfl, rfl⟩ rfl fS hfl fun s2 I2 f2 => land I2 f2 fun s3 I3 f3 => ?_)
  obtain ⟨own, vs, sl, ea, T, oT, ts, v1, ow, nT, eT, dT, f3⟩ := f3
  exact ⟨a, C, dx, H1, rfl, I3.os, I3.bare, I3.base, I3.hok, ⟨own.new, own.free⟩, ⟨vs, sl, T, oT, ts, ea, v1, ⟨ow.new, ow.free⟩, nT, eT, dT, f3⟩, hE⟩
theorem passOwn_of {P : Program} {w : World} {K : PySem.W.Frag} {mg : Str → Option Value} {base : Heap} {N : List Str} {qual : Str} {scope : Scope} {f : Addr} {cd : Value} {A : Around} {outer : List Env} {s : Shared} {H : Hp} {CX : CXT} :
    PassesOwn (model P w) (cxOf CX P w K mg base N qual scope f cd A outer s H E).A (cxOf CX P w K mg base N qual scope f cd A outer s H E).env (cxOf CX P w K mg base N qual scope f cd A outer s H E).xe := PassesOwn.leaving
end
end L2
set_option Elab.async false
set_option linter.all false
set_option maxRecDepth 100000
set_option maxHeartbeats 4000000
namespace L2
open PySem PySem.Spec PyProof.Rows
section
variable {M : Model} {A : Around} {E : Value → Shared → Prop} {s : Shared} {env : Env}
variable {nm q : Str} {C N : Addr} {bs bm : List Value} {hdct : Bool} {sn : List Str} {sub : List Value} {ab : Bool} {col : Option Bool} {dd : Option Addr} {k0 k1 k2 k3 k5 : Option Value} {newId : String}
theorem matches_sub {h : Heap} {g : Array GenState} {d : Drawn} {t : Nat} {os : OsState} {e D N' : Addr} {oe : Obj} {nm' q' : Str} {bs' bm' : List Value} {hd' : Bool} {sn' : List Str} {sub' : List Value} {ab' : Bool} {col' : Option Bool} {dd' : Option Addr} {j0 j1 j2 j3 j5 : Option Value} {nid' : String} {Q : Bool → Shared → Prop}
    (hC : h.get? C = some (excClassObj nm q C N bs bm hdct sn sub ab col dd k0 k1 k2 k3 k5 newId)) (hD : h.get? D = some (excClassObj nm' q' D N' bs' bm' hd' sn' sub' ab' col' dd' j0 j1 j2 j3 j5 nid')) (ee : h.get? e = some oe) (ec : oe.cls = .ref C) (hb : (Value.ref D :: bm').contains (.type "BaseException") = true)
    (hi : (Value.ref C :: bm).contains (.ref D) = true) (hq : Q true ⟨h, g, d, t, os⟩) : wpAny M A (excMatches (.ref e) (.ref D)) Q E ⟨h, g, d, t, os⟩ := by
  have f := tc_notTuple
  unfold excMatches
  repeat (first | (with_reducible refine wpAny_loadPart_at ee ?_; rw [ec]) | with_reducible refine wpAny_loadPart_at hD ?_ | with_reducible refine wpAny_loadPart_at hC ?_ | (with_reducible refine wpAny_isSubtype_exc hD ?_; rw [hb]) | (with_reducible refine wpAny_isSubtype_exc hC ?_; rw [hi]) | wp_step)
  exact hq
end
section
variable {X : Cx} {pins : List (Addr × Obj)} {σ : St} {H H' : Hp} {s : Shared} {a C D N : Addr} {dx : Option Addr}
def dropH (H : Hp) (a : Addr) : Hp := fun b => if b = a then none else H b
theorem dropH_same {H : Hp} {a : Addr} : dropH H a a = none := if_pos rfl
theorem dropH_ne {H : Hp} {a b : Addr} (h : b ≠ a) : dropH H a b = H b := if_neg h
theorem Inv.dropX (I : Inv X pins σ H s) {φ : Heap → Prop} (e : H a = some (.ext φ)) : Inv X pins σ (dropH H a) s := by
  have nn : ∀ b, H b = none → dropH H a b = none := fun b n => by unfold dropH; split <;> first | rfl | exact n
  have ne : ∀ b u, H b = some u → (∀ φ, u ≠ .ext φ) → b ≠ a := fun b u q n z => by subst z; rw [e] at q; cases q; exact n _ rfl
  refine ⟨I.ok, I.os, I.bare, ⟨I.base.keep, I.base.slot, fun b o q n hx => nn b (I.base.free b o q n hx), I.base.there, fun b xs q => ?_, fun b o u q => ?_, fun b ps q => ?_⟩, I.loc, I.cell, nn _ I.free, fun x c q => nn c (I.freeC x c q), fun p hp => ?_, fun b u q => ?_, I.len⟩
  · have := I.base.tups b xs q
    rw [dropH_ne (ne b _ this fun _ z => by cases z)]; exact this
  · have := I.base.frzs b o u q
    rw [dropH_ne (ne b _ this fun _ z => by cases z)]; exact this
  · obtain ⟨more, e1⟩ := I.base.tbls b ps q
    exact ⟨more, by rw [dropH_ne (ne b _ e1 fun _ z => by cases z)]; exact e1⟩
  · obtain ⟨e1, n, r⟩ := I.pin p hp
    exact ⟨e1, nn _ n, r⟩
  · have hb : b ≠ a := fun z => by rw [z, dropH_same] at q; cases q
    rw [dropH_ne hb] at q
    exact (I.hok b u q).stay (fun _ _ _ z => z) (fun c z => by rw [dropH_ne (ne c _ z fun _ r => by cases r)]; exact z) fun c xs z => by rw [dropH_ne (ne c _ z fun _ r => by cases r)]; exact z
def tRaise (K : PySem.W.Frag) (H₀ : Hp) (E : XK) (te : TE) : TS := fun D σ H => te σ H fun v H1 => ∃ a C D' N dx, v = .ref a ∧ H1 a = some (ExO a C dx) ∧ XC K C D' N ∧ H₀ a = none ∧ E (.ref C) dx (dropH H1 a)
theorem ps_raise {e : Expr} {te : TE} {pos : Pos} {E : XK} (hc : X.calm = true) (hx : X.ex = []) (l : Leaves X E) (he : PE X e te) : PS X (.Raise (some e) none pos) (tRaise X.K X.H₀ E te) := by
  intro pins s σ H En I h
  rw [arm_exec_Raise]
  refine wpAny_bind (wpAny_standAt ?_)
  show wpAny _ _ (raiseStmt X.env (some (do let v ← eval e X.env; standAt pos; pure v)) none) _ _ s
  unfold raiseStmt
  refine wpAny_bind (wpAny_bind (thn (he pins s σ H _ I h) fun v s1 ⟨x, H1, I1, rx, a, C, D', N, dx, ex, ea, c, n0, q⟩ => wpAny_bind (wpAny_standAt (wpAny_pure ?_))))
  subst ex
  obtain rfl : v = Value.ref a := rx
  obtain ⟨nm, qn, bs, sn, sub, ab, col, dd, k0, k1, k2, k3, k5, lk⟩ := c.sh
  have hC := I1.kIn _ _ lk
  obtain ⟨⟨t0, eo⟩, _, _⟩ := (show ObjOk X.prog X.w H1 s1.heap a (ExO a C dx) from I1.hok a _ ea)
  have hh := I1.ok.hd hc
  have I2 := I1.dropX ea
  have nloc : ∀ b, H1 b = none → b ≠ a := fun b n z => by subst z; rw [ea] at n; cases n
  have own : Own X pins (dropH H1 a) a := by
    refine ⟨?_, dropH_same, Ne.symm (nloc _ I1.free), fun x c e => nloc c (I1.freeC x c e), fun p hp => nloc _ (I1.pin p hp).2.1, fun hb => nloc a (I1.stkFree a hb) rfl⟩
    cases e1 : X.s₀.heap.get? a with
    | none => rfl
    | some o =>
      have := I1.base.free a o e1 n0 (by rw [hx]; simp)
      rw [ea] at this; cases this
  have hE : X.xe (.ref a) s1 := l pins σ (dropH H1 a) s1 a C dx none I2 ⟨own, _, _, eo, rfl⟩ (.inl rfl) q
  have inB : (Value.ref C :: .ref D' :: bmVE).contains (.type "BaseException") = true := by simp
  obtain ⟨hp, g, d, tk, os⟩ := s1
  repeat (first | with_reducible refine wpAny_loadPart_at eo ?_ | with_reducible refine wpAny_loadPart_at hC ?_ | (with_reducible refine wpAny_isSubtype_exc hC ?_; rw [inB]) | wp_step)
  exact wpAny_raiseNew_none hh hE
end
end L2
set_option Elab.async false
set_option linter.all false
set_option maxRecDepth 100000
set_option maxHeartbeats 4000000
namespace L2
open PySem PySem.Spec PyProof.Rows
def excW (a C : Addr) (dx : Option Addr) (h : Heap) : Prop := ∃ vs sl, h.get? a = some ⟨.ref C, dx, .fields vs, sl⟩
def ExW (a C : Addr) (dx : Option Addr) : HO := .ext (excW a C dx)
theorem exW_ok {P : Program} {w : World} {H : Hp} {h : Heap} {a C : Addr} {dx : Option Addr} {vs : Array Value} {sl : Array (Option Value)} (e : h.get? a = some ⟨.ref C, dx, .fields vs, sl⟩) : ObjOk P w H h a (ExW a C dx) :=
  ⟨⟨vs, sl, e⟩, ⟨_, e⟩, fun h1 h2 ⟨v, l, e1⟩ k => ⟨v, l, k _ e1⟩⟩
section
variable {X : Cx} {pins : List (Addr × Obj)} {σ : St} {H H' : Hp} {s : Shared} {a C D N : Addr} {dx : Option Addr} {A' : Around}
theorem Inv.track (I : Inv X pins σ H s) (o : Own X pins H a) {vs : Array Value} {sl : Array (Option Value)} (e : s.heap.get? a = some ⟨.ref C, dx, .fields vs, sl⟩) : Inv X pins σ (upd H a (ExW a C dx)) s := by
  have nn : ∀ b, b ≠ a → H b = none → upd H a (ExW a C dx) b = none := fun b h n => by rw [upd_ne h]; exact n
  have tr : ∀ b u, H b = some u → upd H a (ExW a C dx) b = some u := fun b u q => by rw [upd_ne (ne_of_none q o.free)]; exact q
  refine ⟨I.ok, I.os, I.bare, ⟨I.base.keep, I.base.slot, fun b ob q n hx => nn b (fun z => by subst z; rw [o.new] at q; cases q) (I.base.free b ob q n hx), I.base.there, fun b xs q => tr _ _ (I.base.tups b xs q), fun b ob u q => tr _ _ (I.base.frzs b ob u q), fun b ps q => ?_⟩, I.loc, I.cell, nn _ (Ne.symm o.loc) I.free, fun x c q => nn c (o.cell x c q) (I.freeC x c q), fun p hp => ?_, fun b u q => ?_, I.len⟩
  · obtain ⟨more, e1⟩ := I.base.tbls b ps q
    exact ⟨more, tr _ _ e1⟩
  · obtain ⟨e1, n, r⟩ := I.pin p hp
    exact ⟨e1, nn _ (o.pin p hp) n, r⟩
  · by_cases hb : b = a
    · subst hb
      rw [upd_same] at q
      cases q
      exact exW_ok e
    · rw [upd_ne hb] at q
      exact (I.hok b u q).stay (fun _ _ _ z => z) (fun c z => tr _ _ z) fun c xs z => tr _ _ z
abbrev Cx.late (X : Cx) (A' : Around) : Cx := { X with A := A', calm := false }
theorem Cx.Ok.late (ok : X.Ok) (hA : A'.frames = X.A.frames) : (X.late A').Ok :=
  ⟨ok.mod, ok.kind, ok.glob, ok.blt, ok.above, ok.inj, ok.has, ok.cab, fun z => (nomatch z), hA.trans ok.frames, ok.stk, ok.exf, ok.bs, ok.bsz, ok.noex, ok.exfs, ok.funs, ok.frf⟩
theorem Inv.late (I : Inv X pins σ H s) (hA : A'.frames = X.A.frames) : Inv (X.late A') pins σ H s := ⟨I.ok.late hA, I.os, I.bare, I.base, I.loc, I.cell, I.free, I.freeC, I.pin, I.hok, I.len⟩
theorem Inv.unlate (ok : X.Ok) (I : Inv (X.late A') pins σ H s) : Inv X pins σ H s := ⟨ok, I.os, I.bare, I.base, I.loc, I.cell, I.free, I.freeC, I.pin, I.hok, I.len⟩
def XT (K : PySem.W.Frag) (T : Addr) : Prop := ∃ nm q N bs bm hd sn sub ab col dd k0 k1 k2 k3 k5 nid, K.lookup T = some (excClassObj nm q T N bs bm hd sn sub ab col dd k0 k1 k2 k3 k5 nid) ∧ bm.contains (.type "BaseException") = true
def hdl (K : PySem.W.Frag) (T : Addr) (j : Nat) (ts : TS) (En : Ends) (σ : St) : XK := fun c dx H => ∃ C D N, c = .ref C ∧ XC K C D N ∧ (T = D ∨ T = C) ∧
  ∀ a, H a = none → ts { nx := fun σ' H' => En.nx (σ'.set j none) H', rt := En.rt } (σ.set j (some (.ref a))) (upd H a (ExW a C dx))
theorem Inv.goes {E : Value → Shared → Prop} {M : Model} {A : Around} {j : Nat} {n : Str} {pos : Pos} {Q : Unit → Shared → Prop} (I : Inv X pins σ H s) (hN : X.N.Nodup) (hj : X.N[j]? = some n) (hl : X.env.scope.names.lookup n = some .local)
    (q : ∀ s', Inv X pins (σ.set j none) H s' → Q () s') : wpAny M A (do bindName X.env n .none; unbindBehindTheSuite X.env n pos) Q E s := by
  obtain ⟨m, hn, hlk⟩ := I.loc
  refine wpAny_nameGoes_keeps hl hn (by rw [I.ok.kind]; rfl) fun h' v hn' hs => q _ ?_
  have oth : ∀ b, b ≠ X.env.locals → h'.get? b = s.heap.get? b := fun b hb => hs.2 b hb
  have old : ∀ b o, X.s₀.heap.get? b = some o → b ≠ X.env.locals := fun b o e => Nat.ne_of_lt (Nat.lt_of_lt_of_le (Heap.lt_size e) I.ok.above)
  refine ⟨I.ok, I.os, I.bare, ⟨fun b o e n' hb hx => (oth b (old b o e)).trans (I.base.keep b o e n' hb hx), fun b o e n' hb hx => ?_, I.base.free, fun b o e hx => ?_, I.base.tups, I.base.frzs, I.base.tbls⟩, ⟨_, hn', fun i x u e1 e2 e3 => ?_⟩, fun x c e => ?_, I.free, I.freeC, fun p hp => ?_, fun b u e => ?_, by simpa using I.len⟩
  · obtain ⟨sl, z⟩ := I.base.slot b o e n' hb hx
    exact ⟨sl, (oth b (old b o e)).trans z⟩
  · obtain ⟨o', z⟩ := I.base.there b o e hx
    exact ⟨o', (oth b (old b o e)).trans z⟩
  · have hij : i ≠ j := fun z => by
      subst z
      rw [List.getElem?_set] at e2
      simp at e2
    rw [List.getElem?_set_ne (Ne.symm hij)] at e2
    obtain ⟨u', r, l⟩ := hlk i x u e1 e2 e3
    refine ⟨u', r, ?_⟩
    rcases l with ⟨k, z⟩ | ⟨k, c, e, z⟩
    · refine .inl ⟨k, ?_⟩
      have : x ≠ n := fun z => hij (nodup_ix hN e1 (z ▸ hj))
      simp [this, z]
    · exact .inr ⟨k, c, e, z.sameBut hs (I.cne x c e)⟩
  · obtain ⟨w', z⟩ := I.cell x c e
    exact ⟨w', z.sameBut hs (I.cne x c e)⟩
  · obtain ⟨e, n', ne, nf, d⟩ := I.pin p hp
    exact ⟨(oth p.1 ne).trans e, n', ne, nf, d⟩
  · refine (I.hok b u e).stay (fun c v hc z => (oth c ?_).trans z) (fun _ z => z) fun _ _ z => z
    rintro rfl
    rcases hc with rfl | hc
    · rw [I.free] at e; cases e
    · rw [I.free] at hc; cases hc
theorem try_core {T : Addr} {j : Nat} {n tn : Str} {p5 p6 p7 : Pos} {body suite : List Stmt} {b₀ : Stmt} {ts : TS} {En : Ends} {σ₀ : St} (hs : X.stack = X.env :: X.outer ∧ X.env.frame = some X.env.locals) (hx : X.ex = []) (hxe : ∀ e s, ¬ X.xe e s) (hN : X.N.Nodup) (hj : X.N[j]? = some n) (hl : X.env.scope.names.lookup n = some .local)
    (xt : XT X.K T) (hg : Gl X tn) (hm : X.mg tn = some (.ref T)) (hd : (tn == ("__debug__" : Str)) = false) (hst : ∀ A', A'.frames = X.A.frames → A'.depth = X.A.depth → A'.units = X.A.units → A'.guards = X.A.guards → PSs (X.late A') (b₀ :: suite) ts) (I : Inv X pins σ₀ H s)
    (hb : wpAny (model X.prog X.w) X.A (execs body X.env) (SP X pins En) (fun e s' => ∃ a C dx H' σ, e = .ref a ∧ Inv X pins σ H' s' ∧ FlS X pins H' s'.heap a C dx (some .none) ∧ hdl X.K T j ts En σ (.ref C) dx H') s) :
    wpAny (model X.prog X.w) X.A (exec (.Try body [.ExceptHandler (some (.Name tn p5)) (some n) (b₀ :: suite) p6] [] [] p7) X.env) (SP X pins En) X.xe s := by
  refine wpAny_Try_except (wpAny_mono hb (fun f s1 q => ?_) fun e s1 ⟨a, C, dx, H1, σ, ee, I1, f1, C', D, N, ec, c, ht, q⟩ => ?_)
  · cases f with
    | next => exact wpAny_execs_nil q
    | ret v => exact q
    | brk => exact q
    | cont => exact q
  subst ee
  cases ec
  refine station I1 rfl hs hx f1 (.inr rfl) fun s2 I2 f2 => land I2 f2 fun s3 I3 f3 => ?_
  have fr : ∀ h : Option Value, (X.A.mark h).frames = X.A.frames := fun h => rfl
  have I3' := I3.late (A' := X.A.mark (some (.ref a))) (fr _)
  refine wpAny_handleBy_cons (codeAny_handlers_test (ld_glob (X := X.late (X.A.mark (some (.ref a)))) I3' hg hm ?_ hd)) (by intro z; cases z)
  obtain ⟨nm, qn, bs, sn, sub, ab, col, dd, k0, k1, k2, k3, k5, lk⟩ := c.sh
  obtain ⟨nm', q', N', bs', bm', hd', sn', sub', ab', col', dd', j0, j1, j2, j3, j5, nid', lkT, hbT⟩ := xt
  obtain ⟨own, vs, sl, ea, r3⟩ := f3
  have hC := I3.kIn _ _ lk
  have hT := I3.kIn _ _ lkT
  have hin : (Value.ref C :: .ref D :: bmVE).contains (.ref T) = true := by rcases ht with rfl | rfl <;> simp
  obtain ⟨hh, g, d, tk, os⟩ := s3
  refine matches_sub hC hT ea rfl (by rw [List.contains_cons, hbT, Bool.or_true]) hin (codeAny_handlers_suite_as ?_)
  refine land I3 ⟨own, vs, sl, ea, r3⟩ fun s4 I4 f4 => ?_
  obtain ⟨own4, vs4, sl4, ea4, r4⟩ := f4
  have I5 := (I4.track own4 ea4).late (A' := X.A.mark (some (.ref a))) (fr _)
  refine store_ok (X := X.late (X.A.mark (some (.ref a)))) I5 hN hj (.inl hl) (v := .ref a) rfl (fun s5 I6 => ?_) (.inr hl)
  refine wpAny_mono (hst _ (fr _) rfl rfl rfl pins s5 _ _ _ I6 (q a own4.free)) (fun f s6 z => ?_) fun e s6 z => absurd z (hxe e s6)
  show wpAny _ _ (do bindName X.env n .none; unbindBehindTheSuite X.env n p6) _ _ _
  cases f with
  | next =>
    obtain ⟨σ', H', I7, q7⟩ := z
    exact (I7.unlate I.ok).goes hN hj hl fun s7 I8 => ⟨_, _, I8, q7⟩
  | ret v =>
    obtain ⟨v', σ', H', I7, rv, q7⟩ := z
    exact (I7.unlate I.ok).goes hN hj hl fun s7 I8 => ⟨v', _, _, I8, rv, q7⟩
  | brk =>
    obtain ⟨σ', H', I7, q7⟩ := z
    exact q7.elim
  | cont =>
    obtain ⟨σ', H', I7, q7⟩ := z
    exact q7.elim
theorem call_at {k : Nat} {f : Addr} {fd : FuncData} {ps : List Str} {sp : Sp} {dvs : List V} {ds : List Value} {EK : XK} {x : Str} {p pos : Pos} {e : Expr} {es : List Expr} {t : TA} {Q : VK} {E' : Value → Shared → Prop} (F : FnOk X.prog X.w X.K X.mg X.base (CXE X.prog X.w) k f fd ps sp) (hr : Room k X.A) (hg : Gl X x) (hm : X.mg x = some (.ref f)) (hk : PySem.W.keepIn X.K (.ref f) = true) (hb : Binds X.K fd ps ds) (hd : Vals dvs ds)
    (ha : PA X (e :: es) t) (hx : X.ex = []) (hxe : ∀ e s, ¬ X.xe e s) (I : Inv X pins σ H s) (h : t σ H fun vs H1 => sp (vs ++ dvs) H1 Q EK)
    (hE : ∀ a C dx H' s', Inv X pins σ H' s' → FlS X pins H' s'.heap a C dx (some .none) → EK (.ref C) dx H' → E' (.ref a) s')
    (hdb : (x == ("__debug__" : Str)) = false := by decide) (he : starEach (e :: es) X.env = (false, eval e X.env) :: starEach es X.env := by rfl) (hpl : (backTo pos (starEach es X.env)).any (·.1) = false := by rfl) :
    wpAny (model X.prog X.w) X.A (eval (.Call (.Name x p) (e :: es) [] pos) X.env) (EP X pins σ Q) E' s := by
  refine wpAny_Call_Name_kw (ld_glob I hg hm ?_ hdb)
  refine PySem.W.callWith_K (h₀ := X.base) I.ok.mod.kin hk (wpAny_mono (ha pos pins s σ H _ I h) (fun us s1 ⟨vs, H1, I1, r, q⟩ => ⟨I1.kIn, ?_⟩) fun e s z => absurd z (hxe e s)) he hpl
  have r2 : Vals (vs ++ dvs) (us ++ ds) := r.append hd
  have hl : (us ++ ds).length = ps.length := by rw [← r2.length]; exact F.len _ _ _ _ q
  refine wpAny_call (codeAny_mono (F.run X.A X.stack s1 H1 ⟨us, []⟩ (us ++ ds) (vs ++ dvs) Q EK hr I1.env0 (hb s1 us I1.kIn hl) r2 q) fun r s' hq => ?_)
  cases r with
  | error e =>
    obtain ⟨a, C, dx, H', rfl, I', f', hE'⟩ := cx_at (H1 := H1) I1 rfl rfl hx hq
    exact hE a C dx H' s' I' f' hE'
  | ok fl =>
    cases fl with
    | ret u => exact I1.after hq
    | next => exact False.elim hq
    | brk => exact False.elim hq
    | cont => exact False.elim hq
def tTryA (K : PySem.W.Frag) (T : Addr) (i j : Nat) (sp : Sp) (dvs : List V) (t : TA) (ts : TS) : TS := fun En σ H => t σ H fun vs H1 => sp (vs ++ dvs) H1 (fun v H2 => En.nx (σ.set i (some v)) H2) (hdl K T j ts En σ)
theorem ps_tryA {T : Addr} {i j : Nat} {y n tn : Str} {p1 p4 p5 p6 p7 : Pos} {suite : List Stmt} {b₀ : Stmt} {ts : TS} {k : Nat} {f : Addr} {fd : FuncData} {ps : List Str} {sp : Sp} {dvs : List V} {ds : List Value} {x : Str} {p pos : Pos} {e : Expr} {es : List Expr} {t : TA}
    (F : FnOk X.prog X.w X.K X.mg X.base (CXE X.prog X.w) k f fd ps sp) (hr : Room k X.A) (hg : Gl X x) (hm : X.mg x = some (.ref f)) (hk : PySem.W.keepIn X.K (.ref f) = true) (hb : Binds X.K fd ps ds) (hd : Vals dvs ds) (ha : PA X (e :: es) t)
    (xt : XT X.K T) (hgT : Gl X tn) (hmT : X.mg tn = some (.ref T)) (hst : ∀ A', A'.frames = X.A.frames → A'.depth = X.A.depth → A'.units = X.A.units → A'.guards = X.A.guards → PSs (X.late A') (b₀ :: suite) ts)
    (hs : X.stack = X.env :: X.outer ∧ X.env.frame = some X.env.locals) (hx : X.ex = []) (hxe : ∀ e s, ¬ X.xe e s) (hN : X.N.Nodup) (hi : X.N[i]? = some y) (hy : X.env.scope.names.lookup y = some .local) (hj : X.N[j]? = some n) (hl : X.env.scope.names.lookup n = some .local)
    (hdT : (tn == ("__debug__" : Str)) = false := by decide) (hdb : (x == ("__debug__" : Str)) = false := by decide) (he : starEach (e :: es) X.env = (false, eval e X.env) :: starEach es X.env := by rfl) (hpl : (backTo pos (starEach es X.env)).any (·.1) = false := by rfl)
    (hsw : swapsWith (.Call (.Name x p) (e :: es) [] pos) (some (.Name y p1)) p4.line X.env = pure false := by rfl) :
    PS X (.Try [.Assign [.Name y p1] (.Call (.Name x p) (e :: es) [] pos) p4] [.ExceptHandler (some (.Name tn p5)) (some n) (b₀ :: suite) p6] [] [] p7) (tTryA X.K T i j sp dvs t ts) := by
  intro pins s σ H En I h
  refine try_core hs hx hxe hN hj hl xt hgT hmT hdT hst I ?_
  refine wpAny_execs_cons (wpAny_Assign_Name (wpAny_mono (call_at (σ := σ) F hr hg hm hk hb hd ha hx hxe I h (fun a C dx H' s' I' f' q => ⟨a, C, dx, H', σ, rfl, I', f', q⟩) hdb he hpl) (fun v s1 ⟨z, H1, I1, r1, q1⟩ => ?_) fun _ _ z => z) hsw)
  exact store_ok I1 hN hi (.inl hy) r1 (fun s2 I2 => wpAny_execs_nil ⟨_, H1, I2, q1⟩) (.inr hy)
end
end L2
set_option Elab.async false
set_option linter.all false
set_option maxRecDepth 100000
set_option maxHeartbeats 4000000
namespace L2
open PySem PySem.Spec PyProof.Rows
section
variable {X : Cx}
end
section
variable {P : Program} {w : World} {K : PySem.W.Frag} {mg : Str → Option Value} {base : Heap}
theorem Fun.okE {x qual : Str} {st : Stmt} {f : Addr} {fd : FuncData} {N ps : List Str} {k : Nat} {sp : Sp} (F : Fun K x qual st f fd) (S : FnScope N ps (defScope st)) (len : ∀ vs H Q E, sp vs H Q E → vs.length = ps.length)
    (hbody : ∀ (cdv : Value) (A : Around) (outer : List Env) (s : Shared) (H : Hp) (vs : List V) (Q : VK) (E : XK), Room k (A.deeper (envOfC qual (defScope st) s.heap.objs.size f cdv)) → sp vs H Q E →
      ∃ t, PSs (cxOf (CXE P w) P w K mg base N qual (defScope st) f cdv A outer s H E) (defBody st) t ∧ t { nx := fun _ H' => Q .non H', rt := Q } (start N vs) H) : FnOk P w K mg base (CXE P w) (k + 1) f fd ps sp := by
  obtain ⟨oc, od, kV, doc, pm, an, cdv, ct, osl, rfl, lk, hcd⟩ := F.ex
  exact fn_of lk hcd S len fun A outer s H vs Q E hr hsp => hbody cdv A outer s H vs Q E hr hsp
end
section
variable {X : Cx}
def ExAtW (H : Hp) (a C : Addr) : Prop := ∃ dx, H a = some (ExW a C dx) ∧ ∀ d, dx = some d → ∃ fs, H d = some (.xd fs)
theorem ExAtW.inst {pins : List (Addr × Obj)} {σ : St} {H : Hp} {s : Shared} {a C : Addr} (I : Inv X pins σ H s) (e : ExAtW H a C) : ∃ o od, PySem.W.InstAt s.heap a o C od := by
  obtain ⟨dx, ea, ed⟩ := e
  obtain ⟨⟨vs, sl, eo⟩, _, _⟩ := (show ObjOk X.prog X.w H s.heap a (ExW a C dx) from I.hok a _ ea)
  cases dx with
  | none => exact ⟨_, none, eo, rfl, rfl, True.intro⟩
  | some d =>
    obtain ⟨fs, e⟩ := ed d rfl
    obtain ⟨mA, ⟨od, es, ep, h1, _⟩, _⟩ := (show ObjOk X.prog X.w H s.heap d (.xd fs) from I.hok d _ e)
    exact ⟨_, some od, eo, rfl, rfl, h1⟩
def tupRefs (H : Hp) (c : Addr) (cs : List Addr) : Prop := H c = some (.tup (cs.map V.ref))
def rIsW (K : PySem.W.Frag) : List V → Hp → VK → Prop := fun xs H Q => match xs with
  | [.ref a, .ty n] => ∃ C D N b, ExAtW H a C ∧ XC K C D N ∧ XI K C ∧ PySem.W.kitOne K (.ref C) (.type n) = some b ∧ Q (.bl b) H
  | [.ref a, .ref c] => ∃ C D N b, ExAtW H a C ∧ XC K C D N ∧ XI K C ∧ (PySem.W.kitOne K (.ref C) (.ref c) = some b ∨ ∃ cs, tupRefs H c cs ∧ PySem.W.kitAny K (.ref C) (cs.map Value.ref) = some b) ∧ Q (.bl b) H
  | _ => False
theorem rIsW_ty (K : PySem.W.Frag) (a : Addr) (n : String) (H : Hp) (Q : VK) : rIsW K [.ref a, .ty n] H Q = (∃ C D N b, ExAtW H a C ∧ XC K C D N ∧ XI K C ∧ PySem.W.kitOne K (.ref C) (.type n) = some b ∧ Q (.bl b) H) := rfl
theorem rIsW_ref (K : PySem.W.Frag) (a c : Addr) (H : Hp) (Q : VK) : rIsW K [.ref a, .ref c] H Q = (∃ C D N b, ExAtW H a C ∧ XC K C D N ∧ XI K C ∧ (PySem.W.kitOne K (.ref C) (.ref c) = some b ∨ ∃ cs, tupRefs H c cs ∧ PySem.W.kitAny K (.ref C) (cs.map Value.ref) = some b) ∧ Q (.bl b) H) := rfl
theorem vals_refs : ∀ {cs : List Addr} {us : List Value}, Vals (cs.map V.ref) us → us = cs.map Value.ref
  | [], _, .nil => rfl
  | c :: cs, _, .cons r t => by
    cases r
    rw [vals_refs t]
    rfl
theorem call_isW {K : PySem.W.Frag} (hK : X.K = K) : CallR X (.builtin "isinstance") (rIsW K) := by
  subst hK
  intro pins s σ H xs us Q I r h
  unfold rIsW at h
  split at h
  · rename_i a n
    obtain ⟨C, D, N, b, ea, c, xi, e, q⟩ := h
    obtain ⟨u, w', rfl, rx, rc⟩ := vals2 r
    cases rx
    cases rc
    exact PySem.W.kia_one (kitx_exc c xi) I.kIn (ea.inst I) e (fun z => nomatch z) fun tk => ⟨.bl b, H, I.tok tk, rfl, q⟩
  · rename_i a n
    obtain ⟨C, D, N, b, ea, c, xi, e, q⟩ := h
    obtain ⟨u, w', rfl, rx, rc⟩ := vals2 r
    cases rx
    cases rc
    rcases e with e | ⟨cs, et, e⟩
    · exact PySem.W.kia_one (kitx_exc c xi) I.kIn (ea.inst I) e (fun z => nomatch z) fun tk => ⟨.bl b, H, I.tok tk, rfl, q⟩
    · obtain ⟨its, r1, p1, _⟩ := I.tuple (SqT.of et)
      obtain ⟨⟨cl, dd, data, sl⟩, ho, hc, n', hd⟩ := id p1
      simp only at hc hd
      subst hc hd
      rw [vals_refs r1] at ho
      exact PySem.W.kia_tup (kitx_exc c xi) I.kIn (ea.inst I) ho e (fun z => nomatch z) fun tk => ⟨.bl b, H, I.tok tk, rfl, q⟩
  · exact h.elim
end
end L2
set_option Elab.async false
set_option linter.all false
set_option maxRecDepth 100000
set_option maxHeartbeats 4000000
namespace L2
open PySem PySem.Spec PyProof.Rows
section
variable {X : Cx}
theorem tyV_str (K : PySem.W.Frag) (z : Str) (H : Hp) : tyV K "str" (.str z) H = True := by simp [tyV]
theorem qps_raise {e : Expr} {te : TE} {pos : Pos} {E : XK} {K : PySem.W.Frag} (hK : X.K = K) (hc : X.calm = true) (hx : X.ex = []) (l : Leaves X E) (he : QE X e te) : QS X (.Raise (some e) none pos) (tRaise K X.H₀ E te) := by subst hK; exact ⟨ps_raise hc hx l he.h⟩
theorem qps_tryA {K : PySem.W.Frag} {T : Addr} {i j : Nat} {y n tn : Str} {p1 p4 p5 p6 p7 : Pos} {suite : List Stmt} {b₀ : Stmt} {ts : TS} {k : Nat} {f : Addr} {fd : FuncData} {ps : List Str} {sp : Sp} {x : Str} {p pos : Pos} {e : Expr} {es : List Expr} {t : TA}
    (hK : X.K = K) (F : FnOk X.prog X.w K X.mg X.base (CXE X.prog X.w) k f fd ps sp) (hr : Room k X.A) (hg : Gl X x) (hm : X.mg x = some (.ref f)) (hk : PySem.W.keepIn K (.ref f) = true) (hb : Binds K fd ps []) (ha : QA X (e :: es) t)
    (xt : XT K T) (hgT : Gl X tn) (hmT : X.mg tn = some (.ref T)) (hst : ∀ A', A'.frames = X.A.frames → A'.depth = X.A.depth → A'.units = X.A.units → A'.guards = X.A.guards → QSs (X.late A') (b₀ :: suite) ts)
    (hs : X.stack = X.env :: X.outer ∧ X.env.frame = some X.env.locals) (hx : X.ex = []) (hxe : ∀ e s, ¬ X.xe e s) (hN : X.N.Nodup) (hi : X.N[i]? = some y) (hy : X.env.scope.names.lookup y = some .local) (hj : X.N[j]? = some n) (hl : X.env.scope.names.lookup n = some .local)
    (hdT : (tn == ("__debug__" : Str)) = false := by decide) (hdb : (x == ("__debug__" : Str)) = false := by decide) (he : starEach (e :: es) X.env = (false, eval e X.env) :: starEach es X.env := by rfl) (hpl : (backTo pos (starEach es X.env)).any (·.1) = false := by rfl)
    (hsw : swapsWith (.Call (.Name x p) (e :: es) [] pos) (some (.Name y p1)) p4.line X.env = pure false := by rfl) :
    QS X (.Try [.Assign [.Name y p1] (.Call (.Name x p) (e :: es) [] pos) p4] [.ExceptHandler (some (.Name tn p5)) (some n) (b₀ :: suite) p6] [] [] p7) (tTryA K T i j sp [] t ts) := by
  subst hK
  exact ⟨ps_tryA F hr hg hm hk hb .nil ha.h xt hgT hmT (fun A' h1 h2 h3 h4 => (hst A' h1 h2 h3 h4).h) hs hx hxe hN hi hy hj hl hdT hdb he hpl hsw⟩
end
end L2
set_option Elab.async false
set_option linter.all false
set_option maxRecDepth 100000
set_option maxHeartbeats 4000000
namespace L2
open PySem PySem.Spec PyProof.Rows
section
variable {prog : Program} {w : World} {A : Around} {E : Value → Shared → Prop} {s : Shared}
open AutoSeq1 (wpAny_loadPart') in
end
section
variable {X : Cx}
end
end L2
set_option Elab.async false
set_option linter.all false
set_option maxRecDepth 100000
set_option maxHeartbeats 4000000
namespace L2
open PySem PySem.Spec PyProof.Rows
section
variable {X : Cx}
def rAddX : R2 := fun x y H Q => ∃ a b xs ys, x = .ref a ∧ y = .ref b ∧ H a = some (.tup xs) ∧ H b = some (.tup ys) ∧ xs.length + ys.length ≤ sizeLine ∧ ∀ p H', Kp [] H H' → H' p = some (.tup (xs ++ ys)) → Q (.ref p) H'
theorem op_addX : OpR X (binaryOp .Add) rAddX := by
  intro pins s σ H x y v u Q I rx ry h
  obtain ⟨a, b, xs, ys, rfl, rfl, ha, hb, hz, q⟩ := h
  by_cases hx : xs = []
  · subst hx
    cases rx
    cases ry
    obtain ⟨its, r1, p1, _⟩ := I.tuple (SqT.of ha)
    obtain ⟨its2, r2, p2, _⟩ := I.tuple (SqT.of hb)
    cases r1
    obtain ⟨⟨cls, dd, data, sl⟩, ho, hc, n, hd⟩ := id p1
    obtain ⟨⟨cls2, dd2, data2, sl2⟩, ho2, hc2, n2, hd2⟩ := id p2
    simp only at hc hd hc2 hd2
    subst hc hd hc2 hd2
    exact concat_meets ⟨_, ho, rfl⟩ ⟨_, ho2, rfl⟩ noFill_tuple_add seq_tuple_add PySem.F.slot_tuple_add PySem.F.entry_tuple_add (PySem.F.args_tuple_add_2 _ _)
      (HT.tuple_add0 a b its2.toArray n n2 dd dd2 sl sl2) ⟨ho, ho2, .ref b, H, I, rfl, q b H (Kp.refl _ _) (by simpa using hb)⟩
  · exact op_catT pins s σ H _ _ v u Q I rx ry ⟨a, b, xs, ys, rfl, rfl, SqT.of ha, SqT.of hb, hx, hz, fun e => q a H (Kp.refl _ _) (by rw [e, List.append_nil]; exact ha), fun e p hp => q p _ ((Kp.refl [] H).new hp) upd_same⟩
end
end L2
set_option Elab.async false
set_option linter.all false
set_option maxRecDepth 100000
set_option maxHeartbeats 4000000
namespace L2
open PySem PySem.Spec PyProof.Rows
section
variable {prog : Program} {w : World} {A : Around} {E : Value → Shared → Prop} {s : Shared} {i1 i2 : Addr} {f1 f2 : List Addr} {n1 n2 : Nat} {P1 P2 : Nat → Value → Prop} {S1 S2 : Nat → Heap → Prop}
end
section
end
section
variable {P : Program} {w : World} {K : PySem.W.Frag}
end
section
variable {X : Cx}
end
end L2
set_option Elab.async false
set_option linter.all false
set_option maxRecDepth 100000
set_option maxHeartbeats 4000000
namespace L2
open PySem PySem.Spec PyProof.Rows
section
variable {X : Cx}
end
end L2
set_option Elab.async false
set_option linter.all false
set_option maxRecDepth 100000
set_option maxHeartbeats 4000000
namespace L2
open PySem PySem.Spec PyProof.Rows
section
variable {X : Cx}
end
end L2
set_option Elab.async false
set_option linter.all false
set_option maxRecDepth 100000
set_option maxHeartbeats 4000000
namespace L2
open PySem PySem.Spec PyProof.Rows
section
variable {P : Program} {w : World} {A : Around} {R : Result → Shared → Prop} {I : Addr} {fp wr : List Addr} {n : Nat} {Pv : Nat → Value → Prop} {St : Nat → Heap → Prop}
end
section
variable {X : Cx}
end
end L2
set_option Elab.async false
set_option linter.all false
set_option maxRecDepth 100000
set_option maxHeartbeats 4000000
namespace L2
open PySem PySem.Spec PyProof.Rows
section
end
section
variable {P : Program} {w : World} {K : PySem.W.Frag}
end
section
variable {X : Cx}
end
end L2
set_option Elab.async false
set_option linter.all false
set_option maxRecDepth 100000
set_option maxHeartbeats 4000000
namespace L2
open PySem PySem.Spec PyProof.Rows
end L2
set_option Elab.async false
set_option linter.all false
set_option maxRecDepth 100000
set_option maxHeartbeats 4000000
namespace L2
open PySem PySem.Spec PyProof.Rows
section
variable {X : Cx} {pins : List (Addr × Obj)} {σ : L2.St} {H : Hp} {s : Shared} {scope : Scope} {Nc : List Str} {js : List (Option Nat)} {fp : List Addr}
end
section
variable {X : Cx} {scope : Scope} {Nc : List Str} {js : List (Option Nat)} {elt tg iter : Expr} {pos : Pos} {wi : TI} {g : TG} {te : TE}
end
end L2
set_option Elab.async false
set_option linter.all false
set_option maxRecDepth 100000
set_option maxHeartbeats 4000000
namespace L2
open PySem PySem.Spec PyProof.Rows
section
variable {X : Cx} {scope : Scope} {Nc : List Str} {js : List (Option Nat)} {elt tg iter : Expr} {pos : Pos} {wi : TI} {g : TG} {te : TE}
end
end L2
set_option Elab.async false
set_option linter.all false
set_option maxRecDepth 100000
set_option maxHeartbeats 4000000
namespace L2
open PySem PySem.Spec PyProof.Rows
section
variable {prog : Program} {w : World} {A : Around} {E : Value → Shared → Prop} {s : Shared}
end
end L2
set_option Elab.async false
set_option linter.all false
set_option maxRecDepth 100000
set_option maxHeartbeats 4000000
namespace L2
open PySem PySem.Spec PyProof.Rows
section
variable {prog : Program} {w : World} {A : Around} {R : Result → Shared → Prop} {I : Addr} {fp wr : List Addr} {G : Array GenState → Array GenState → Prop} {n : Nat} {P : Nat → Value → Prop} {St : Nat → Shared → Prop}
end
section
variable {prog : Program} {w : World} {A : Around} {E : Value → Shared → Prop} {s : Shared}
end
end L2
set_option Elab.async false
set_option linter.all false
set_option maxRecDepth 100000
set_option maxHeartbeats 4000000
namespace L2
open PySem PySem.Spec PyProof.Rows
section
variable {prog : Program} {w : World} {A : Around} {E : Value → Shared → Prop} {s : Shared}
end
end L2
set_option Elab.async false
set_option linter.all false
set_option maxRecDepth 100000
set_option maxHeartbeats 4000000
namespace L2
open PySem PySem.Spec PyProof.Rows
section
variable {prog : Program} {w : World} {A : Around} {E : Value → Shared → Prop} {s : Shared}
end
end L2
set_option Elab.async false
set_option linter.all false
set_option maxRecDepth 100000
set_option maxHeartbeats 4000000
namespace L2
open PySem PySem.Spec PyProof.Rows
section
variable {prog : Program} {w : World} {A : Around} {E : Value → Shared → Prop} {s : Shared}
end
end L2
set_option Elab.async false
set_option linter.all false
set_option maxRecDepth 100000
set_option maxHeartbeats 4000000
namespace L2
open PySem PySem.Spec PyProof.Rows
section
variable {X : Cx} {pins : List (Addr × Obj)} {σ : L2.St} {H : Hp} {s : Shared}
end
end L2
set_option Elab.async false
set_option linter.all false
set_option maxRecDepth 100000
set_option maxHeartbeats 4000000
namespace L2
open PySem PySem.Spec PyProof.Rows
section
variable {prog : Program} {w : World} {A : Around} {E : Value → Shared → Prop} {R : Result → Shared → Prop} {I : Addr} {fp wr : List Addr} {n : Nat} {P : Nat → Value → Prop} {St : Nat → Heap → Prop} {s : Shared}
end
section
variable {X : Cx}
end
end L2
set_option Elab.async false
set_option linter.all false
set_option maxRecDepth 100000
set_option maxHeartbeats 4000000
namespace L2
open PySem PySem.Spec PyProof.Rows
section
variable {X : Cx}
end
end L2
set_option Elab.async false
set_option linter.all false
set_option maxRecDepth 100000
set_option maxHeartbeats 4000000
namespace L2
open PySem PySem.Spec PyProof.Rows
section
variable {P : Program} {w : World} {H H' : Hp} {h h' : Heap} {a : Addr} {o : Obj} {cs : List Addr}
end
section
variable {P : Program} {w : World} {K : PySem.W.Frag} {mg : Str → Option Value} {base : Heap} {k : Nat} {f c' : Addr} {name qual : Str} {params : Arguments} {body : Expr} {scope : Scope} {pm ct : Value} {ps fs : List Str} {cl : List (Str × Addr)} {sp : Sp}
end
end L2
set_option Elab.async false
set_option linter.all false
set_option maxRecDepth 100000
set_option maxHeartbeats 4000000
namespace L2
open PySem PySem.Spec PyProof.Rows
section
variable {X : Cx}
variable {pins : List (Addr × Obj)} {σ : St} {H : Hp} {s : Shared}
end
end L2
set_option Elab.async false
set_option linter.all false
set_option maxRecDepth 100000
set_option maxHeartbeats 4000000
namespace L2
open PySem PySem.Spec PyProof.Rows
section
variable {X : Cx}
end
end L2
set_option Elab.async false
set_option linter.all false
set_option maxRecDepth 100000
set_option maxHeartbeats 4000000
namespace L2
open PySem PySem.Spec PyProof.Rows
end L2
set_option Elab.async false
set_option linter.all false
set_option maxRecDepth 100000
set_option maxHeartbeats 4000000
namespace L2
open PySem PySem.Spec PyProof.Rows
section
variable {X : Cx} {o i : Expr} {td ty : TE} {pos : Pos}
structure QPP (X : Cx) (pos : Pos) (keys : List (Option Expr)) (values : List Expr) (trs : List (TE × TE)) : Prop where
  h : PPs X pos keys values trs
theorem qpps_nil {pos : Pos} : QPP X pos [] [] [] := ⟨pps_nil⟩
theorem qpps_cons {pos : Pos} {k v : Expr} {ks : List (Option Expr)} {vs : List Expr} {tk tv : TE} {trs : List (TE × TE)} (hk : QE X k tk) (hv : QE X v tv) (hr : QPP X pos ks vs trs) : QPP X pos (some k :: ks) (v :: vs) ((tk, tv) :: trs) := ⟨pps_cons hk.h hv.h hr.h⟩
theorem qpe_disp {pos : Pos} {keys : List (Option Expr)} {values : List Expr} {trs : List (TE × TE)} (h : QPP X pos keys values trs) (hall : keys.all (·.isSome) = true := by rfl) (hl : keys.length = values.length := by rfl) (h0 : keys ≠ [] := by nofun) (h15 : keys.length ≤ 15 := by decide) : QE X (.Dict keys values pos) (tDisp trs) := ⟨pe_disp h.h hall hl h0 h15⟩
end
end L2
set_option Elab.async false
set_option linter.all false
set_option maxRecDepth 100000
set_option maxHeartbeats 4000000
namespace L2
open PySem PySem.Spec PyProof.Rows
def ItDn (hi : Int) (n : Nat) : It := ⟨fun i _ => i < n, fun i H x H' => H' = H ∧ x = .int (hi - i), fun i _ => n ≤ i⟩
theorem turn_down {P : Program} {w : World} {K : PySem.W.Frag} {tg : Expr} (it : Addr) (hi : Int) (n : Nat) : Turn P w K tg (ItDn hi n) [it] it (fun i h => IsRangeIter h it (hi + (i : Nat) * (-1)) ((n : Int) - (i : Nat)) (-1)) where
  mem := List.mem_singleton.mpr rfl
  obj := fun i h st b hb => by
    obtain rfl := List.mem_singleton.mp hb
    exact ⟨_, st, fun v z => nomatch (show Data.fields _ = Data.cell v from z)⟩
  keep := fun i h h' st k => k it (List.mem_singleton.mpr rfl) _ st
  item := by
    intro X hP hw hK hc i pins s σ H E I hf st hg
    subst hP hw hK
    obtain ⟨f0, f1, f2, f3, f4, f5⟩ := hf it (List.mem_singleton.mpr rfl)
    refine (Walks.range (prog := X.prog) (w := X.w) (I.ok.hd hc) it hi (-1) n).item i s _ _ hg st fun v h' tk hv st' kk => ?_
    obtain ⟨t, rfl⟩ := hv
    have I1 : Inv X pins σ H { s with heap := h', toks := tk } := I.turned (fun b o hb e => kk b o (by simpa using hb) e) f0 f1 f3 f4 f5
    exact ⟨_, rfl, go_of (s := { s with heap := h', toks := tk }) (n := "range_iterator") st' rfl rfl (by decide) ⟨.int (hi - i), H, I1, ⟨t, congrArg (fun z : Int => Value.int z t) (by omega)⟩, ⟨rfl, rfl⟩, st', fun b hb => (hf b hb).1⟩⟩
  done := by
    intro X hP hw hK hc i pins s σ H E I hf st hg
    subst hP hw hK
    obtain ⟨f0, f1, f2, f3, f4, f5⟩ := hf it (List.mem_singleton.mpr rfl)
    exact wpAny_pyNext_range_end (I.ok.hd hc) st (by have : n ≤ i := hg; omega) fun h' eb => ⟨rfl, I.turned (t' := s.toks) (fun b o hb e => eb b o hb e) f0 f1 f3 f4 f5⟩
  self := fun _ _ _ _ _ st h => wpAny_pyIter_rangeiter st h
theorem size_down (n : Nat) : Builtin.Range.rangeSize ((n : Int) - 1) (-1) (-1) = (n : Int) := by
  unfold Builtin.Range.rangeSize
  simp
  try omega
theorem small_down {n : Nat} (h : n < 2 ^ 60) : Builtin.Range.small ((n : Int) - 1) (-1) (-1) = true := by
  unfold Builtin.Range.small
  rw [size_down]
  simp [Builtin.Range.rangeFitsLong]
  try omega
section
variable {X : Cx} {tg : Expr}
def iRngDn (ta : TA) : TI := fun σ H R => ta σ H fun vs H1 => ∃ n : Nat, vs = [.int ((n : Int) - 1), .int (-1), .int (-1)] ∧ n < 2 ^ 60 ∧ R (ItDn ((n : Int) - 1) n) H1
theorem pi_range3 {a b c : Expr} {ta : TA} {p pos : Pos} (hg : Gl X "range") (hm : X.mg "range" = none) (ha : PA X [a, b, c] ta) (hs : starEach [a, b, c] X.env = [(false, eval a X.env), (false, eval b X.env), (false, eval c X.env)] := by rfl) (hs2 : starEach [b, c] X.env = [(false, eval b X.env), (false, eval c X.env)] := by rfl) :
    PI X tg (.Call (.Name "range" p) [a, b, c] [] pos) (iRngDn ta) := by
  intro pins s σ H R I h
  refine Call_ (ld_blt I hg hm boot_range (PyProof.Rows.callWith_type1 (thn (ha pos pins s σ H _ I h) fun us s1 ⟨vs, H1, I1, r1, q1⟩ => ?_) (by rw [hs, hs2]) (by rw [hs2]; rfl)))
  obtain ⟨n, e, hn, q⟩ := q1
  subst e
  cases r1 with
  | cons r rr =>
    cases rr with
    | cons r' rr =>
      cases rr with
      | cons r'' rr =>
        cases rr
        obtain ⟨t, rfl⟩ := r
        obtain ⟨t', rfl⟩ := r'
        obtain ⟨t'', rfl⟩ := r''
        refine call_range_3 (by decide) ?_ (.inl (PyProof.noPylong_small (by omega)))
        refine wpAny_pyIter_range (IsRange.new ..) (small_down hn) ?_
        have I2 : Inv X pins σ H1 { s1 with heap := s1.heap.push { cls := .type "range", data := .fields #[.int ((n : Int) - 1) t, .int (-1) t', .int (-1) t''] }, toks := s1.toks } := I1.kept fun b o e => Heap.get?_push_of_some _ e
        refine ⟨_, [_], _, _, H1, rfl, I2.kept (t' := s1.toks) fun b o e => Heap.get?_push_of_some _ e, turn_down _ ((n : Int) - 1) n, ?_, fun b hb => ?_, q⟩
        · show IsRangeIter _ _ (((n : Int) - 1) + ((0 : Nat) : Int) * (-1)) ((n : Int) - ((0 : Nat) : Int)) (-1)
          rw [size_down]
          have e1 : ((n : Int) - 1) + ((0 : Nat) : Int) * (-1) = (n : Int) - 1 := by omega
          have e2 : (n : Int) - ((0 : Nat) : Int) = (n : Int) := by omega
          rw [e1, e2]
          exact Heap.get?_push_size _ rfl
        · obtain rfl := List.mem_singleton.mp hb
          exact I2.fpOk (Nat.le_refl _) (I2.hok.fresh (Nat.le_refl _))
theorem qpi_range3 {a b c : Expr} {ta : TA} {p pos : Pos} (hg : Gl X "range") (hm : X.mg "range" = none) (ha : QA X [a, b, c] ta) (hs : starEach [a, b, c] X.env = [(false, eval a X.env), (false, eval b X.env), (false, eval c X.env)] := by rfl) (hs2 : starEach [b, c] X.env = [(false, eval b X.env), (false, eval c X.env)] := by rfl) :
    QI X tg (.Call (.Name "range" p) [a, b, c] [] pos) (iRngDn ta) := ⟨pi_range3 hg hm ha.h hs hs2⟩
end
theorem loop_down {hi : Int} {n : Nat} {g : TG} {tb : TS} {D : Ends} {σ : L2.St} {H : Hp} (Pv : Nat → L2.St → Hp → Prop) (h0 : Pv 0 σ H)
    (hs : ∀ i σ H, i < n → Pv i σ H → g (.int (hi - i)) σ H fun σ2 H2 => tb { D with nx := Pv (i + 1), ct := Pv (i + 1), bk := D.nx } σ2 H2) (hd : ∀ σ H, Pv n σ H → D.nx σ H) : LoopR (ItDn hi n) g tb D σ H := by
  refine ⟨fun i m σ H => m = n - i ∧ i ≤ n ∧ Pv i σ H, ⟨n, by simp, Nat.zero_le _, h0⟩, ?_⟩
  rintro i m σ H ⟨rfl, hi, p⟩
  by_cases hlt : i < n
  · refine .inr ⟨hlt, Pv (i + 1), fun σ' H' p' => ⟨n - (i + 1), by omega, rfl, hlt, p'⟩, ?_⟩
    rintro x H' ⟨rfl, rfl⟩
    exact hs i σ _ hlt p
  · obtain rfl : i = n := by omega
    exact .inl ⟨Nat.le_refl _, hd σ H p⟩
end L2
set_option linter.all false
namespace My
open PySem
end My
set_option Elab.async false
set_option linter.all false
set_option maxRecDepth 100000
set_option maxHeartbeats 4000000
namespace My
open PySem L2 PyProof.Rows
def sg (z : Str) : List Nat := z.cps.toList
theorem sg_len (z : Str) : (sg z).length = z.length := by simp [sg, Str.length]
theorem sg_app (x y : Str) : sg (x ++ y) = sg x ++ sg y := by simp [sg, Str.cps_append]
theorem sg_inj {x y : Str} (h : sg x = sg y) : x = y := by
  cases x; cases y
  simp only [sg] at h
  rw [Array.toList_inj.mp h]
theorem join0 : ∀ l : List Str, sg (Str.join ⟨#[]⟩ l) = (l.map sg).flatten
  | [] => rfl
  | x :: l => by rw [join_nil_cons, sg_app, join0 l]; rfl
theorem joinT (l : List Str) : sg (Txt.join (Str.ofString "") l) = (l.map sg).flatten := by
  have e0 : (Str.ofString "") = (⟨#[]⟩ : Str) := by decide +kernel
  have e := eq_of_beq (join_plain_closes ⟨#[]⟩ l)
  rw [e0, e, join0]
def tx (T : List Str) (i : Nat) : Str := (T[i]?).getD ⟨#[]⟩
def pcL (T : List Str) : V → List Nat
  | .str s => sg s
  | .int i => sg (tx T i.toNat)
  | _ => []
def pw (T : List Str) : V → Nat
  | .str _ => 1
  | .int i => 2 * (tx T i.toNat).length
  | _ => 0
def cat (T : List Str) (l : List V) : List Nat := (l.map (pcL T)).flatten
def wsum (T : List Str) (l : List V) : Nat := (l.map (pw T)).sum
theorem cat_app (T : List Str) (a b : List V) : cat T (a ++ b) = cat T a ++ cat T b := by simp [cat]
theorem wsum_app (T : List Str) (a b : List V) : wsum T (a ++ b) = wsum T a + wsum T b := by simp [wsum]
theorem wsum_rev (T : List Str) : ∀ l : List V, wsum T l.reverse = wsum T l
  | [] => rfl
  | x :: l => by
    rw [List.reverse_cons, wsum_app, wsum_rev T l]
    simp [wsum]
    omega
def isPc (n : Nat) (x : V) : Prop := (∃ s, x = .str s) ∨ ∃ i : Nat, x = .int (i : Int) ∧ i < n
theorem wsum_ge (T : List Str) {n : Nat} (h1 : ∀ i, i < n → 1 ≤ (tx T i).length) : ∀ l : List V, (∀ x ∈ l, isPc n x) → l.length ≤ wsum T l
  | [], _ => Nat.zero_le _
  | x :: l, h => by
    have ih := wsum_ge T h1 l fun y hy => h y (.tail _ hy)
    have e : wsum T (x :: l) = pw T x + wsum T l := by simp [wsum]
    have : 1 ≤ pw T x := by
      rcases h x (.head _) with ⟨s, rfl⟩ | ⟨i, rfl, hi⟩
      · exact Nat.le_refl _
      · have := h1 i hi
        simp [pw]
        omega
    rw [e, List.length_cons]
    omega
theorem isPc.mono {m n : Nat} {x : V} (h : isPc m x) (k : m ≤ n) : isPc n x := by
  rcases h with h | ⟨i, e, hi⟩
  · exact .inl h
  · exact .inr ⟨i, e, by omega⟩
theorem last_of {α : Type} {xs : List α} {x : α} (h : xs[xs.length - 1]? = some x) : xs = xs.dropLast ++ [x] := by
  have hne : xs ≠ [] := by rintro rfl; simp at h
  have e := List.dropLast_concat_getLast hne
  have e2 : xs.getLast hne = x := by
    rw [List.getLast_eq_getElem hne]
    have := (List.getElem?_eq_some_iff.mp h).2
    exact this
  rw [← e2, e]
theorem atI_m1 {α : Type} {xs : List α} {v : α} (h : xs[xs.length - 1]? = some v) : atI xs (-1) = some v := by
  rw [last_of h]
  exact atI_last _ _
theorem sum_nat : ∀ l : List Nat, (l.map fun n : Nat => (n : Int)).sum = ((l.sum : Nat) : Int)
  | [] => rfl
  | x :: l => by simp [sum_nat l]
end My
set_option Elab.async false
set_option linter.all false
set_option maxRecDepth 100000
set_option maxHeartbeats 4000000
namespace My
open PySem L2 PyProof.Rows
structure Wr5 (n : Nat) (pc : Nat → List V) (T : List Str) : Prop where
  pos : 0 < n
  few : n ≤ 100000
  len : T.length = n
  ok : ∀ k, k < n → ∀ x ∈ pc k, isPc k x
  sz : ∀ k, k < n → (pc k).length ≤ 100
  sl : ∀ k, k < n → ∀ s, V.str s ∈ pc k → s.length ≤ 1000
  eq : ∀ k, k < n → sg (tx T k) = cat T (pc k)
  wt : ∀ k, k < n → wsum T (pc k) < 2 * (tx T k).length
theorem Wr5.one {n : Nat} {pc : Nat → List V} {T : List Str} (W : Wr5 n pc T) {i : Nat} (h : i < n) : 1 ≤ (tx T i).length := by have := W.wt i h; omega
def cp (n : Nat) : Nat := min n 100001
theorem cp_le (n : Nat) : cp n ≤ 100001 := Nat.min_le_right _ _
def lnN (T : List Str) : V → Nat
  | .str s => s.length
  | .int i => cp (tx T i.toNat).length
  | _ => 0
def lnC (T : List Str) (x : V) : V := .int ((lnN T x : Nat) : Int)
theorem cp_sum (T : List Str) {n : Nat} : ∀ l : List V, (∀ x ∈ l, isPc n x) → cp (l.map (lnN T)).sum = cp (cat T l).length
  | [], _ => rfl
  | x :: l, h => by
    have ih := cp_sum T l fun y hy => h y (.tail _ hy)
    have e : cat T (x :: l) = pcL T x ++ cat T l := by simp [cat]
    rw [e, List.length_append, List.map_cons, List.sum_cons]
    have : cp (lnN T x) = cp (pcL T x).length := by
      rcases h x (.head _) with ⟨s, rfl⟩ | ⟨i, rfl, _⟩
      · simp [lnN, pcL, sg_len]
      · simp only [lnN, pcL, sg_len, Int.toNat_natCast]
        unfold cp; omega
    unfold cp at *
    omega
theorem lnN_le (T : List Str) : ∀ l : List V, (∀ s, V.str s ∈ l → s.length ≤ 1000) → (l.map (lnN T)).sum ≤ l.length * 100001
  | [], _ => Nat.zero_le _
  | x :: l, h => by
    have ih := lnN_le T l fun s hs => h s (.tail _ hs)
    have : lnN T x ≤ 100001 := by
      cases x with
      | str s => have := h s (.head _); simp only [lnN]; omega
      | int i => exact cp_le _
      | _ => exact Nat.zero_le _
    rw [List.map_cons, List.sum_cons, List.length_cons, Nat.succ_mul]
    omega
theorem Wr5.cps {n : Nat} {pc : Nat → List V} {T : List Str} (W : Wr5 n pc T) {i : Nat} (h : i < n) : cp ((pc i).map (lnN T)).sum = cp (tx T i).length := by
  rw [cp_sum T (n := i) (pc i) (W.ok i h), ← W.eq i h, sg_len]
theorem Wr5.sumle {n : Nat} {pc : Nat → List V} {T : List Str} (W : Wr5 n pc T) {i : Nat} (h : i < n) : ((pc i).map (lnN T)).sum ≤ 10000100 := by
  have h1 := lnN_le T (pc i) (W.sl i h)
  have h2 := W.sz i h
  have := Nat.mul_le_mul_right 100001 h2
  omega
end My
set_option Elab.async false
set_option linter.all false
set_option maxRecDepth 100000
set_option maxHeartbeats 4000000
namespace My
open PySem L2
local macro_rules
  | `(tactic| simp!) => `(tactic| simp only [tSeq, tIfS, tTest, tOp, tVar, tC, tAsg, gName, gSub, tRet, tNext, tDrop, tAnd, tOr, tNot, tAndV, tOrV, tB, tIf, tCall, rI0, rI, rAddW_int, rAddW_str, rMulW_int, rMulW_ref, rLtU_int, rLtU_str, rLeU_int, rLeU_str, rIxU_str, rIxU_ref, rLenU_str, rLenU_ref, rIntU_int, rIntU_bl, rListU_str, rListU_ref, rPopU_ref, rAppendU_ref, rExtendU_ref, rEqU_int, rEqU_bl, rEqU_str, rEqU_ref, rNeU_int, rNeU_bl, rNeU_str, rNeU_ref, rIsU_ty, rSetU_ref, isL_ref, lstOf_lst, tupOf_tup, seqOf_lst, seqOf_tup, Option.isSome_some, tBML, tBML0, tCB, tCons, tNil, tLst, tTup, tSl, tPart, tNoPart, rSlU_str, iAny, iRng1, rMinU_int, tDIn, sDPut, tFor_eq, tComp, tCompIf, compSt, tUn, rU, tCallV, tTru, rTru_ref, rTru_bl, rTru_str, rPop0U_ref, rSumU_ref, rRev_ref, tListRev, rStrK_str, tFmt, tJnil, tJcons, tJoin, tBMS, isS_str, rInU_str, tExc0, tRaise, tTryA, hdl, rIsW_ty, rIsW_ref, tBM0, tBM, tyV_str, Option.bind_some, Option.bind_none, Option.getD_some, L2.start, List.map_cons, List.map_nil, List.length_cons, List.length_nil, List.cons_append, List.nil_append, List.append_nil, List.cons.injEq, List.replicate, List.getElem?_cons_zero, List.getElem?_cons_succ, List.set_cons_zero, List.set_cons_succ, Nat.reduceSub, Nat.reduceAdd, Nat.reduceLeDiff, Option.some.injEq, V.int.injEq, V.bl.injEq, V.str.injEq, V.ref.injEq, HO.lst.injEq, HO.tup.injEq, exists_eq_left', exists_eq_left, exists_and_left, true_and, and_true, upd_same, upd_upd, atI_0, atI_1, atI_2, Bool.not_true, Bool.not_false, decide_eq_true_eq, Bool.false_eq_true, if_false, if_true, reduceIte, reduceCtorEq, tDisp, tPairs, iRngDn])
  | `(tactic| simp! [$ls,*]) => `(tactic| simp only [tSeq, tIfS, tTest, tOp, tVar, tC, tAsg, gName, gSub, tRet, tNext, tDrop, tAnd, tOr, tNot, tAndV, tOrV, tB, tIf, tCall, rI0, rI, rAddW_int, rAddW_str, rMulW_int, rMulW_ref, rLtU_int, rLtU_str, rLeU_int, rLeU_str, rIxU_str, rIxU_ref, rLenU_str, rLenU_ref, rIntU_int, rIntU_bl, rListU_str, rListU_ref, rPopU_ref, rAppendU_ref, rExtendU_ref, rEqU_int, rEqU_bl, rEqU_str, rEqU_ref, rNeU_int, rNeU_bl, rNeU_str, rNeU_ref, rIsU_ty, rSetU_ref, isL_ref, lstOf_lst, tupOf_tup, seqOf_lst, seqOf_tup, Option.isSome_some, tBML, tBML0, tCB, tCons, tNil, tLst, tTup, tSl, tPart, tNoPart, rSlU_str, iAny, iRng1, rMinU_int, tDIn, sDPut, tFor_eq, tComp, tCompIf, compSt, tUn, rU, tCallV, tTru, rTru_ref, rTru_bl, rTru_str, rPop0U_ref, rSumU_ref, rRev_ref, tListRev, rStrK_str, tFmt, tJnil, tJcons, tJoin, tBMS, isS_str, rInU_str, tExc0, tRaise, tTryA, hdl, rIsW_ty, rIsW_ref, tBM0, tBM, tyV_str, Option.bind_some, Option.bind_none, Option.getD_some, L2.start, List.map_cons, List.map_nil, List.length_cons, List.length_nil, List.cons_append, List.nil_append, List.append_nil, List.cons.injEq, List.replicate, List.getElem?_cons_zero, List.getElem?_cons_succ, List.set_cons_zero, List.set_cons_succ, Nat.reduceSub, Nat.reduceAdd, Nat.reduceLeDiff, Option.some.injEq, V.int.injEq, V.bl.injEq, V.str.injEq, V.ref.injEq, HO.lst.injEq, HO.tup.injEq, exists_eq_left', exists_eq_left, exists_and_left, true_and, and_true, upd_same, upd_upd, atI_0, atI_1, atI_2, Bool.not_true, Bool.not_false, decide_eq_true_eq, Bool.false_eq_true, if_false, if_true, reduceIte, reduceCtorEq, tDisp, tPairs, iRngDn, $ls,*])
def top (i : Nat) : Stmt := PySem.Challenge.pw_calmword_k45_texts_that_are_too_long.main.body.getD i (.Pass ⟨0, 0, 0, 0⟩)
def BoxO (o : HO) : Prop := ∃ c s, o = .lst [.int c, .int s] ∧ 1 ≤ s ∧ s ≤ 2147483629
def spTake : Sp := fun vs H Q _ => ∃ b w o, vs = [.ref b, .int w] ∧ H b = some o ∧ BoxO o ∧ 0 < w ∧ w < 1073741824 ∧ ∀ d o, 0 ≤ d → d < w → BoxO o → Q (.int d) (upd H b o)
def spBox (K : PySem.W.Frag) : Sp := fun vs H Q _ => ∃ (a : Addr) (k : Int) (ns : List Int), vs = [.ref a, .int k] ∧ SqL K H a (ns.map V.int) ∧ 0 ≤ k ∧ k ≤ 1000 ∧ ∀ b o, H b = none → BoxO o → Q (.ref b) (upd H b o)
section
variable {P : Program} {w : World} {K : PySem.W.Frag} {mg : Str → Option Value} {base : Heap}
abbrev s__law_take : Stmt := top 13
theorem sc__law_take : FnScope ["_law_box_here", "_law_wide", "_law_digit", "_law_one"] ["_law_box_here", "_law_wide"] (defScope s__law_take) := ⟨rfl, rfl, rfl, by decide +kernel, rfl, by decide +kernel, by decide +kernel⟩
theorem ok__law_take {f : Addr} {fd : FuncData} (F : Fun K "_law_take" "_law_take" s__law_take f fd) : FnOk P w K mg base CX0 1 f fd ["_law_box_here", "_law_wide"] spTake := by
  refine F.ok sc__law_take (fun vs H Q E h => ?_) (fun cdv A outer s H vs Q E hr h => ?_)
  · obtain ⟨b, w, o, rfl, _⟩ := h
    rfl
  · obtain ⟨b, w, o, rfl, hb, ⟨c, sd, rfl, s1, s2⟩, w0, w1, k⟩ := h
    refine ⟨_, (QSs.h (qpss_cons (qps_if (qpt_cmpR op_gt (qpe_ix ix_U (qpv 0) qpe_int (fun _ _ => rfl)) qpe_int (nomark _)) (qpss_cons (qps_set (i := 2) sc__law_take.nd rfl (by first | exact Or.inl rfl | exact Or.inr rfl) (qpe_op op_mod (qpe_ix ix_U (qpv 0) qpe_int (fun _ _ => rfl)) (qpv 1)))
    (qpss_cons (qps_asg (qpe_op op_fdiv (qpe_ix ix_U (qpv 0) qpe_int (fun _ _ => rfl)) (qpv 1)) (qpg_sub (qpv 0) qpe_int set_U))
    (qpss_one (qps_ret (qpv 2))))) qpss_nil)
    (qpss_cons (qps_set (i := 3) sc__law_take.nd rfl (by first | exact Or.inl rfl | exact Or.inr rfl) (qpe_op op_mod (qpe_op op_mulW (qpe_ix ix_U (qpv 0) qpe_int (fun _ _ => rfl)) qpe_int) qpe_int))
    (qpss_cons (qps_asg (qpe_op op_addW (qpe_op op_mod (qpe_op op_addW (qpe_op op_mulW (qpv 3) qpe_int) qpe_int) qpe_int) qpe_int) (qpg_sub (qpv 0) qpe_int set_U))
    (qpss_one (qps_ret (qpe_op op_mod (qpe_op op_fdiv (qpe_op op_addW (qpe_op op_mulW (qpv 3) qpe_int) (qpe_ix ix_U (qpv 0) qpe_int (fun _ _ => rfl))) qpe_int) (qpv 1)))))))), ?_⟩
    have m1 : ∀ z m : Int, 0 < m → 0 ≤ z % m ∧ z % m < m := fun z m h => ⟨Int.emod_nonneg z (by omega), Int.emod_lt_of_pos z h⟩
    simp! [hb]
    refine ite2 (fun hc => ?_) (fun _ => ?_)
    · refine ⟨w0, ⟨w0, w1⟩, 0, rfl, ?_⟩
      simp! [hb]
      exact k _ _ (m1 c w w0).1 (m1 c w w0).2 ⟨_, _, rfl, s1, s2⟩
    · have q1 := m1 (sd * 69623) 2147483647 (by decide)
      refine ⟨.inl ⟨by omega, by omega⟩, by decide, .inl ⟨by omega, by omega⟩, by decide, 1, rfl, ?_⟩
      simp! [hb]
      have q2 := m1 (sd * 69623 % 2147483647 * 48271 + 30103) 2147483629 (by decide)
      refine ⟨.inl ⟨by omega, by omega⟩, ⟨by decide, by decide⟩, w0, ?_⟩
      exact k _ _ (m1 _ w w0).1 (m1 _ w w0).2 ⟨_, _, rfl, by omega, by omega⟩
structure TBox (mg : Str → Option Value) : Prop where
  n_len : mg "len" = none
  n_int : mg "int" = none
abbrev s__law_box : Stmt := top 12
theorem sc__law_box : FnScope ["_law_script", "_law_k", "_law_cell", "_law_seed"] ["_law_script", "_law_k"] (defScope s__law_box) := ⟨rfl, rfl, rfl, by decide +kernel, rfl, by decide +kernel, by decide +kernel⟩
theorem ok__law_box {f : Addr} {fd : FuncData} (F : Fun K "_law_box" "_law_box" s__law_box f fd) (T : TBox mg) : FnOk P w K mg base CX0 1 f fd ["_law_script", "_law_k"] (spBox K) := by
  refine F.ok sc__law_box (fun vs H Q E h => ?_) (fun cdv A outer s H vs Q E hr h => ?_)
  · obtain ⟨a, k, ns, rfl, _⟩ := h
    rfl
  · obtain ⟨a, k, ns, rfl, hS, k0, k1, kk⟩ := h
    refine ⟨_, (QSs.h (qpss_cons (qps_set (i := 2) sc__law_box.nd rfl (by first | exact Or.inl rfl | exact Or.inr rfl) (qpe_op op_addW (qpe_op op_mulW qpe_int (qpv 1)) qpe_int))
    (qpss_cons (qps_if (qpt_cmpR op_ltU (qpv 1) (qpe_callB call_len_seq (by rfl) T.n_len bt_len (qpa_cons (qpv 0) qpa_nil)) (nomark _)) (qpss_one (qps_set (i := 2) sc__law_box.nd rfl (by first | exact Or.inl rfl | exact Or.inr rfl) (qpe_ix ix_list (qpv 0) (qpv 1) (fun _ _ => rfl)))) (qpss_one (qps_if (qpt_cmpR op_gt (qpe_callB call_len_seq (by rfl) T.n_len bt_len (qpa_cons (qpv 0) qpa_nil)) qpe_int (nomark _)) (qpss_one (qps_set (i := 2) sc__law_box.nd rfl (by first | exact Or.inl rfl | exact Or.inr rfl) (qpe_op op_addW (qpv 2) (qpe_op op_mulW (qpe_op op_mod (qpe_ix ix_list (qpv 0) (qpe_op op_mod (qpv 1) (qpe_callB call_len_seq (by rfl) T.n_len bt_len (qpa_cons (qpv 0) qpa_nil))) (fun _ _ => rfl)) qpe_int) qpe_int)))) qpss_nil)))
    (qpss_cons (qps_set (i := 3) sc__law_box.nd rfl (by first | exact Or.inl rfl | exact Or.inr rfl) (qpe_op op_addW (qpe_op op_mod (qpe_op op_addW (qpe_op op_mulW (qpe_op op_mod (qpv 2) qpe_int) qpe_int) (qpe_op op_mulW qpe_int (qpv 1))) qpe_int) qpe_int))
    (qpss_one (qps_ret (qpe_lst (qpa_cons (qpe_op op_mulW (qpv 2) (qpe_callTy call_intU (by rfl) T.n_int bt_int (qpa_cons (qpe_cmpR op_ge (qpv 2) (qpe_op op_pow qpe_int qpe_int) (nomark _)) qpa_nil))) (qpa_cons (qpv 3) qpa_nil))))))))), ?_⟩
    have m1 : ∀ z m : Int, 0 < m → 0 ≤ z % m ∧ z % m < m := fun z m h => ⟨Int.emod_nonneg z (by omega), Int.emod_lt_of_pos z h⟩
    have tail : ∀ cell : Int, (0 : Int) < 2147483629 ∧ CMul (cell % 2147483629) 48271 ∧ CMul 40692 k ∧ (0 : Int) < 2147483629 ∧ CPow 10 18 ∧ CMul cell (if (10 : Int) ^ (18 : Int).toNat ≤ cell then 1 else 0) ∧ 2 ≤ sizeLine ∧
        ∀ p, H p = none → Q (.ref p) (upd H p (.lst [.int (cell * (if (10 : Int) ^ (18 : Int).toNat ≤ cell then 1 else 0)), .int ((cell % 2147483629 * 48271 + 40692 * k) % 2147483629 + 1)])) := by
      intro cell
      have q1 := m1 cell 2147483629 (by decide)
      have q2 := m1 (cell % 2147483629 * 48271 + 40692 * k) 2147483629 (by decide)
      refine ⟨by decide, .inl ⟨by omega, by omega⟩, .inl ⟨by decide, by decide⟩, by decide, ⟨by decide, by decide, by decide⟩, .inr ?_, by decide, fun p hp => kk p _ hp ⟨_, _, rfl, by omega, by omega⟩⟩
      split <;> constructor <;> decide
    simp!
    refine ⟨.inl ⟨by decide, by decide⟩, ns.map V.int, .inl hS, ?_⟩
    rw [List.length_map]
    refine ite2 (fun h => ?_) (fun h => ?_)
    · obtain ⟨z, hz⟩ : ∃ z, ns[k.toNat]? = some z := ⟨ns[k.toNat]'(by omega), by simp⟩
      refine ⟨a, _, k, .int z, rfl, rfl, hS, atI_of k0 (by rw [List.getElem?_map, hz]; rfl), ?_⟩
      simp!
      exact tail z
    · refine ⟨ns.map V.int, .inl hS, ?_⟩
      rw [List.length_map]
      refine ite2 (fun h2 => ?_) (fun h2 => ?_)
      · refine ⟨ns.map V.int, .inl hS, ?_⟩
        rw [List.length_map]
        have q := m1 k (ns.length : Int) (by omega)
        obtain ⟨z, hz⟩ : ∃ z, ns[(k % (ns.length : Int)).toNat]? = some z := ⟨ns[(k % (ns.length : Int)).toNat]'(by omega), by simp⟩
        refine ⟨by omega, a, _, _, .int z, rfl, rfl, hS, atI_of q.1 (by rw [List.getElem?_map, hz]; rfl), ?_⟩
        simp!
        have q3 := m1 z 2147483629 (by decide)
        refine ⟨by decide, .inl ⟨by omega, by omega⟩, ?_⟩
        exact tail _
      · exact tail _
end
theorem _root_.L2.Kp.seq {S : List Addr} {K : PySem.W.Frag} {H H' : Hp} {a : Addr} {xs : List V} (e : Kp S H H') (n : a ∉ S) (h : SqL K H a xs) : SqL K H' a xs := by
  rcases h with (h | ⟨o, h⟩) | h
  · exact .inl (.inl (e.old _ _ h n))
  · exact .inl (.inr ⟨o, e.old _ _ h n⟩)
  · exact .inr h
def spLaw (K : PySem.W.Frag) : Sp := fun vs H Q _ => ∃ (a : Addr) (ns : List Int), vs = [.ref a] ∧ SqL K H a (ns.map V.int) ∧ ns.length ≤ 63 ∧ ∀ H', Q (.bl true) H'
theorem kp_fly0 {H : Hp} {e : Addr} {o : HO} (he : H e = none) : Kp [] H (dropH (upd H e o) e) := by
  have go : ∀ a u, H a = some u → dropH (upd H e o) e a = some u := fun a u h => by
    have n1 := ne_of_none h he
    rw [dropH_ne n1, upd_ne n1]; exact h
  exact ⟨fun a u h _ => go a u h, fun a xs h => go a _ h, fun a u h => ⟨u, go a u h⟩⟩
def spG (D : Hp → V → List V → Prop) : Sp := fun vs H Q _ => ∃ v l, vs = [v] ∧ D H v l ∧ ∀ p H', H' p = some (.lst l) → H p = none → Kp [] H H' → Q (.ref p) H'
def spSg (D : Hp → V → List V → Prop) (fp : Addr) : Sp := fun vs H Q _ => ∃ a rows pc T, vs = [.ref a, .ref fp] ∧ H a = some (.tup rows) ∧ (∀ k v, rows[k]? = some v → D H v (pc k)) ∧ Wr5 rows.length pc T ∧ ∀ H', Kp [] H H' → Q (.int ((cp (tx T (rows.length - 1)).length : Nat) : Int)) H'
def spWn (D : Hp → V → List V → Prop) (fp cT : Addr) : Sp := fun vs H Q E => ∃ a rows pc T, vs = [.ref a, .ref fp] ∧ H a = some (.tup rows) ∧ (∀ k v, rows[k]? = some v → D H v (pc k)) ∧ Wr5 rows.length pc T ∧ ((tx T (rows.length - 1)).length ≤ 100000 → ∀ H', Kp [] H H' → Q (.str (tx T (rows.length - 1))) H') ∧
  (100000 < (tx T (rows.length - 1)).length → ∀ H', Kp [] H H' → E (.ref cT) none H')
structure TSg (K : PySem.W.Frag) (mg : Str → Option Value) (tk : Tok) : Prop where
  n_isinstance : mg "isinstance" = none
  n_min : mg "min" = none
  n_len : mg "len" = none
  n_sum : mg "sum" = none
  n_str : mg "str" = none
  m_MOST_SIGNS : mg "MOST_SIGNS" = some (.int 100000 tk)
  iss : PySem.W.kitOne K (.type "str") (.type "str") = some true
  isi : PySem.W.kitOne K (.type "int") (.type "str") = some false
section
variable {P : Program} {w : World} {K : PySem.W.Frag} {mg : Str → Option Value} {base : Heap}
abbrev s_signs_of : Stmt := top 7
theorem sc_signs_of : FnScope ["rows", "pieces", "counts", "row", "count"] ["rows", "pieces"] (defScope s_signs_of) := ⟨rfl, rfl, rfl, by decide +kernel, rfl, by decide +kernel, by decide +kernel⟩
theorem ok_signs_of {D : Hp → V → List V → Prop} (hD : ∀ H H' v l, Kp [] H H' → D H v l → D H' v l) {f fp : Addr} {fd fdp : FuncData} {tk : Tok} {xp qp : Str} {stp : Stmt} {psp : List Str} (F : Fun K "signs_of" "signs_of" s_signs_of f fd) (T : TSg K mg tk)
    (F_pieces : Fun K xp qp stp fp fdp) (b_pieces : Binds K fdp psp []) (G_pieces : FnOk P w K mg base CX0 3 fp fdp psp (spG D)) : FnOk P w K mg base CX0 4 f fd ["rows", "pieces"] (spSg D fp) := by
  refine F.ok sc_signs_of (fun vs H Q E h => ?_) (fun cdv A outer s H vs Q E hr h => ?_)
  · obtain ⟨a, rows, pc, T, rfl, _⟩ := h
    rfl
  · obtain ⟨a, rows, pc, TT, rfl, ha, hrows, W, k⟩ := h
    refine ⟨_, (QSs.h (qpss_cons (qps_set (i := 2) sc_signs_of.nd rfl (by first | exact Or.inl rfl | exact Or.inr rfl) (qpe_lst qpa_nil))
    (qpss_cons (qps_for PassesOwn.never rfl (qpi_any (K := K) (qpv 0) rfl) (qpg_name (i := 3) sc_signs_of.nd rfl (by first | exact Or.inl rfl | exact Or.inr rfl)) (qpss_cons (qps_set (i := 4) sc_signs_of.nd rfl (by first | exact Or.inl rfl | exact Or.inr rfl) (qpe_callB (call_sumU rfl) (by rfl) T.n_sum bt_sum (qpa_cons (qpe_comp rfl (compOk_of (sc := defScope s_signs_of) (N := ["rows", "pieces", "counts", "row", "count"]) (Nc := ["piece", "counts"]) (js := [none, some 2]) (by decide +kernel)) (qpi_any (K := K) (qpe_callV 1 G_pieces (hr.mono (by decide)) F_pieces.kp b_pieces .nil pass0 (qpa_cons (qpv 3) qpa_nil)) rfl) (fun _ _ _ _ => (qpg_name (i := 0) (show List.Nodup [("piece" : Str), ("counts" : Str)] from by decide +kernel) rfl (by first | exact Or.inl rfl | exact Or.inr rfl))) (fun _ _ _ _ => (qpe_ifExp (qpt_val (qpe_callB (call_isinstanceK (K := K) rfl) (by rfl) T.n_isinstance bt_isinstance (qpa_cons (qpv 0) (qpa_cons (qpe_bltn (v := .ty "str") rfl T.n_str bt_str rfl) qpa_nil)))) (qpe_callB call_lenU (by rfl) T.n_len bt_len (qpa_cons (qpv 0) qpa_nil)) (qpe_ix ix_U (qpv 1) (qpv 0) (fun _ _ => rfl))))) qpa_nil)))
    (qpss_one (qps_expr (qpe_bmL PySem.F.slot_list_append PySem.F.type_list_append mt_appendU (qpv 2) (qpa_cons (qpe_callB (call_minU rfl) (by rfl) T.n_min bt_min (qpa_cons (qpv 4) (qpa_cons (qpe_op op_addW (qpe_glob (v := .int 100000) rfl T.m_MOST_SIGNS ⟨_, rfl⟩) qpe_int) qpa_nil))) qpa_nil) mono_var)))))
    (qpss_one (qps_ret (qpe_ix ix_U (qpv 2) (qpe_un un_neg qpe_int) (fun _ _ => rfl))))))), ?_⟩
    have hsz : sizeLine = 16777216 := PySem.sizeLine_eq
    simp!
    refine ⟨by omega, fun c hc => ?_⟩
    have hac : a ≠ c := ne_of_none ha hc
    have ha2 : ∀ o, upd H c o a = some (.tup rows) := fun o => by rw [upd_ne hac]; exact ha
    simp! [ha2]
    refine loop_tup (xs := rows) (fun i σ H' => ∃ v1 v2, σ = [some (.ref a), some (.ref fp), some (.ref c), v1, v2] ∧ Kp [] H H' ∧ H' c = some (.lst ((List.range i).map fun j => .int ((cp (tx TT j).length : Nat) : Int)))) ?_ ?_ ?_ ?_
    · exact ⟨none, none, rfl, (Kp.refl [] H).new hc, upd_same⟩
    · rintro i σ H' _ ⟨v1, v2, rfl, kp, _⟩
      exact kp.tup _ _ ha
    · rintro i x σ H' hx ⟨v1, v2, rfl, kp, hc'⟩
      have hi : i < rows.length := (List.getElem?_eq_some_iff.mp hx).1
      simp!
      refine ⟨x, pc i, rfl, hD _ _ _ _ kp (hrows i x hx), fun p H1 hp1 hp0 kp1 => ?_⟩
      simp! [hp1]
      intro D2 hD2
      have hc1 : H1 c = some (.lst ((List.range i).map fun j => .int ((cp (tx TT j).length : Nat) : Int))) := kp1.old _ _ hc' (by simp)
      have ncD : c ≠ D2 := ne_of_none hc1 hD2
      have hz : (pc i).length ≤ sizeLine := by have := W.sz i hi; omega
      refine comp_list (lnC TT) hp1 hD2 hz (fun y hy l Q' hq => ?_) fun v => ?_
      · rcases W.ok i hi y hy with ⟨s, rfl⟩ | ⟨j, rfl, hj⟩
        · simp!
          refine ⟨_, TyOf.str _, true, T.iss, ?_⟩
          simp!
          exact ⟨by have := W.sl i hi s hy; omega, hq⟩
        · simp!
          refine ⟨_, TyOf.int _, false, T.isi, ?_⟩
          simp!
          exact ⟨_, by rw [upd_ne ncD, hc1]; rfl, .int ((cp (tx TT j).length : Nat) : Int), atI_of (by omega) (by simp [hj]), hq⟩
      · refine ⟨(pc i).map fun x => ((lnN TT x : Nat) : Int), by rw [upd_same, List.map_map]; rfl, ?_⟩
        have e1 : ((pc i).map fun x => ((lnN TT x : Nat) : Int)).sum = ((((pc i).map (lnN TT)).sum : Nat) : Int) := by
          rw [← sum_nat, List.map_map]; rfl
        have b1 := W.sumle hi
        have b2 := W.cps hi
        rw [e1]
        refine ⟨fun n hn => ?_, by omega, ?_⟩
        · obtain ⟨x, _, rfl⟩ := List.mem_map.mp hn
          omega
        have hc3 : upd H1 D2 (.lst ((pc i).map (lnC TT))) c = some (.lst ((List.range i).map fun j => .int ((cp (tx TT j).length : Nat) : Int))) := by rw [upd_ne ncD]; exact hc1
        simp! [hc3]
        have few := W.few
        rw [show (if (100000 : Int) + 1 < ((((pc i).map (lnN TT)).sum : Nat) : Int) then (100000 : Int) + 1 else ((((pc i).map (lnN TT)).sum : Nat) : Int)) = ((cp (tx TT i).length : Nat) : Int) from by rw [← b2]; unfold cp; split <;> omega]
        refine ⟨by simp; omega, _, _, ⟨rfl, rfl⟩, ?_, ?_⟩
        · refine ((kp.trans kp1).new hD2).set hc3 (.inr hc)
        · rw [List.range_succ, List.map_append]; rfl
    · rintro σ H' ⟨v1, v2, rfl, kp, hc'⟩
      simp! [hc']
      have := W.pos
      exact ⟨_, atI_m1 (by rw [List.length_map, List.length_range, List.getElem?_map, List.getElem?_range (by omega)]; rfl), k H' kp⟩
structure TWn (K : PySem.W.Frag) (mg : Str → Option Value) (fs cT NT D : Addr) (tk : Tok) : Prop where
  n_isinstance : mg "isinstance" = none
  n_list : mg "list" = none
  n_reversed : mg "reversed" = none
  n_len : mg "len" = none
  n_str : mg "str" = none
  m_MOST_SIGNS : mg "MOST_SIGNS" = some (.int 100000 tk)
  m_signs_of : mg "signs_of" = some (.ref fs)
  m_TooLong : mg "TooLong" = some (.ref cT)
  c_TooLong : XC K cT D NT
  i_TooLong : PySem.W.nsIn K NT "__init__" = some none
abbrev s_written : Stmt := top 6
theorem sc_written : FnScope ["rows", "pieces", "texts", "due", "piece"] ["rows", "pieces"] (defScope s_written) := ⟨rfl, rfl, rfl, by decide +kernel, rfl, by decide +kernel, by decide +kernel⟩
def lstAt (H : Hp) (a : Addr) : List V := (lstOf (H a)).getD []
theorem ok_written {D : Hp → V → List V → Prop} (hD : ∀ H H' v l, Kp [] H H' → D H v l → D H' v l) {f fp fs cT NT D0 : Addr} {fd fdp fds : FuncData} {tk : Tok} {xp qp : Str} {stp : Stmt} {psp : List Str} (F : Fun K "written" "written" s_written f fd) (T : TWn K mg fs cT NT D0 tk)
    (iss : PySem.W.kitOne K (.type "str") (.type "str") = some true) (isi : PySem.W.kitOne K (.type "int") (.type "str") = some false)
    (F_pieces : Fun K xp qp stp fp fdp) (b_pieces : Binds K fdp psp []) (G_pieces : FnOk P w K mg base CX0 3 fp fdp psp (spG D))
    (F_signs_of : Fun K "signs_of" "signs_of" s_signs_of fs fds) (b_signs_of : Binds K fds ["rows", "pieces"] []) (G_signs_of : FnOk P w K mg base CX0 4 fs fds ["rows", "pieces"] (spSg D fp)) : FnOk P w K mg base (CXE P w) 5 f fd ["rows", "pieces"] (spWn D fp cT) := by
  refine F.okE sc_written (fun vs H Q E h => ?_) (fun cdv A outer s H vs Q E hr h => ?_)
  · obtain ⟨a, rows, pc, T, rfl, _⟩ := h
    rfl
  · obtain ⟨a, rows, pc, TT, rfl, ha, hrows, W, k, kE⟩ := h
    refine ⟨_, (QSs.h (qpss_cons (qps_if (qpt_cmpR op_gt (qpe_call G_signs_of (hr.mono (by decide)) rfl T.m_signs_of F_signs_of.kp b_signs_of .nil pass0 (qpa_cons (qpv 0) (qpa_cons (qpv 1) qpa_nil))) (qpe_glob (v := .int 100000) rfl T.m_MOST_SIGNS ⟨_, rfl⟩) (nomark _)) (qpss_one (qps_raise rfl rfl rfl leaves_of (qpe_exc0 rfl T.c_TooLong T.i_TooLong rfl T.m_TooLong))) qpss_nil)
    (qpss_cons (qps_set (i := 2) sc_written.nd rfl (by first | exact Or.inl rfl | exact Or.inr rfl) (qpe_lst qpa_nil))
    (qpss_cons (qps_set (i := 3) sc_written.nd rfl (by first | exact Or.inl rfl | exact Or.inr rfl) (qpe_lst (qpa_cons (qpe_op op_sub (qpe_callB call_lenU (by rfl) T.n_len bt_len (qpa_cons (qpv 0) qpa_nil)) qpe_int) qpa_nil)))
    (qpss_cons (qps_while passOwn_of (qpt_tru (qpv 3)) (qpss_cons (qps_set (i := 4) sc_written.nd rfl (by first | exact Or.inl rfl | exact Or.inr rfl) (qpe_bmL0 PySem.F.slot_list_pop PySem.F.type_list_pop mt_pop0U (qpv 3) mono_var))
    (qpss_one (qps_if (qpt_val (qpe_callB (call_isinstanceK (K := K) rfl) (by rfl) T.n_isinstance bt_isinstance (qpa_cons (qpv 4) (qpa_cons (qpe_bltn (v := .ty "str") rfl T.n_str bt_str rfl) qpa_nil)))) (qpss_one (qps_expr (qpe_bmL PySem.F.slot_list_append PySem.F.type_list_append mt_appendU (qpv 2) (qpa_cons (qpv 4) qpa_nil) mono_var))) (qpss_one (qps_expr (qpe_bmL PySem.F.slot_list_extend PySem.F.type_list_extend mt_extendU (qpv 3) (qpa_cons (qpe_listRev rfl rfl T.n_list rfl T.n_reversed (qpe_callV 1 G_pieces (hr.mono (by decide)) F_pieces.kp b_pieces .nil pass0 (qpa_cons (qpe_ix ix_U (qpv 0) (qpv 4) (fun _ _ => rfl)) qpa_nil))) qpa_nil) mono_var)))))))
    (qpss_one (qps_ret (qpe_bmS PySem.F.slot_str_join PySem.F.type_str_join mt_joinU qpe_str (qpa_cons (qpv 2) qpa_nil) mono_c)))))))), ?_⟩
    have hsz : sizeLine = 16777216 := PySem.sizeLine_eq
    have hpos := W.pos
    have few := W.few
    simp!
    refine ⟨a, rows, pc, TT, rfl, ha, hrows, W, fun H1 kp1 => ?_⟩
    refine ⟨_, rfl, ?_⟩
    refine ite2 (fun hbig => ?_) (fun hsmall => ?_)
    · intro e he
      exact ⟨cT, D0, NT, none, rfl, T.c_TooLong, kp1.free he, kE (by unfold cp at hbig; omega) _ (kp1.trans (kp_fly0 he))⟩
    have bd : (tx TT (rows.length - 1)).length ≤ 100000 := by unfold cp at hsmall; omega
    have ha1 := kp1.tup _ _ ha
    refine ⟨by omega, fun t ht => ?_⟩
    have hat : a ≠ t := ne_of_none ha1 ht
    have ha2 : ∀ o, upd H1 t o a = some (.tup rows) := fun o => by rw [upd_ne hat]; exact ha1
    simp! [ha2]
    refine ⟨by omega, fun d hd => ?_⟩
    have htd : t ≠ d := ne_of_none upd_same hd
    have hd0 : H1 d = none := by rw [upd_ne htd.symm] at hd; exact hd
    refine while_by (fun σ H' => ∃ (v1 : Option V) (ys : List Str) (xs : List V), σ = [some (.ref a), some (.ref fp), some (.ref t), some (.ref d), v1] ∧ Kp [] H1 H' ∧ H' t = some (.lst (ys.map V.str)) ∧ H' d = some (.lst xs) ∧ (∀ x ∈ xs, isPc rows.length x) ∧
      (ys.map sg).flatten ++ cat TT xs.reverse = sg (tx TT (rows.length - 1)) ∧ ys.length + wsum TT xs ≤ 200000) (fun _ H' => wsum TT (lstAt H' d)) ?_ ?_ ?_
    · refine ⟨none, [], [.int ((rows.length : Int) - 1)], rfl, ((Kp.refl [] H1).new ht).new hd, by rw [upd_ne htd, upd_same]; rfl, upd_same, ?_, ?_, ?_⟩
      · intro x hx
        simp at hx
        subst hx
        exact .inr ⟨rows.length - 1, by congr 1; omega, by omega⟩
      · have e : ((rows.length : Int) - 1).toNat = rows.length - 1 := by omega
        simp [cat, pcL, e]
      · have e : ((rows.length : Int) - 1).toNat = rows.length - 1 := by omega
        simp [wsum, pw, e]
        omega
    · rintro σ H' ⟨v1, ys, xs, rfl, kp, hT, hd', hok, heq, hw⟩
      simp! [hd']
      have hge := wsum_ge TT (fun i hi => W.one hi) xs hok
      cases hxs : xs.isEmpty with
      | true =>
        have : xs = [] := List.isEmpty_iff.mp hxs
        subst this
        simp! [hT]
        have e : (ys.map sg).flatten = sg (tx TT (rows.length - 1)) := by simpa [cat] using heq
        have e2 : Txt.join (Str.ofString "") ys = tx TT (rows.length - 1) := sg_inj (by rw [joinT, e])
        have e3 : (ys.map (·.length)).sum = (tx TT (rows.length - 1)).length := by
          rw [← sg_len, ← e, List.length_flatten, List.map_map]
          have : ∀ l : List Str, (l.map (·.length)).sum = (l.map (List.length ∘ sg)).sum := by
            intro l
            induction l with
            | nil => rfl
            | cons z l ih => simp only [List.map_cons, List.sum_cons, ih, Function.comp, sg_len]
          exact this ys
        refine ⟨ys, hT, ?_, ?_⟩
        · rw [e3]
          show _ + ys.length * 0 ≤ _
          omega
        · rw [e2]
          exact k bd H' (kp1.trans kp)
      | false =>
        have hne : xs ≠ [] := by intro z; subst z; simp at hxs
        obtain ⟨y, hy⟩ : ∃ y, xs[xs.length - 1]? = some y := by
          have : 0 < xs.length := List.length_pos_iff.mpr hne
          exact ⟨xs[xs.length - 1]'(by omega), by simp⟩
        have exs := last_of hy
        have hym : y ∈ xs := List.mem_of_getElem? hy
        have hl0 : wsum TT (lstAt H' d) = wsum TT xs.dropLast + pw TT y := by
          have : lstAt H' d = xs := by simp [lstAt, hd', lstOf]
          rw [this]
          conv => lhs; rw [exs]
          rw [wsum_app]
          simp [wsum]
        have hw2 : wsum TT xs = wsum TT xs.dropLast + pw TT y := by
          conv => lhs; rw [exs]
          rw [wsum_app]
          simp [wsum]
        have hcat : cat TT xs.reverse = pcL TT y ++ cat TT xs.dropLast.reverse := by
          conv => lhs; rw [exs]
          rw [List.reverse_append, cat_app]
          simp [cat]
        have hokd : ∀ x ∈ xs.dropLast, isPc rows.length x := fun x hx => hok x (List.dropLast_subset _ hx)
        simp!
        refine ⟨y, hy, ?_⟩
        have kp2 : Kp [] H1 (upd H' d (.lst xs.dropLast)) := kp.set hd' (.inr hd0)
        have ht2 : ∀ o, upd H' d o t = some (.lst (ys.map V.str)) := fun o => by rw [upd_ne htd]; exact hT
        rcases hok y hym with ⟨z, rfl⟩ | ⟨i, rfl, hi⟩
        · simp!
          refine ⟨_, TyOf.str _, iss, by rw [ht2]; rfl, ys.map V.str, by rw [ht2]; rfl, by rw [List.length_map]; omega, ⟨kp2.set (ht2 _) (.inr ht), ys ++ [z], by simp, xs.dropLast, by rw [upd_ne htd.symm, upd_same], hokd, ?_, ?_⟩, ?_⟩
          · rw [← heq, hcat, List.map_append, List.flatten_append, List.append_assoc]
            simp [pcL]
          · rw [hw2] at hw
            simp [pw] at hw
            rw [List.length_append]
            simp
            omega
          · rw [hl0]
            have : lstAt (upd (upd H' d (.lst xs.dropLast)) t (.lst (ys.map V.str ++ [.str z]))) d = xs.dropLast := by simp [lstAt, upd_ne htd.symm, upd_same, lstOf]
            rw [this]
            simp [pw]
        · simp!
          refine ⟨_, TyOf.int _, false, isi, ?_⟩
          have ha3 := kp2.tup _ _ ha1
          simp! [ha3]
          obtain ⟨v, hv⟩ : ∃ v, rows[i]? = some v := ⟨rows[i]'hi, by simp⟩
          refine ⟨_, atI_of (by omega) (by simpa using hv), ?_⟩
          refine ⟨v, pc i, rfl, hD _ _ _ _ (kp1.trans kp2) (hrows i v hv), fun p H2 hp hp0 kp3 => ?_⟩
          simp! [hp]
          intro l hl
          have hd2 : H2 d = some (.lst xs.dropLast) := kp3.old _ _ upd_same (by simp)
          have hdl : d ≠ l := ne_of_none hd2 hl
          have hd3 : ∀ o, upd H2 l o d = some (.lst xs.dropLast) := fun o => by rw [upd_ne hdl]; exact hd2
          simp! [hd3]
          have hwt := W.wt i hi
          have e4 : pw TT (.int (i : Int)) = 2 * (tx TT i).length := by simp [pw]
          rw [e4] at hw2 hl0
          have hge2 := wsum_ge TT (fun i hi => W.one hi) _ hokd
          have hsz2 := W.sz i hi
          refine ⟨by rw [List.length_reverse]; omega, ?_⟩
          have hT2 : H2 t = some (.lst (ys.map V.str)) := kp3.old _ _ (ht2 _) (by simp)
          have htl : t ≠ l := ne_of_none hT2 hl
          refine ⟨⟨((kp2.trans kp3).new hl).set (hd3 _) (.inr hd0), ys, by rw [upd_ne htd, upd_ne htl]; exact hT2, ?_, ?_, ?_⟩, ?_⟩
          · intro x hx
            rcases List.mem_append.mp hx with h | h
            · exact hokd x h
            · exact (W.ok i hi x (List.mem_reverse.mp h)).mono (by omega)
          · rw [← heq, hcat, List.reverse_append, List.reverse_reverse, cat_app, ← W.eq i hi]
            simp [pcL]
          · rw [wsum_app, wsum_rev]
            omega
          · rw [hl0]
            have : lstAt (upd (upd H2 l (.lst (pc i).reverse)) d (.lst (xs.dropLast ++ (pc i).reverse))) d = xs.dropLast ++ (pc i).reverse := by simp [lstAt, upd_same, lstOf]
            rw [this, wsum_app, wsum_rev]
            omega
    · intro σ H' Q1 Q2 hq h
      obtain ⟨v, e, h⟩ := h
      refine ⟨v, e, ?_⟩
      replace h : rTru v H' Q1 := h
      show rTru v H' Q2
      unfold rTru at h ⊢
      split at h
      · exact hq _ _ h
      · exact hq _ _ h
      · exact hq _ _ h
      · exact ⟨h.1, hq _ _ h.2⟩
      · obtain ⟨xs, e, h⟩ := h
        exact ⟨xs, e, hq _ _ h⟩
      · exact h.elim
end
inductive RS where
  | yes | is (x a : Str) | ahead (x y : Str) | no (i : Nat) | bin (b : Bool) (i j : Nat) | qn (b : Bool) (x : Str) (i : Nat)
def bw (b : Bool) : Str := if b then "and" else "or"
def qw (b : Bool) : Str := if b then "some" else "each"
def rowV : RS → List V
  | .yes => [.str "yes"]
  | .is x a => [.str "is", .str x, .str a]
  | .ahead x y => [.str "ahead", .str x, .str y]
  | .no i => [.str "not", .int (i : Int)]
  | .bin b i j => [.str (bw b), .int (i : Int), .int (j : Int)]
  | .qn b x i => [.str (qw b), .str x, .int (i : Int)]
def pcs : RS → List V
  | .yes => [.str "yes"]
  | .is x a => [.str x, .str " is ", .str a]
  | .ahead x y => [.str x, .str " < ", .str y]
  | .no i => [.str "not ", .int (i : Int)]
  | .bin b i j => [.str "(", .int (i : Int), .str (if b then " and " else " or "), .int (j : Int), .str ")"]
  | .qn b x i => [.str (if b then "some " else "each "), .str x, .str " ", .int (i : Int)]
def DS (H : Hp) (v : V) (l : List V) : Prop := ∃ r a, v = .ref a ∧ H a = some (.tup (rowV r)) ∧ l = pcs r
theorem DS.kp {H H' : Hp} {v : V} {l : List V} (k : Kp [] H H') (h : DS H v l) : DS H' v l := by
  obtain ⟨r, a, e, ha, hl⟩ := h
  exact ⟨r, a, e, k.tup _ _ ha, hl⟩
theorem w1 : (Str.ofString "is" = Str.ofString "yes") = False := eq_false (by decide +kernel)
theorem w2 : (Str.ofString "ahead" = Str.ofString "yes") = False := eq_false (by decide +kernel)
theorem w3 : (Str.ofString "ahead" = Str.ofString "is") = False := eq_false (by decide +kernel)
theorem w4 : (Str.ofString "not" = Str.ofString "yes") = False := eq_false (by decide +kernel)
theorem w5 : (Str.ofString "not" = Str.ofString "is") = False := eq_false (by decide +kernel)
theorem w6 : (Str.ofString "not" = Str.ofString "ahead") = False := eq_false (by decide +kernel)
theorem wb1 (b : Bool) : (bw b = Str.ofString "yes") = False := eq_false (by cases b <;> decide +kernel)
theorem wb2 (b : Bool) : (bw b = Str.ofString "is") = False := eq_false (by cases b <;> decide +kernel)
theorem wb3 (b : Bool) : (bw b = Str.ofString "ahead") = False := eq_false (by cases b <;> decide +kernel)
theorem wb4 (b : Bool) : (bw b = Str.ofString "not") = False := eq_false (by cases b <;> decide +kernel)
theorem wq1 (b : Bool) : (qw b = Str.ofString "yes") = False := eq_false (by cases b <;> decide +kernel)
theorem wq2 (b : Bool) : (qw b = Str.ofString "is") = False := eq_false (by cases b <;> decide +kernel)
theorem wq3 (b : Bool) : (qw b = Str.ofString "ahead") = False := eq_false (by cases b <;> decide +kernel)
theorem wq4 (b : Bool) : (qw b = Str.ofString "not") = False := eq_false (by cases b <;> decide +kernel)
theorem wbi (b : Bool) : inV (.str (bw b)) [.str "and", .str "or"] = true := by cases b <;> decide +kernel
theorem wqi (b : Bool) : inV (.str (qw b)) [.str "and", .str "or"] = false := by cases b <;> decide +kernel
theorem wbe (b : Bool) : Str.empty ++ Str.ofString " " ++ bw b ++ Str.ofString " " = (if b then " and " else " or " : Str) := by cases b <;> decide +kernel
theorem wqe (b : Bool) : Str.empty ++ qw b ++ Str.ofString " " = (if b then "some " else "each " : Str) := by cases b <;> decide +kernel
theorem wbel (b : Bool) : (if b = true then Str.ofString " and " else Str.ofString " or ").length ≤ 5 := by cases b <;> decide +kernel
theorem wqel (b : Bool) : (if b = true then Str.ofString "some " else Str.ofString "each ").length = 5 := by cases b <;> decide +kernel
theorem bwl (b : Bool) : (bw b).length ≤ 3 := by cases b <;> decide +kernel
theorem qwl (b : Bool) : (qw b).length = 4 := by cases b <;> decide +kernel
theorem app_len (x y : Str) : (x ++ y).length = x.length + y.length := by rw [← sg_len, sg_app, List.length_append, sg_len, sg_len]
theorem sp_len : (Str.ofString " ").length = 1 := by decide +kernel
theorem em_len : Str.empty.length = 0 := rfl
section
variable {P : Program} {w : World} {K : PySem.W.Frag} {mg : Str → Option Value} {base : Heap}
abbrev s_pieces_of : Stmt := top 10
theorem sc_pieces_of : FnScope ["row", "word"] ["row"] (defScope s_pieces_of) := ⟨rfl, rfl, rfl, by decide +kernel, rfl, by decide +kernel, by decide +kernel⟩
theorem ok_pieces_of {f : Addr} {fd : FuncData} (F : Fun K "pieces_of" "pieces_of" s_pieces_of f fd) : FnOk P w K mg base CX0 3 f fd ["row"] (spG DS) := by
  refine F.ok sc_pieces_of (fun vs H Q E h => ?_) (fun cdv A outer s H vs Q E hr h => ?_)
  · obtain ⟨v, l, rfl, _⟩ := h
    rfl
  · obtain ⟨v, l, rfl, ⟨r, a, rfl, ha, rfl⟩, k⟩ := h
    have hu := hr.units
    refine ⟨_, (QSs.h (qpss_cons (qps_set (i := 1) sc_pieces_of.nd rfl (by first | exact Or.inl rfl | exact Or.inr rfl) (qpe_ix ix_U (qpv 0) qpe_int (fun _ _ => rfl)))
    (qpss_cons (qps_if (qpt_cmpR (op_eqU hu) (qpv 1) qpe_str (nomark _)) (qpss_one (qps_ret (qpe_lst (qpa_cons qpe_str qpa_nil)))) qpss_nil)
    (qpss_cons (qps_if (qpt_cmpR (op_eqU hu) (qpv 1) qpe_str (nomark _)) (qpss_one (qps_ret (qpe_lst (qpa_cons (qpe_ix ix_U (qpv 0) qpe_int (fun _ _ => rfl)) (qpa_cons qpe_str (qpa_cons (qpe_ix ix_U (qpv 0) qpe_int (fun _ _ => rfl)) qpa_nil)))))) qpss_nil)
    (qpss_cons (qps_if (qpt_cmpR (op_eqU hu) (qpv 1) qpe_str (nomark _)) (qpss_one (qps_ret (qpe_lst (qpa_cons (qpe_ix ix_U (qpv 0) qpe_int (fun _ _ => rfl)) (qpa_cons qpe_str (qpa_cons (qpe_ix ix_U (qpv 0) qpe_int (fun _ _ => rfl)) qpa_nil)))))) qpss_nil)
    (qpss_cons (qps_if (qpt_cmpR (op_eqU hu) (qpv 1) qpe_str (nomark _)) (qpss_one (qps_ret (qpe_lst (qpa_cons qpe_str (qpa_cons (qpe_ix ix_U (qpv 0) qpe_int (fun _ _ => rfl)) qpa_nil))))) qpss_nil)
    (qpss_cons (qps_if (qpt_cmpR (op_inU (K := K) rfl) (qpv 1) (qpe_tup (qpa_cons qpe_str (qpa_cons qpe_str qpa_nil))) (by with_unfolding_all rfl)) (qpss_one (qps_ret (qpe_lst (qpa_cons qpe_str (qpa_cons (qpe_ix ix_U (qpv 0) qpe_int (fun _ _ => rfl)) (qpa_cons (qpe_joined (qpj_cons qpe_str (qpj_cons (qpe_fmt (qpv 1)) (qpj_cons qpe_str qpj_nil)))) (qpa_cons (qpe_ix ix_U (qpv 0) qpe_int (fun _ _ => rfl)) (qpa_cons qpe_str qpa_nil)))))))) qpss_nil)
    (qpss_one (qps_ret (qpe_lst (qpa_cons (qpe_joined (qpj_cons (qpe_fmt (qpv 1)) (qpj_cons qpe_str qpj_nil))) (qpa_cons (qpe_ix ix_U (qpv 0) qpe_int (fun _ _ => rfl)) (qpa_cons qpe_str (qpa_cons (qpe_ix ix_U (qpv 0) qpe_int (fun _ _ => rfl)) qpa_nil)))))))))))))), ?_⟩
    have hsz : sizeLine = 16777216 := PySem.sizeLine_eq
    cases r with
    | yes =>
      simp! [ha, rowV]
      exact ⟨by omega, fun p hp => k p _ upd_same hp ((Kp.refl [] H).new hp)⟩
    | is x y =>
      simp! [ha, rowV, w1]
      exact ⟨by omega, fun p hp => k p _ upd_same hp ((Kp.refl [] H).new hp)⟩
    | ahead x y =>
      simp! [ha, rowV, w2, w3]
      exact ⟨by omega, fun p hp => k p _ upd_same hp ((Kp.refl [] H).new hp)⟩
    | no i =>
      simp! [ha, rowV, w4, w5, w6]
      exact ⟨by omega, fun p hp => k p _ upd_same hp ((Kp.refl [] H).new hp)⟩
    | bin b i j =>
      simp! [ha, rowV, wb1, wb2, wb3, wb4]
      refine ⟨by omega, fun p hp => rInU.tupS (SqT.of upd_same) rfl (by decide) ?_⟩
      have hap : a ≠ p := ne_of_none ha hp
      have ha2 : ∀ o, upd H p o a = some (.tup (rowV (.bin b i j))) := fun o => by rw [upd_ne hap]; exact ha
      simp! [ha2, wbi, rowV, wbe, app_len, sp_len, em_len]
      have := bwl b
      have := wbel b
      refine ⟨by omega, by omega, by omega, by omega, by omega, by omega, fun q hq => ?_⟩
      have hpq : H q = none := by
        by_cases z : q = p
        · subst z; exact hp
        · rw [upd_ne z] at hq; exact hq
      exact k q _ upd_same hpq (((Kp.refl [] H).new hp).new hq)
    | qn b x i =>
      simp! [ha, rowV, wq1, wq2, wq3, wq4]
      refine ⟨by omega, fun p hp => rInU.tupS (SqT.of upd_same) rfl (by decide) ?_⟩
      have hap : a ≠ p := ne_of_none ha hp
      have ha2 : ∀ o, upd H p o a = some (.tup (rowV (.qn b x i))) := fun o => by rw [upd_ne hap]; exact ha
      simp! [ha2, wqi, rowV, wqe, app_len, sp_len, em_len, qwl, wqel]
      refine ⟨by omega, by omega, by omega, by omega, by omega, fun q hq => ?_⟩
      have hpq : H q = none := by
        by_cases z : q = p
        · subst z; exact hp
        · rw [upd_ne z] at hq; exact hq
      exact k q _ upd_same hpq (((Kp.refl [] H).new hp).new hq)
end
def tw (T : List Str) : RS → Str
  | .yes => "yes"
  | .is x a => x ++ Str.ofString " is " ++ a
  | .ahead x y => x ++ Str.ofString " < " ++ y
  | .no i => Str.ofString "not " ++ tx T i
  | .bin b i j => Str.ofString "(" ++ tx T i ++ Str.ofString " " ++ bw b ++ Str.ofString " " ++ tx T j ++ Str.ofString ")"
  | .qn b x i => qw b ++ Str.ofString " " ++ x ++ Str.ofString " " ++ tx T i
def RS.ok (k : Nat) : RS → Prop
  | .yes => True
  | .is x a => x.length ≤ 3 ∧ a.length = 1
  | .ahead x y => x.length ≤ 3 ∧ y.length ≤ 3
  | .no i => i < k
  | .bin _ i j => i < k ∧ j < k
  | .qn _ x i => x.length ≤ 3 ∧ i < k
def txts (rs : List RS) : List Str := rs.foldl (fun T r => T ++ [tw T r]) []
theorem txts_snoc (rs : List RS) (r : RS) : txts (rs ++ [r]) = txts rs ++ [tw (txts rs) r] := by simp [txts, List.foldl_append]
theorem snoc_ind {α : Type} {M : List α → Prop} (h0 : M []) (h1 : ∀ l x, M l → M (l ++ [x])) : ∀ l, M l := by
  intro l
  have : ∀ l : List α, M l.reverse := by
    intro l
    induction l with
    | nil => exact h0
    | cons x l ih => rw [List.reverse_cons]; exact h1 _ _ ih
  have := this l.reverse
  rwa [List.reverse_reverse] at this
theorem txts_len : ∀ rs : List RS, (txts rs).length = rs.length := snoc_ind rfl fun l x ih => by rw [txts_snoc, List.length_append, List.length_append, ih]; rfl
theorem tx_lt {T : List Str} {t : Str} {i : Nat} (h : i < T.length) : tx (T ++ [t]) i = tx T i := by simp [tx, List.getElem?_append_left h]
theorem tx_at (T : List Str) (t : Str) : tx (T ++ [t]) T.length = t := by simp [tx]
theorem tx_ge {T : List Str} {i : Nat} (h : T.length ≤ i) : tx T i = ⟨#[]⟩ := by simp [tx, List.getElem?_eq_none_iff.mpr h]
theorem tw_cong {T T' : List Str} {k : Nat} (h : ∀ i, i < k → tx T i = tx T' i) : ∀ {r : RS}, r.ok k → tw T r = tw T' r
  | .yes, _ => rfl
  | .is _ _, _ => rfl
  | .ahead _ _, _ => rfl
  | .no i, q => by simp only [tw]; rw [h i q]
  | .bin b i j, q => by simp only [tw]; rw [h i q.1, h j q.2]
  | .qn b x i, q => by simp only [tw]; rw [h i q.2]
def okR (rs : List RS) : Prop := ∀ (k : Nat) (r : RS), rs[k]? = some r → r.ok k
theorem okR.pre {rs : List RS} {r : RS} (h : okR (rs ++ [r])) : okR rs := fun k x e => h k x (by rw [List.getElem?_append_left (List.getElem?_eq_some_iff.mp e).1]; exact e)
theorem okR.last {rs : List RS} {r : RS} (h : okR (rs ++ [r])) : r.ok rs.length := h rs.length r (by simp)
theorem okR.snoc {rs : List RS} {r : RS} (h : okR rs) (hr : r.ok rs.length) : okR (rs ++ [r]) := fun k x e => by
  by_cases hk : k < rs.length
  · rw [List.getElem?_append_left hk] at e; exact h k x e
  · have hk' : k = rs.length := by
      have := (List.getElem?_eq_some_iff.mp e).1
      simp at this
      omega
    subst hk'
    simp at e
    subst e
    exact hr
theorem tx_tw : ∀ rs : List RS, okR rs → ∀ k r, rs[k]? = some r → tx (txts rs) k = tw (txts rs) r := by
  refine snoc_ind (fun _ k r e => by simp at e) fun l x ih ok k r e => ?_
  have ok1 := ok.pre
  rw [txts_snoc]
  have cg : ∀ i, i < l.length → tx (txts l ++ [tw (txts l) x]) i = tx (txts l) i := fun i hi => tx_lt (by rw [txts_len]; exact hi)
  by_cases hk : k < l.length
  · rw [List.getElem?_append_left hk] at e
    rw [cg k hk, ih ok1 k r e]
    exact (tw_cong (k := k) (fun i hi => cg i (by omega)) (ok1 k r e)).symm
  · have hk' : k = l.length := by
      have := (List.getElem?_eq_some_iff.mp e).1
      simp at this
      omega
    subst hk'
    simp at e
    subst e
    have e2 := tx_at (txts l) (tw (txts l) x)
    rw [txts_len] at e2
    rw [e2]
    exact (tw_cong cg ok.last).symm
theorem l_yes : (Str.ofString "yes").length = 3 := by decide +kernel
theorem l_is : (Str.ofString " is ").length = 4 := by decide +kernel
theorem l_ah : (Str.ofString " < ").length = 3 := by decide +kernel
theorem l_no : (Str.ofString "not ").length = 4 := by decide +kernel
theorem l_op : (Str.ofString "(").length = 1 := by decide +kernel
theorem l_cl : (Str.ofString ")").length = 1 := by decide +kernel
theorem sg_bw (b : Bool) : sg (if b = true then Str.ofString " and " else Str.ofString " or ") = sg (Str.ofString " ") ++ sg (bw b) ++ sg (Str.ofString " ") := by cases b <;> decide +kernel
theorem sg_qw (b : Bool) : sg (if b = true then Str.ofString "some " else Str.ofString "each ") = sg (qw b) ++ sg (Str.ofString " ") := by cases b <;> decide +kernel
theorem wr_of {rs : List RS} (h0 : 0 < rs.length) (h1 : rs.length ≤ 100000) (ok : okR rs) : Wr5 rs.length (fun k => match rs[k]? with | some r => pcs r | none => []) (txts rs) := by
  have at_ : ∀ k, k < rs.length → ∃ r, rs[k]? = some r := fun k hk => ⟨rs[k]'hk, by simp⟩
  refine ⟨h0, h1, txts_len rs, fun k hk x hx => ?_, fun k hk => ?_, fun k hk s hs => ?_, fun k hk => ?_, fun k hk => ?_⟩
  · obtain ⟨r, e⟩ := at_ k hk
    simp only [e] at hx
    have q := ok k r e
    cases r with
    | yes => simp [pcs] at hx; exact .inl ⟨_, hx⟩
    | is a b => simp [pcs] at hx; rcases hx with h | h | h <;> exact .inl ⟨_, h⟩
    | ahead a b => simp [pcs] at hx; rcases hx with h | h | h <;> exact .inl ⟨_, h⟩
    | no i => simp [pcs] at hx; rcases hx with h | h; exact .inl ⟨_, h⟩; exact .inr ⟨i, h, q⟩
    | bin b i j =>
      simp [pcs] at hx
      rcases hx with h | h | h | h | h
      · exact .inl ⟨_, h⟩
      · exact .inr ⟨i, h, q.1⟩
      · exact .inl ⟨_, h⟩
      · exact .inr ⟨j, h, q.2⟩
      · exact .inl ⟨_, h⟩
    | qn b x i =>
      simp [pcs] at hx
      rcases hx with h | h | h | h
      · exact .inl ⟨_, h⟩
      · exact .inl ⟨_, h⟩
      · exact .inl ⟨_, h⟩
      · exact .inr ⟨i, h, q.2⟩
  · obtain ⟨r, e⟩ := at_ k hk
    simp only [e]
    cases r <;> simp [pcs]
  · obtain ⟨r, e⟩ := at_ k hk
    simp only [e] at hs
    have q := ok k r e
    cases r with
    | yes => simp [pcs] at hs; subst hs; decide +kernel
    | is a b =>
      simp only [RS.ok] at q
      simp [pcs] at hs
      rcases hs with rfl | rfl | rfl
      · omega
      · decide +kernel
      · omega
    | ahead a b =>
      simp only [RS.ok] at q
      simp [pcs] at hs
      rcases hs with rfl | rfl | rfl
      · omega
      · decide +kernel
      · omega
    | no i => simp [pcs] at hs; subst hs; decide +kernel
    | bin b i j =>
      simp [pcs] at hs
      rcases hs with rfl | rfl | rfl
      · decide +kernel
      · cases b <;> decide +kernel
      · decide +kernel
    | qn b x i =>
      simp only [RS.ok] at q
      simp [pcs] at hs
      rcases hs with rfl | rfl | rfl
      · cases b <;> decide +kernel
      · omega
      · decide +kernel
  · obtain ⟨r, e⟩ := at_ k hk
    simp only [e]
    rw [tx_tw rs ok k r e]
    cases r <;> simp [tw, pcs, cat, pcL, sg_app, sg_bw, sg_qw]
  · obtain ⟨r, e⟩ := at_ k hk
    simp only [e]
    rw [tx_tw rs ok k r e]
    cases r <;> simp [tw, pcs, wsum, pw, app_len, l_yes, l_is, l_ah, l_no, l_op, l_cl, sp_len, qwl] <;> omega
def RowsAt (H : Hp) (vs : List V) (rs : List RS) : Prop := Paired (fun v r => ∃ a, v = .ref a ∧ H a = some (.tup (rowV r))) vs rs
theorem RowsAt.kp {S : List Addr} {H H' : Hp} {vs : List V} {rs : List RS} (k : Kp S H H') (h : RowsAt H vs rs) : RowsAt H' vs rs := Paired.mapP h fun _ _ ⟨a, e, h⟩ => ⟨a, e, k.tup _ _ h⟩
theorem RowsAt.get : ∀ {H : Hp} {vs : List V} {rs : List RS} {k : Nat} {v : V}, RowsAt H vs rs → vs[k]? = some v → ∃ r a, rs[k]? = some r ∧ v = .ref a ∧ H a = some (.tup (rowV r))
  | H, _, _, k, v, .nil, e => by simp at e
  | H, _, _, 0, v, .cons (b := b) ⟨a, q1, q2⟩ _, e => by simp at e; subst e; exact ⟨b, a, rfl, q1, q2⟩
  | H, _, _, k + 1, v, .cons _ t, e => by simp at e; obtain ⟨r, a, h⟩ := RowsAt.get (rs := _) t e; exact ⟨r, a, by simpa using h.1, h.2⟩
structure Say (H : Hp) (vs : List V) (rs : List RS) : Prop where
  at_ : RowsAt H vs rs
  pos : 0 < rs.length
  few : rs.length ≤ 100000
  ok : okR rs
def lastT (rs : List RS) : Str := tx (txts rs) (rs.length - 1)
def spShow (cT : Addr) : Sp := fun vs H Q E => ∃ a rows rs, vs = [.ref a] ∧ H a = some (.tup rows) ∧ Say H rows rs ∧ ((lastT rs).length ≤ 100000 → ∀ H', Kp [] H H' → Q (.str (lastT rs)) H') ∧ (100000 < (lastT rs).length → ∀ H', Kp [] H H' → E (.ref cT) none H')
section
variable {P : Program} {w : World} {K : PySem.W.Frag} {mg : Str → Option Value} {base : Heap}
structure TSh (mg : Str → Option Value) (fw fp : Addr) : Prop where
  m_written : mg "written" = some (.ref fw)
  m_pieces_of : mg "pieces_of" = some (.ref fp)
abbrev s_show_saying : Stmt := top 9
theorem sc_show_saying : FnScope ["saying"] ["saying"] (defScope s_show_saying) := ⟨rfl, rfl, rfl, by decide +kernel, rfl, by decide +kernel, by decide +kernel⟩
theorem ok_show_saying {f fw fp cT : Addr} {fd fdw : FuncData} (F : Fun K "show_saying" "show_saying" s_show_saying f fd) (T : TSh mg fw fp)
    (F_written : Fun K "written" "written" s_written fw fdw) (b_written : Binds K fdw ["rows", "pieces"] []) (G_written : FnOk P w K mg base (CXE P w) 5 fw fdw ["rows", "pieces"] (spWn DS fp cT)) : FnOk P w K mg base (CXE P w) 6 f fd ["saying"] (spShow cT) := by
  refine F.okE sc_show_saying (fun vs H Q E h => ?_) (fun cdv A outer s H vs Q E hr h => ?_)
  · obtain ⟨a, rows, rs, rfl, _⟩ := h
    rfl
  · obtain ⟨a, rows, rs, rfl, ha, S, k, kE⟩ := h
    refine ⟨_, (QSs.h (qpss_one (qps_ret (qpe_call G_written (hr.mono (by decide)) rfl T.m_written F_written.kp b_written .nil (leaves_of.passes rfl) (qpa_cons (qpv 0) (qpa_cons (qpe_glob (v := .ref _) rfl T.m_pieces_of rfl) qpa_nil)))))), ?_⟩
    simp!
    have hl : rows.length = rs.length := Paired.length S.at_
    have W := wr_of S.pos S.few S.ok
    refine ⟨a, rows, _, txts rs, rfl, ha, fun k v hv => ?_, by rw [hl]; exact W, fun h H' kp => ?_, fun h H' kp => ?_⟩
    · obtain ⟨r, b, e1, e2, e3⟩ := S.at_.get hv
      exact ⟨r, b, e2, e3, by simp only [e1]⟩
    · rw [hl] at h ⊢; exact k h H' kp
    · rw [hl] at h; exact kE h H' kp
structure THd (K : PySem.W.Frag) (mg : Str → Option Value) (fs D cT NT cB : Addr) : Prop where
  n_isinstance : mg "isinstance" = none
  n_ValueError : mg "ValueError" = none
  m_show_saying : mg "show_saying" = some (.ref fs)
  m_CalmError : mg "CalmError" = some (.ref D)
  xt_CalmError : XT K D
  m_TooLong : mg "TooLong" = some (.ref cT)
  m_BadText : mg "BadText" = some (.ref cB)
  c : XC K cT D NT
  xi : XI K cT
  kB : PySem.W.kitOne K (.ref cT) (.ref cB) = some false
  kV : PySem.W.kitOne K (.ref cT) (.type "ValueError") = some true
def heardV (rs : List RS) : V := if (lastT rs).length ≤ 100000 then .str (lastT rs) else .non
def spHd : Sp := fun vs H Q _ => ∃ a rows rs, vs = [.ref a] ∧ H a = some (.tup rows) ∧ Say H rows rs ∧ ∀ H', Kp [] H H' → Q (heardV rs) H'
abbrev s__law_heard : Stmt := top 23
theorem sc__law_heard : FnScope ["_law_saying", "_law_caught", "_law_text", "e"] ["_law_saying"] (defScope s__law_heard) := ⟨rfl, rfl, rfl, by decide +kernel, rfl, by decide +kernel, by decide +kernel⟩
theorem ok__law_heard {f fs D cT NT cB : Addr} {fd fds : FuncData} (F : Fun K "_law_heard" "_law_heard" s__law_heard f fd) (T : THd K mg fs D cT NT cB)
    (F_show_saying : Fun K "show_saying" "show_saying" s_show_saying fs fds) (b_show_saying : Binds K fds ["saying"] []) (G_show_saying : FnOk P w K mg base (CXE P w) 6 fs fds ["saying"] (spShow cT)) : FnOk P w K mg base CX0 7 f fd ["_law_saying"] spHd := by
  refine F.ok sc__law_heard (fun vs H Q E h => ?_) (fun cdv A outer s H vs Q E hr h => ?_)
  · obtain ⟨a, rows, rs, rfl, _⟩ := h
    rfl
  · obtain ⟨a, rows, rs, rfl, ha, S, k⟩ := h
    refine ⟨_, (QSs.h (qpss_cons (qps_set (i := 1) sc__law_heard.nd rfl (by first | exact Or.inl rfl | exact Or.inr rfl) qpe_non)
    (qpss_cons (qps_set (i := 2) sc__law_heard.nd rfl (by first | exact Or.inl rfl | exact Or.inr rfl) qpe_str)
    (qpss_cons (qps_tryA (i := 2) (j := 3) rfl G_show_saying (hr.mono (by decide)) rfl T.m_show_saying F_show_saying.kp b_show_saying (qpa_cons (qpv 0) qpa_nil) T.xt_CalmError rfl T.m_CalmError (fun A' h1 h2 h3 h4 => (qpss_one (qps_set (i := 1) sc__law_heard.nd rfl (by first | exact Or.inl rfl | exact Or.inr rfl) (qpv 3)))) ⟨rfl, rfl⟩ rfl (fun _ _ z => z) sc__law_heard.nd rfl rfl rfl rfl)
    (qpss_cons (qps_if (qpt_cmpR op_isN (qpv 1) qpe_non (nomark _)) (qpss_one (qps_ret (qpv 2))) qpss_nil)
    (qpss_cons (qps_if (QW.pt (qpw_or (qpt_not (qpt_val (qpe_callB (call_isW (K := K) rfl) (by rfl) T.n_isinstance bt_isinstance (qpa_cons (qpv 1) (qpa_cons (qpe_glob (v := .ref _) rfl T.m_TooLong rfl) qpa_nil))))) (qpw_or (qpt_val (qpe_callB (call_isW (K := K) rfl) (by rfl) T.n_isinstance bt_isinstance (qpa_cons (qpv 1) (qpa_cons (qpe_glob (v := .ref _) rfl T.m_BadText rfl) qpa_nil)))) (qpw_or1 (qpt_not (qpt_val (qpe_callB (call_isW (K := K) rfl) (by rfl) T.n_isinstance bt_isinstance (qpa_cons (qpv 1) (qpa_cons (qpe_bltn (v := .ty "ValueError") rfl T.n_ValueError bt_ValueError rfl) qpa_nil))))))))) (qpss_one (qps_ret qpe_str)) qpss_nil)
    (qpss_one (qps_ret qpe_non)))))))), ?_⟩
    simp!
    refine ⟨a, rows, rs, rfl, ha, S, fun h H' kp => ?_, fun h H' kp => ?_⟩
    · have := k H' kp
      unfold heardV at this
      rw [if_pos h] at this
      exact this
    · refine ⟨cT, D, NT, rfl, T.c, .inl rfl, fun e he => ?_⟩
      have ea : ExAtW (upd H' e (ExW e cT none)) e cT := ⟨none, upd_same, fun d z => by cases z⟩
      simp! [decide_false]
      refine ⟨cT, ea, D, NT, T.c, T.xi, true, .inl kit_self, ?_⟩
      simp only [Bool.not_true, Bool.false_eq_true, if_false]
      refine ⟨cT, ea, D, NT, T.c, T.xi, false, .inl T.kB, ?_⟩
      simp only [Bool.not_true, Bool.false_eq_true, if_false]
      refine ⟨cT, ea, D, NT, T.c, T.xi, true, T.kV, ?_⟩
      simp only [Bool.not_true, Bool.false_eq_true, if_false]
      have := k _ (kp.new (o := ExW e cT none) he)
      unfold heardV at this
      rw [if_neg (by omega)] at this
      exact this
end
theorem wy1 : (Str.ofString "yes" = Str.ofString "is") = False := eq_false (by decide +kernel)
theorem wy2 : (Str.ofString "yes" = Str.ofString "ahead") = False := eq_false (by decide +kernel)
theorem wy3 : (Str.ofString "yes" = Str.ofString "not") = False := eq_false (by decide +kernel)
theorem wy4 : (Str.ofString "yes" = Str.ofString "and") = False := eq_false (by decide +kernel)
theorem wy5 : (Str.ofString "yes" = Str.ofString "or") = False := eq_false (by decide +kernel)
theorem wq5 (b : Bool) : (qw b = Str.ofString "and") = False := eq_false (by cases b <;> decide +kernel)
theorem wq6 (b : Bool) : (qw b = Str.ofString "or") = False := eq_false (by cases b <;> decide +kernel)
theorem at_txt {T : List Str} {i : Nat} (h : i < T.length) : atI (T.map V.str) (i : Int) = some (.str (tx T i)) := atI_nat (by simp [tx, h])
def szV (t : Str) : V := .int (t.length : Int)
theorem at_sz {T : List Str} {i : Nat} (h : i < T.length) : atI (T.map szV) (i : Int) = some (.int ((tx T i).length : Int)) := atI_nat (by simp [tx, h, szV])
theorem tx_take {rs : List RS} : ∀ i j, j < i → i ≤ rs.length → tx (txts (rs.take i)) j = tx (txts rs) j := by
  intro i j hj hi
  have : ∀ m, i + m ≤ rs.length → tx (txts (rs.take (i + m))) j = tx (txts (rs.take i)) j := by
    intro m
    induction m with
    | zero => intro _; rfl
    | succ m ih =>
      intro hm
      have e : rs.take (i + (m + 1)) = rs.take (i + m) ++ [rs[i + m]'(by omega)] := by
        have q : rs[i + m]? = some (rs[i + m]'(by omega)) := by simp
        rw [← Nat.add_assoc, List.take_succ, q]
        rfl
      rw [e, txts_snoc, tx_lt (by rw [txts_len, List.length_take]; omega)]
      exact ih (by omega)
  have q := this (rs.length - i) (by omega)
  rw [show i + (rs.length - i) = rs.length by omega, List.take_length] at q
  exact q.symm
theorem RowsAt.len {H : Hp} {vs : List V} {rs : List RS} (h : RowsAt H vs rs) : vs.length = rs.length := Paired.length h
def spSz : Sp := fun vs H Q _ => ∃ a rows rs, vs = [.ref a] ∧ H a = some (.lst rows) ∧ RowsAt H rows rs ∧ okR rs ∧ rs.length ≤ 100000 ∧ ∀ p H', H p = none → H' p = some (.lst ((txts rs).map szV)) → Kp [] H H' → Q (.ref p) H'
def spOwn : Sp := fun vs H Q _ => ∃ a rows rs, vs = [.ref a] ∧ H a = some (.lst rows) ∧ RowsAt H rows rs ∧ okR rs ∧ 0 < rs.length ∧ rs.length ≤ 100000 ∧ (∀ i, (tx (txts rs) i).length ≤ 100000) ∧ ∀ H', Kp [] H H' → Q (.str (lastT rs)) H'
structure TSz (mg : Str → Option Value) : Prop where
  n_len : mg "len" = none
def canF (g : Int) : Prop := g = 0 ∨ g = 4 ∨ (7 ≤ g ∧ g ≠ 10)
instance (g : Int) : Decidable (canF g) := inferInstanceAs (Decidable (_ ∨ _ ∨ _))
def spCF : Sp := fun vs H Q _ => ∃ g : Int, vs = [.int g] ∧ Q (.bl (decide (canF g))) H
section
variable {P : Program} {w : World} {K : PySem.W.Frag} {mg : Str → Option Value} {base : Heap}
abbrev s__law_can_fill : Stmt := top 19
theorem sc__law_can_fill : FnScope ["_law_gap"] ["_law_gap"] (defScope s__law_can_fill) := ⟨rfl, rfl, rfl, by decide +kernel, rfl, by decide +kernel, by decide +kernel⟩
theorem ok__law_can_fill {f : Addr} {fd : FuncData} (F : Fun K "_law_can_fill" "_law_can_fill" s__law_can_fill f fd) : FnOk P w K mg base CX0 1 f fd ["_law_gap"] spCF := by
  refine F.ok sc__law_can_fill (fun vs H Q E h => ?_) (fun cdv A outer s H vs Q E hr h => ?_)
  · obtain ⟨g, rfl, _⟩ := h
    rfl
  · obtain ⟨g, rfl, k⟩ := h
    have hu := hr.units
    refine ⟨_, (QSs.h (qpss_one (qps_ret (qpe_or (qpe_cmpR (op_eqU hu) (qpv 0) qpe_int (nomark _)) (qpe_or (qpe_cmpR (op_eqU hu) (qpv 0) qpe_int (nomark _)) (qpe_one (qpe_and (qpe_cmpR op_ge (qpv 0) qpe_int (nomark _)) (qpe_one (qpe_cmpR (op_neU hu) (qpv 0) qpe_int (nomark _)))))))))), ?_⟩
    simp!
    by_cases h0 : g = 0
    · rw [if_pos h0]
      rw [show decide (canF g) = true from decide_eq_true (.inl h0)] at k
      exact k
    rw [if_neg h0]
    by_cases h4 : g = 4
    · rw [if_pos h4]
      rw [show decide (canF g) = true from decide_eq_true (.inr (.inl h4))] at k
      exact k
    rw [if_neg h4]
    by_cases h7 : 7 ≤ g
    · rw [if_pos h7]
      rw [show decide (canF g) = !decide (g = 10) from by
        by_cases h10 : g = 10
        · rw [decide_eq_true h10]; exact decide_eq_false (by unfold canF; omega)
        · rw [decide_eq_false h10]; exact decide_eq_true (.inr (.inr ⟨h7, h10⟩))] at k
      exact k
    · rw [if_neg h7]
      rw [show decide (canF g) = false from decide_eq_false (by unfold canF; omega)] at k
      exact k
abbrev s__law_sizes : Stmt := top 18
theorem sc__law_sizes : FnScope ["_law_rows", "_law_found", "_law_row", "_law_size"] ["_law_rows"] (defScope s__law_sizes) := ⟨rfl, rfl, rfl, by decide +kernel, rfl, by decide +kernel, by decide +kernel⟩
theorem ok__law_sizes {f : Addr} {fd : FuncData} (F : Fun K "_law_sizes" "_law_sizes" s__law_sizes f fd) (T : TSz mg) : FnOk P w K mg base CX0 1 f fd ["_law_rows"] spSz := by
  refine F.ok sc__law_sizes (fun vs H Q E h => ?_) (fun cdv A outer s H vs Q E hr h => ?_)
  · obtain ⟨a, rows, rs, rfl, _⟩ := h
    rfl
  · obtain ⟨a, rows, rs, rfl, ha, S, okS, few, k⟩ := h
    have hu := hr.units
    refine ⟨_, (QSs.h (qpss_cons (qps_set (i := 1) sc__law_sizes.nd rfl (by first | exact Or.inl rfl | exact Or.inr rfl) (qpe_lst qpa_nil))
    (qpss_cons (qps_for PassesOwn.never rfl (qpi_any (K := K) (qpv 0) rfl) (qpg_name (i := 2) sc__law_sizes.nd rfl (by first | exact Or.inl rfl | exact Or.inr rfl)) (qpss_cons (qps_set (i := 3) sc__law_sizes.nd rfl (by first | exact Or.inl rfl | exact Or.inr rfl) qpe_int)
    (qpss_cons (qps_if (qpt_cmpR (op_eqU hu) (qpe_ix ix_U (qpv 2) qpe_int (fun _ _ => rfl)) qpe_str (nomark _)) (qpss_one (qps_set (i := 3) sc__law_sizes.nd rfl (by first | exact Or.inl rfl | exact Or.inr rfl) (qpe_op op_addW (qpe_callB call_lenU (by rfl) T.n_len bt_len (qpa_cons (qpe_ix ix_U (qpv 2) qpe_int (fun _ _ => rfl)) qpa_nil)) qpe_int))) (qpss_one (qps_if (qpt_cmpR (op_eqU hu) (qpe_ix ix_U (qpv 2) qpe_int (fun _ _ => rfl)) qpe_str (nomark _)) (qpss_one (qps_set (i := 3) sc__law_sizes.nd rfl (by first | exact Or.inl rfl | exact Or.inr rfl) (qpe_op op_addW (qpe_op op_addW (qpe_callB call_lenU (by rfl) T.n_len bt_len (qpa_cons (qpe_ix ix_U (qpv 2) qpe_int (fun _ _ => rfl)) qpa_nil)) (qpe_callB call_lenU (by rfl) T.n_len bt_len (qpa_cons (qpe_ix ix_U (qpv 2) qpe_int (fun _ _ => rfl)) qpa_nil))) qpe_int))) (qpss_one (qps_if (qpt_cmpR (op_eqU hu) (qpe_ix ix_U (qpv 2) qpe_int (fun _ _ => rfl)) qpe_str (nomark _)) (qpss_one (qps_set (i := 3) sc__law_sizes.nd rfl (by first | exact Or.inl rfl | exact Or.inr rfl) (qpe_op op_addW (qpe_ix ix_U (qpv 1) (qpe_ix ix_U (qpv 2) qpe_int (fun _ _ => rfl)) (fun _ _ => rfl)) qpe_int))) (qpss_one (qps_if (QW.pt (qpw_or (qpt_cmpR (op_eqU hu) (qpe_ix ix_U (qpv 2) qpe_int (fun _ _ => rfl)) qpe_str (nomark _)) (qpw_or1 (qpt_cmpR (op_eqU hu) (qpe_ix ix_U (qpv 2) qpe_int (fun _ _ => rfl)) qpe_str (nomark _))))) (qpss_one (qps_set (i := 3) sc__law_sizes.nd rfl (by first | exact Or.inl rfl | exact Or.inr rfl) (qpe_op op_addW (qpe_op op_addW (qpe_op op_addW (qpe_ix ix_U (qpv 1) (qpe_ix ix_U (qpv 2) qpe_int (fun _ _ => rfl)) (fun _ _ => rfl)) (qpe_ix ix_U (qpv 1) (qpe_ix ix_U (qpv 2) qpe_int (fun _ _ => rfl)) (fun _ _ => rfl))) qpe_int) (qpe_callB call_lenU (by rfl) T.n_len bt_len (qpa_cons (qpe_ix ix_U (qpv 2) qpe_int (fun _ _ => rfl)) qpa_nil))))) (qpss_one (qps_if (qpt_cmpR (op_neU hu) (qpe_ix ix_U (qpv 2) qpe_int (fun _ _ => rfl)) qpe_str (nomark _)) (qpss_one (qps_set (i := 3) sc__law_sizes.nd rfl (by first | exact Or.inl rfl | exact Or.inr rfl) (qpe_op op_addW (qpe_op op_addW (qpe_ix ix_U (qpv 1) (qpe_ix ix_U (qpv 2) qpe_int (fun _ _ => rfl)) (fun _ _ => rfl)) qpe_int) (qpe_callB call_lenU (by rfl) T.n_len bt_len (qpa_cons (qpe_ix ix_U (qpv 2) qpe_int (fun _ _ => rfl)) qpa_nil))))) qpss_nil)))))))))
    (qpss_one (qps_expr (qpe_bmL PySem.F.slot_list_append PySem.F.type_list_append mt_appendU (qpv 1) (qpa_cons (qpv 3) qpa_nil) mono_var))))))
    (qpss_one (qps_ret (qpv 1)))))), ?_⟩
    have hsz : sizeLine = 16777216 := PySem.sizeLine_eq
    have hl : rows.length = rs.length := S.len
    simp!
    refine ⟨by omega, fun c hc => ?_⟩
    have hac : a ≠ c := ne_of_none ha hc
    have ha2 : ∀ o, upd H c o a = some (.lst rows) := fun o => by rw [upd_ne hac]; exact ha
    simp! [ha2]
    refine loop_list (xs := rows) (fun i σ H' => ∃ v1 v2, σ = [some (.ref a), some (.ref c), v1, v2] ∧ Kp [] H H' ∧ H' c = some (.lst ((txts (rs.take i)).map szV))) ?_ ?_ ?_ ?_
    · exact ⟨none, none, rfl, (Kp.refl [] H).new hc, upd_same⟩
    · rintro i σ H' _ ⟨v1, v2, rfl, kp, _⟩
      exact kp.old _ _ ha (by simp)
    · rintro i x σ H' hx ⟨v1, v2, rfl, kp, hc'⟩
      have hi : i < rows.length := (List.getElem?_eq_some_iff.mp hx).1
      obtain ⟨r, b, e1, rfl, hb0⟩ := S.get hx
      have hb := kp.tup _ _ hb0
      have ok := okS i r e1
      have e2 : rs.take (i + 1) = rs.take i ++ [r] := by rw [List.take_succ, e1]; rfl
      have lT : (txts (rs.take i)).length = i := by rw [txts_len, List.length_take]; omega
      have fin : ∀ t : Int, t = ((tw (txts (rs.take i)) r).length : Int) → ((txts (rs.take i)).map szV).length < sizeLine ∧ ∃ v1 v2 : Option V, (some (V.ref b) = v1 ∧ some (V.int t) = v2) ∧ Kp [] H (upd H' c (.lst ((txts (rs.take i)).map szV ++ [.int t]))) ∧
          (txts (rs.take i)).map szV ++ [.int t] = (txts (rs.take (i + 1))).map szV := by
        rintro t rfl
        refine ⟨by rw [List.length_map]; omega, _, _, ⟨rfl, rfl⟩, kp.set hc' (.inr hc), ?_⟩
        rw [e2, txts_snoc, List.map_append]
        rfl
      have l3 : (Str.ofString "and").length = 3 := by decide +kernel
      cases r with
      | yes =>
        simp! [hb, rowV, hc', wy1, wy2, wy3, wy4, wy5]
        exact fin _ (by simp only [tw, l_yes]; rfl)
      | is x y =>
        simp! [hb, rowV, hc', app_len, l_is]
        simp only [RS.ok] at ok
        exact ⟨by omega, fin _ (by simp only [tw, app_len, l_is]; omega)⟩
      | ahead x y =>
        simp! [hb, rowV, hc', w3, app_len, l_ah]
        simp only [RS.ok] at ok
        exact ⟨by omega, by omega, fin _ (by simp only [tw, app_len, l_ah]; omega)⟩
      | no j =>
        have aj := at_sz (T := txts (rs.take i)) (i := j) (by rw [lT]; exact ok)
        simp! [hb, rowV, hc', w5, w6, aj, app_len, l_no]
        exact fin _ (by simp only [tw, app_len, l_no]; omega)
      | bin q j l =>
        have aj := at_sz (T := txts (rs.take i)) (i := j) (by rw [lT]; exact ok.1)
        have al := at_sz (T := txts (rs.take i)) (i := l) (by rw [lT]; exact ok.2)
        have bq := bwl q
        simp! [hb, rowV, hc', wb2, wb3, wb4, aj, al, app_len, l_op, l_cl, sp_len]
        refine ite2 (fun _ => ?_) (fun h1 => ?_)
        · exact ⟨by omega, fin _ (by simp only [tw, app_len, l_op, l_cl, sp_len]; omega)⟩
        · rw [if_pos (by cases q; rfl; exact absurd rfl h1)]
          exact ⟨by omega, fin _ (by simp only [tw, app_len, l_op, l_cl, sp_len]; omega)⟩
      | qn q x j =>
        have aj := at_sz (T := txts (rs.take i)) (i := j) (by rw [lT]; exact ok.2)
        have ox := ok.1
        have wq0 := wq1 q
        simp! [hb, rowV, hc', wq1, wq2, wq3, wq4, wq5, wq6, aj, app_len, qwl, sp_len]
        rw [if_pos (by simp)]
        exact ⟨by omega, fin _ (by simp only [tw, app_len, qwl, sp_len]; omega)⟩
    · rintro σ H' ⟨v1, v2, rfl, kp, hc'⟩
      rw [hl, List.take_length] at hc'
      simp!
      exact k c H' hc hc' kp
abbrev s__law_shown : Stmt := top 15
theorem sc__law_shown : FnScope ["_law_saying", "_law_found", "_law_row", "_law_text"] ["_law_saying"] (defScope s__law_shown) := ⟨rfl, rfl, rfl, by decide +kernel, rfl, by decide +kernel, by decide +kernel⟩
theorem ok__law_shown {f : Addr} {fd : FuncData} (F : Fun K "_law_shown" "_law_shown" s__law_shown f fd) : FnOk P w K mg base CX0 1 f fd ["_law_saying"] spOwn := by
  refine F.ok sc__law_shown (fun vs H Q E h => ?_) (fun cdv A outer s H vs Q E hr h => ?_)
  · obtain ⟨a, rows, rs, rfl, _⟩ := h
    rfl
  · obtain ⟨a, rows, rs, rfl, ha, S, okS, hpos, few, bd, k⟩ := h
    have hu := hr.units
    refine ⟨_, (QSs.h (qpss_cons (qps_set (i := 1) sc__law_shown.nd rfl (by first | exact Or.inl rfl | exact Or.inr rfl) (qpe_lst qpa_nil))
    (qpss_cons (qps_for PassesOwn.never rfl (qpi_any (K := K) (qpv 0) rfl) (qpg_name (i := 2) sc__law_shown.nd rfl (by first | exact Or.inl rfl | exact Or.inr rfl)) (qpss_cons (qps_if (qpt_cmpR (op_eqU hu) (qpe_ix ix_U (qpv 2) qpe_int (fun _ _ => rfl)) qpe_str (nomark _)) (qpss_one (qps_set (i := 3) sc__law_shown.nd rfl (by first | exact Or.inl rfl | exact Or.inr rfl) (qpe_op op_addW (qpe_op op_addW (qpe_ix ix_U (qpv 2) qpe_int (fun _ _ => rfl)) qpe_str) (qpe_ix ix_U (qpv 2) qpe_int (fun _ _ => rfl))))) (qpss_one (qps_if (qpt_cmpR (op_eqU hu) (qpe_ix ix_U (qpv 2) qpe_int (fun _ _ => rfl)) qpe_str (nomark _)) (qpss_one (qps_set (i := 3) sc__law_shown.nd rfl (by first | exact Or.inl rfl | exact Or.inr rfl) (qpe_op op_addW (qpe_op op_addW (qpe_ix ix_U (qpv 2) qpe_int (fun _ _ => rfl)) qpe_str) (qpe_ix ix_U (qpv 2) qpe_int (fun _ _ => rfl))))) (qpss_one (qps_if (qpt_cmpR (op_eqU hu) (qpe_ix ix_U (qpv 2) qpe_int (fun _ _ => rfl)) qpe_str (nomark _)) (qpss_one (qps_set (i := 3) sc__law_shown.nd rfl (by first | exact Or.inl rfl | exact Or.inr rfl) (qpe_op op_addW qpe_str (qpe_ix ix_U (qpv 1) (qpe_ix ix_U (qpv 2) qpe_int (fun _ _ => rfl)) (fun _ _ => rfl))))) (qpss_one (qps_if (QW.pt (qpw_or (qpt_cmpR (op_eqU hu) (qpe_ix ix_U (qpv 2) qpe_int (fun _ _ => rfl)) qpe_str (nomark _)) (qpw_or1 (qpt_cmpR (op_eqU hu) (qpe_ix ix_U (qpv 2) qpe_int (fun _ _ => rfl)) qpe_str (nomark _))))) (qpss_one (qps_set (i := 3) sc__law_shown.nd rfl (by first | exact Or.inl rfl | exact Or.inr rfl) (qpe_op op_addW (qpe_op op_addW (qpe_op op_addW (qpe_op op_addW (qpe_op op_addW (qpe_op op_addW qpe_str (qpe_ix ix_U (qpv 1) (qpe_ix ix_U (qpv 2) qpe_int (fun _ _ => rfl)) (fun _ _ => rfl))) qpe_str) (qpe_ix ix_U (qpv 2) qpe_int (fun _ _ => rfl))) qpe_str) (qpe_ix ix_U (qpv 1) (qpe_ix ix_U (qpv 2) qpe_int (fun _ _ => rfl)) (fun _ _ => rfl))) qpe_str))) (qpss_one (qps_if (qpt_cmpR (op_eqU hu) (qpe_ix ix_U (qpv 2) qpe_int (fun _ _ => rfl)) qpe_str (nomark _)) (qpss_one (qps_set (i := 3) sc__law_shown.nd rfl (by first | exact Or.inl rfl | exact Or.inr rfl) qpe_str)) (qpss_one (qps_set (i := 3) sc__law_shown.nd rfl (by first | exact Or.inl rfl | exact Or.inr rfl) (qpe_op op_addW (qpe_op op_addW (qpe_op op_addW (qpe_op op_addW (qpe_ix ix_U (qpv 2) qpe_int (fun _ _ => rfl)) qpe_str) (qpe_ix ix_U (qpv 2) qpe_int (fun _ _ => rfl))) qpe_str) (qpe_ix ix_U (qpv 1) (qpe_ix ix_U (qpv 2) qpe_int (fun _ _ => rfl)) (fun _ _ => rfl))))))))))))))
    (qpss_one (qps_expr (qpe_bmL PySem.F.slot_list_append PySem.F.type_list_append mt_appendU (qpv 1) (qpa_cons (qpv 3) qpa_nil) mono_var)))))
    (qpss_one (qps_ret (qpe_ix ix_U (qpv 1) (qpe_un un_neg qpe_int) (fun _ _ => rfl))))))), ?_⟩
    have hsz : sizeLine = 16777216 := PySem.sizeLine_eq
    have hl : rows.length = rs.length := S.len
    simp!
    refine ⟨by omega, fun c hc => ?_⟩
    have hac : a ≠ c := ne_of_none ha hc
    have ha2 : ∀ o, upd H c o a = some (.lst rows) := fun o => by rw [upd_ne hac]; exact ha
    simp! [ha2]
    refine loop_list (xs := rows) (fun i σ H' => ∃ v1 v2, σ = [some (.ref a), some (.ref c), v1, v2] ∧ Kp [] H H' ∧ H' c = some (.lst ((txts (rs.take i)).map V.str))) ?_ ?_ ?_ ?_
    · exact ⟨none, none, rfl, (Kp.refl [] H).new hc, upd_same⟩
    · rintro i σ H' _ ⟨v1, v2, rfl, kp, _⟩
      exact kp.old _ _ ha (by simp)
    · rintro i x σ H' hx ⟨v1, v2, rfl, kp, hc'⟩
      have hi : i < rows.length := (List.getElem?_eq_some_iff.mp hx).1
      obtain ⟨r, b, e1, rfl, hb0⟩ := S.get hx
      have hb := kp.tup _ _ hb0
      have ok := okS i r e1
      have e2 : rs.take (i + 1) = rs.take i ++ [r] := by rw [List.take_succ, e1]; rfl
      have lT : (txts (rs.take i)).length = i := by rw [txts_len, List.length_take]; omega
      have bT : ∀ j, (tx (txts (rs.take i)) j).length ≤ 100000 := fun j => by
        by_cases hj : j < i
        · rw [tx_take i j hj (by omega)]; exact bd j
        · rw [tx_ge (by omega)]; exact Nat.zero_le _
      have fin : ∀ t : Str, t = tw (txts (rs.take i)) r → ((txts (rs.take i)).map V.str).length < sizeLine ∧ ∃ v1 v2 : Option V, (some (V.ref b) = v1 ∧ some (V.str t) = v2) ∧ Kp [] H (upd H' c (.lst ((txts (rs.take i)).map V.str ++ [.str t]))) ∧
          (txts (rs.take i)).map V.str ++ [.str t] = (txts (rs.take (i + 1))).map V.str := by
        rintro t rfl
        refine ⟨by rw [List.length_map]; omega, _, _, ⟨rfl, rfl⟩, kp.set hc' (.inr hc), ?_⟩
        rw [e2, txts_snoc, List.map_append]
        rfl
      cases r with
      | yes =>
        simp! [hb, rowV, hc', wy1, wy2, wy3, wy4, wy5]
        exact fin _ rfl
      | is x y =>
        simp! [hb, rowV, hc', app_len, l_is]
        simp only [RS.ok] at ok
        exact ⟨by omega, by omega, fin _ rfl⟩
      | ahead x y =>
        simp! [hb, rowV, hc', w3, app_len, l_ah]
        simp only [RS.ok] at ok
        exact ⟨by omega, by omega, fin _ rfl⟩
      | no j =>
        have aj := at_txt (T := txts (rs.take i)) (i := j) (by rw [lT]; exact ok)
        have bj := bT j
        simp! [hb, rowV, hc', w5, w6, aj, app_len, l_no]
        exact ⟨by omega, fin _ rfl⟩
      | bin q j l =>
        have aj := at_txt (T := txts (rs.take i)) (i := j) (by rw [lT]; exact ok.1)
        have al := at_txt (T := txts (rs.take i)) (i := l) (by rw [lT]; exact ok.2)
        have bj := bT j
        have bl := bT l
        have bq := bwl q
        simp! [hb, rowV, hc', wb2, wb3, wb4, aj, al, app_len, l_op, l_cl, sp_len]
        refine ite2 (fun _ => ?_) (fun h1 => ?_)
        · exact ⟨by omega, by omega, by omega, by omega, by omega, by omega, fin _ rfl⟩
        · rw [if_pos (by cases q; rfl; exact absurd rfl h1)]
          exact ⟨by omega, by omega, by omega, by omega, by omega, by omega, fin _ rfl⟩
      | qn q x j =>
        have aj := at_txt (T := txts (rs.take i)) (i := j) (by rw [lT]; exact ok.2)
        have bj := bT j
        have ox := ok.1
        simp! [hb, rowV, hc', wq1, wq2, wq3, wq4, wq5, wq6, aj, app_len, qwl, sp_len]
        exact ⟨by omega, by omega, by omega, by omega, fin _ rfl⟩
    · rintro σ H' ⟨v1, v2, rfl, kp, hc'⟩
      rw [hl, List.take_length] at hc'
      simp! [hc']
      refine ⟨.str (tx (txts rs) (rs.length - 1)), atI_m1 ?_, k H' kp⟩
      rw [List.length_map, txts_len, List.getElem?_map]
      have : (txts rs)[rs.length - 1]? = some (tx (txts rs) (rs.length - 1)) := by
        have hh : rs.length - 1 < (txts rs).length := by rw [txts_len]; omega
        simp [tx, hh]
      rw [this]
      rfl
end
def spRowAt : Sp := fun vs H Q _ => ∃ (b : Addr) (m : Int) (o : HO), vs = [.ref b, .int m] ∧ H b = some o ∧ BoxO o ∧ 1 ≤ m ∧ m ≤ 1000 ∧ ∀ d o' H', 0 ≤ d → d < m → BoxO o' → H' b = some o' → Kp [b] H H' → Q (.int d) H'
theorem BoxO.lst {o : HO} (h : BoxO o) : ∃ xs, o = .lst xs := by obtain ⟨c, s, e, _⟩ := h; exact ⟨_, e⟩
section
variable {P : Program} {w : World} {K : PySem.W.Frag} {mg : Str → Option Value} {base : Heap}
structure TRow (mg : Str → Option Value) (ft : Addr) : Prop where
  m__law_take : mg "_law_take" = some (.ref ft)
abbrev s__law_row_at : Stmt := top 14
theorem sc__law_row_at : FnScope ["_law_box_here", "_law_k"] ["_law_box_here", "_law_k"] (defScope s__law_row_at) := ⟨rfl, rfl, rfl, by decide +kernel, rfl, by decide +kernel, by decide +kernel⟩
theorem ok__law_row_at {f ft : Addr} {fd fdt : FuncData} (F : Fun K "_law_row_at" "_law_row_at" s__law_row_at f fd) (T : TRow mg ft) (F__law_take : Fun K "_law_take" "_law_take" s__law_take ft fdt) (b__law_take : Binds K fdt ["_law_box_here", "_law_wide"] [])
    (G__law_take : FnOk P w K mg base CX0 1 ft fdt ["_law_box_here", "_law_wide"] spTake) : FnOk P w K mg base CX0 2 f fd ["_law_box_here", "_law_k"] spRowAt := by
  refine F.ok sc__law_row_at (fun vs H Q E h => ?_) (fun cdv A outer s H vs Q E hr h => ?_)
  · obtain ⟨b, m, o, rfl, _⟩ := h
    rfl
  · obtain ⟨b, m, o, rfl, hb, ho, m1, m2, k⟩ := h
    refine ⟨_, (QSs.h (qpss_one (qps_ret (qpe_ix ix_U (qpe_lst (qpa_cons (qpe_op op_sub (qpv 1) qpe_int) (qpa_cons (qpe_call G__law_take (hr.mono (by decide)) rfl T.m__law_take F__law_take.kp b__law_take .nil pass0 (qpa_cons (qpv 0) (qpa_cons (qpv 1) qpa_nil))) qpa_nil))) (qpe_call G__law_take (hr.mono (by decide)) rfl T.m__law_take F__law_take.kp b__law_take .nil pass0 (qpa_cons (qpv 0) (qpa_cons qpe_int qpa_nil))) (fun _ _ => rfl))))), ?_⟩
    have hsz : sizeLine = 16777216 := PySem.sizeLine_eq
    simp!
    refine ⟨b, m, o, rfl, hb, ho, by omega, by omega, fun d o1 d0 d1 ho1 => ?_⟩
    refine ⟨by omega, fun p hp => ?_⟩
    have nbp : b ≠ p := ne_of_none upd_same hp
    obtain ⟨xs0, rfl⟩ := ho.lst
    obtain ⟨xs1, rfl⟩ := id ho1.lst
    refine ⟨b, 2, _, rfl, by rw [upd_ne nbp, upd_same], ho1, by omega, by omega, fun e o2 e0 e1 ho2 => ?_⟩
    have hp2 : upd (upd (upd H b (.lst xs1)) p (.lst [V.int (m - 1), V.int d])) b o2 p = some (.lst [V.int (m - 1), V.int d]) := by rw [upd_ne nbp.symm, upd_same]
    simp! [hp2]
    have kp : Kp [b] H (upd (upd (upd H b (.lst xs1)) p (.lst [V.int (m - 1), V.int d])) b o2) := ((((Kp.refl [b] H).set hb (.inl (by simp))).new hp).set (by rw [upd_ne nbp, upd_same]) (.inl (by simp)))
    have : e = 0 ∨ e = 1 := by omega
    rcases this with rfl | rfl
    · exact ⟨_, atI_0 _ _, k _ o2 _ (by omega) (by omega) ho2 upd_same kp⟩
    · exact ⟨_, atI_1 _ _ _, k _ o2 _ d0 d1 ho2 upd_same kp⟩
end
theorem map_erase {α β : Type} (f : α → β) : ∀ (l : List α) (i : Nat), (l.map f).eraseIdx i = (l.eraseIdx i).map f
  | [], _ => rfl
  | _ :: _, 0 => rfl
  | a :: l, i + 1 => by rw [List.map_cons, List.eraseIdx_cons_succ, List.eraseIdx_cons_succ, List.map_cons, map_erase f l i]
def ch1 (c : Nat) : V := .str ⟨#[c]⟩
theorem abc25 : ∃ R : List Nat, sgn (Str.ofString "abcdefghijklmnoprstuvwxyz") = R.map ch1 ∧ R.length = 25 := ⟨[97, 98, 99, 100, 101, 102, 103, 104, 105, 106, 107, 108, 109, 110, 111, 112, 114, 115, 116, 117, 118, 119, 120, 121, 122], by decide +kernel, rfl⟩
def Nm (zs : List Str) : Prop := ∀ k, k < zs.length → (tx zs k).length = k + 1
def spNm : Sp := fun vs H Q _ => ∃ (b : Addr) (o : HO), vs = [.ref b] ∧ H b = some o ∧ BoxO o ∧ ∀ (p : Addr) (zs : List Str) (o' : HO) (H' : Hp), zs.length = 3 → Nm zs → H p = none → H' p = some (.lst (zs.map V.str)) → BoxO o' → H' b = some o' → Kp [b] H H' → Q (.ref p) H'
theorem Nm.at_ {zs : List Str} (nm : Nm zs) (h3 : zs.length = 3) {d : Int} (d0 : 0 ≤ d) (d1 : d < 3) : ∃ x : Str, x.length = d.toNat + 1 ∧ atI (zs.map V.str) d = some (.str x) := by
  have hd : d.toNat < zs.length := by omega
  refine ⟨tx zs d.toNat, nm _ hd, atI_of d0 ?_⟩
  simp [tx, hd]
def spFR : Sp := fun vs H Q _ => ∃ (b p : Addr) (zs : List Str) (o : HO), vs = [.ref b, .ref p] ∧ H b = some o ∧ BoxO o ∧ H p = some (.lst (zs.map V.str)) ∧ zs.length = 3 ∧ Nm zs ∧ b ≠ p ∧
  ∀ (t : Addr) (r : RS) (o' : HO) (H' : Hp), r.ok 0 → (tw [] r).length ≤ 20 → H' t = some (.tup (rowV r)) → BoxO o' → H' b = some o' → Kp [b] H H' → Q (.ref t) H'
structure TNm (mg : Str → Option Value) (ft : Addr) : Prop where
  n_len : mg "len" = none
  n_list : mg "list" = none
  n_range : mg "range" = none
  m__law_take : mg "_law_take" = some (.ref ft)
structure TFR (mg : Str → Option Value) (ft : Addr) : Prop where
  m__law_take : mg "_law_take" = some (.ref ft)
section
variable {P : Program} {w : World} {K : PySem.W.Frag} {mg : Str → Option Value} {base : Heap}
abbrev s__law_names : Stmt := top 16
theorem sc__law_names : FnScope ["_law_box_here", "_law_pool", "_law_found", "_law_k", "_law_letter"] ["_law_box_here"] (defScope s__law_names) := ⟨rfl, rfl, rfl, by decide +kernel, rfl, by decide +kernel, by decide +kernel⟩
theorem ok__law_names {f ft : Addr} {fd fdt : FuncData} (F : Fun K "_law_names" "_law_names" s__law_names f fd) (T : TNm mg ft) (F__law_take : Fun K "_law_take" "_law_take" s__law_take ft fdt) (b__law_take : Binds K fdt ["_law_box_here", "_law_wide"] [])
    (G__law_take : FnOk P w K mg base CX0 1 ft fdt ["_law_box_here", "_law_wide"] spTake) : FnOk P w K mg base CX0 2 f fd ["_law_box_here"] spNm := by
  refine F.ok sc__law_names (fun vs H Q E h => ?_) (fun cdv A outer s H vs Q E hr h => ?_)
  · obtain ⟨b, o, rfl, _⟩ := h
    rfl
  · obtain ⟨b, o, rfl, hb, ho, k⟩ := h
    have hsz : sizeLine = 16777216 := PySem.sizeLine_eq
    refine ⟨_, (QSs.h (qpss_cons (qps_set (i := 1) sc__law_names.nd rfl (by first | exact Or.inl rfl | exact Or.inr rfl) (qpe_callTy (call_listU rfl) (by rfl) T.n_list bt_list (qpa_cons qpe_str qpa_nil)))
    (qpss_cons (qps_set (i := 2) sc__law_names.nd rfl (by first | exact Or.inl rfl | exact Or.inr rfl) (qpe_lst qpa_nil))
    (qpss_cons (qps_for PassesOwn.never rfl (qpi_range1 rfl T.n_range (qpa_cons qpe_int qpa_nil)) (qpg_name (i := 3) sc__law_names.nd rfl (by first | exact Or.inl rfl | exact Or.inr rfl)) (qpss_cons (qps_set (i := 4) sc__law_names.nd rfl (by first | exact Or.inl rfl | exact Or.inr rfl) (qpe_bmL PySem.F.slot_list_pop PySem.F.type_list_pop mt_popU (qpv 1) (qpa_cons (qpe_call G__law_take (hr.mono (by decide)) rfl T.m__law_take F__law_take.kp b__law_take .nil pass0 (qpa_cons (qpv 0) (qpa_cons (qpe_callB call_lenU (by rfl) T.n_len bt_len (qpa_cons (qpv 1) qpa_nil)) qpa_nil))) qpa_nil) mono_var))
    (qpss_one (qps_expr (qpe_bmL PySem.F.slot_list_append PySem.F.type_list_append mt_appendU (qpv 2) (qpa_cons (qpe_ix ix_U (qpe_lst (qpa_cons (qpv 4) (qpa_cons (qpe_op op_addW (qpv 4) qpe_str) (qpa_cons (qpe_op op_addW (qpe_op op_addW qpe_str (qpv 4)) qpe_str) qpa_nil)))) (qpv 3) (fun _ _ => rfl)) qpa_nil) mono_var)))))
    (qpss_one (qps_ret (qpv 2))))))), ?_⟩
    simp!
    refine ⟨by decide, fun p hp => ⟨by omega, fun q hq => ⟨by decide, by decide, ?_⟩⟩⟩
    have npb : b ≠ p := ne_of_none hb hp
    have npq : p ≠ q := ne_of_none upd_same hq
    have nbq : b ≠ q := ne_of_none (by rw [upd_ne npb]; exact hb) hq
    obtain ⟨R0, eR, lR⟩ := abc25
    have hq0 : H q = none := by rw [upd_ne npq.symm] at hq; exact hq
    refine loop_range (fun i σ H' => ∃ (zs : List Str) (R : List Nat) (o' : HO) (v1 v2 : Option V), σ = [some (.ref b), some (.ref p), some (.ref q), v1, v2] ∧ H' b = some o' ∧ BoxO o' ∧ H' p = some (.lst (R.map ch1)) ∧ H' q = some (.lst (zs.map V.str)) ∧ Kp [b] H H' ∧ zs.length = i ∧ R.length + i = 25 ∧ Nm zs) ?_ ?_ ?_
    · refine ⟨[], R0, o, none, none, rfl, by rw [upd_ne nbq, upd_ne npb]; exact hb, ho, by rw [upd_ne npq, upd_same, eR], upd_same, ((Kp.refl [b] H).new hp).new hq, rfl, by omega, fun k h => by simp at h⟩
    · rintro i σ H' hi ⟨zs, R, o', v1, v2, rfl, hb', ho', hp', hq', kp, hl, hR, nm⟩
      have hi3 : i < 3 := hi
      simp! [hp']
      obtain ⟨c1, s1, rfl, _, _⟩ := id ho'
      refine ⟨b, _, _, rfl, hb', ho', by rw [List.length_map]; omega, by rw [List.length_map]; omega, fun d o2 d0 d1 ho2 => ?_⟩
      rw [List.length_map] at d1
      have hp2 : upd H' b o2 p = some (.lst (R.map ch1)) := by rw [upd_ne npb.symm]; exact hp'
      simp! [hp2]
      obtain ⟨c, hc⟩ : ∃ c, R[d.toNat]? = some c := ⟨R[d.toNat]'(by omega), by simp⟩
      have hc' : (R.map ch1)[d.toNat]? = some (.str ⟨#[c]⟩) := by rw [List.getElem?_map, hc]; rfl
      refine ⟨d0, _, hc', ?_⟩
      have e5 : (R.eraseIdx d.toNat).length + 1 = R.length := by rw [List.length_eraseIdx]; split <;> omega
      have lc : (⟨#[c]⟩ : Str).length = 1 := rfl
      have lq : (Str.ofString "q").length = 1 := by decide +kernel
      have lz : (Str.ofString "z").length = 1 := by decide +kernel
      have f1 : upd (upd H' b o2) p (.lst ((R.map ch1).eraseIdx d.toNat)) b = some o2 := by rw [upd_ne npb, upd_same]
      have f2 : upd (upd H' b o2) p (.lst ((R.map ch1).eraseIdx d.toNat)) p = some (.lst ((R.eraseIdx d.toNat).map ch1)) := by rw [upd_same, map_erase]
      have f3 : upd (upd H' b o2) p (.lst ((R.map ch1).eraseIdx d.toNat)) q = some (.lst (zs.map V.str)) := by rw [upd_ne npq.symm, upd_ne nbq.symm]; exact hq'
      have f4 : Kp [b] H (upd (upd H' b o2) p (.lst ((R.map ch1).eraseIdx d.toNat))) := (kp.set hb' (.inl (by simp))).set hp2 (.inr hp)
      generalize upd (upd H' b o2) p (.lst ((R.map ch1).eraseIdx d.toNat)) = H2 at f1 f2 f3 f4
      simp! [f3, app_len, lc, lq, lz]
      refine ⟨by omega, by omega, by omega, by omega, fun t ht => ?_⟩
      have hz : ∀ x : Str, x.length = i + 1 → Nm (zs ++ [x]) := fun x hx k hk => by
        rw [List.length_append, List.length_singleton] at hk
        by_cases h : k < zs.length
        · rw [tx_lt h]; exact nm k h
        · obtain rfl : k = zs.length := by omega
          rw [tx_at, hx, hl]
      have fin : ∀ x : Str, x.length = i + 1 → (zs.map V.str).length < sizeLine ∧ ∃ (zs' : List Str) (R' : List Nat) (o' : HO) (v1 v2 : Option V), (some (V.int (0 + (i : Int))) = v1 ∧ some (V.str ⟨#[c]⟩) = v2) ∧
          upd (upd H2 t (.lst [V.str ⟨#[c]⟩, V.str (⟨#[c]⟩ ++ Str.ofString "q"), V.str (Str.ofString "q" ++ ⟨#[c]⟩ ++ Str.ofString "z")])) q (.lst (zs.map V.str ++ [V.str x])) b = some o' ∧ BoxO o' ∧
          upd (upd H2 t (.lst [V.str ⟨#[c]⟩, V.str (⟨#[c]⟩ ++ Str.ofString "q"), V.str (Str.ofString "q" ++ ⟨#[c]⟩ ++ Str.ofString "z")])) q (.lst (zs.map V.str ++ [V.str x])) p = some (.lst (R'.map ch1)) ∧ zs.map V.str ++ [V.str x] = zs'.map V.str ∧
          Kp [b] H (upd (upd H2 t (.lst [V.str ⟨#[c]⟩, V.str (⟨#[c]⟩ ++ Str.ofString "q"), V.str (Str.ofString "q" ++ ⟨#[c]⟩ ++ Str.ofString "z")])) q (.lst (zs.map V.str ++ [V.str x]))) ∧ zs'.length = i + 1 ∧ R'.length + (i + 1) = 25 ∧ Nm zs' := fun x hx =>
        ⟨by rw [List.length_map]; omega, zs ++ [x], R.eraseIdx d.toNat, o2, _, _, ⟨rfl, rfl⟩, by rw [upd_ne nbq, upd_ne (ne_of_none f1 ht)]; exact f1, ho2, by rw [upd_ne npq, upd_ne (ne_of_none f2 ht)]; exact f2, by simp, (f4.new ht).set (by rw [upd_ne (ne_of_none f3 ht)]; exact f3) (.inr hq0), by simp [hl], by omega, hz x hx⟩
      have lx : lstOf (upd H2 t (.lst [V.str ⟨#[c]⟩, V.str (⟨#[c]⟩ ++ Str.ofString "q"), V.str (Str.ofString "q" ++ ⟨#[c]⟩ ++ Str.ofString "z")]) q) = some (zs.map V.str) := by rw [upd_ne (ne_of_none f3 ht), f3]; rfl
      have : i = 0 ∨ i = 1 ∨ i = 2 := by omega
      rcases this with rfl | rfl | rfl
      · exact ⟨_, atI_of (by decide) rfl, _, lx, fin _ (by omega)⟩
      · exact ⟨_, atI_of (by decide) rfl, _, lx, fin _ (by rw [app_len]; omega)⟩
      · exact ⟨_, atI_of (by decide) rfl, _, lx, fin _ (by rw [app_len, app_len]; omega)⟩
    · rintro σ H' ⟨zs, R, o', v1, v2, rfl, hb', ho', hp', hq', kp, hl, hR, nm⟩
      simp!
      exact k q zs o' H' hl nm hq0 hq' ho' hb' kp
abbrev s__law_first_row : Stmt := top 17
theorem sc__law_first_row : FnScope ["_law_box_here", "_law_names_here", "_law_x", "_law_y"] ["_law_box_here", "_law_names_here"] (defScope s__law_first_row) := ⟨rfl, rfl, rfl, by decide +kernel, rfl, by decide +kernel, by decide +kernel⟩
theorem ok__law_first_row {f ft : Addr} {fd fdt : FuncData} (F : Fun K "_law_first_row" "_law_first_row" s__law_first_row f fd) (T : TFR mg ft) (F__law_take : Fun K "_law_take" "_law_take" s__law_take ft fdt) (b__law_take : Binds K fdt ["_law_box_here", "_law_wide"] [])
    (G__law_take : FnOk P w K mg base CX0 1 ft fdt ["_law_box_here", "_law_wide"] spTake) : FnOk P w K mg base CX0 2 f fd ["_law_box_here", "_law_names_here"] spFR := by
  refine F.ok sc__law_first_row (fun vs H Q E h => ?_) (fun cdv A outer s H vs Q E hr h => ?_)
  · obtain ⟨b, p, zs, o, rfl, _⟩ := h
    rfl
  · obtain ⟨b, p, zs, o, rfl, hb, ho, hp, h3, nm, nbp, k⟩ := h
    have hsz : sizeLine = 16777216 := PySem.sizeLine_eq
    refine ⟨_, (QSs.h (qpss_cons (qps_set (i := 2) sc__law_first_row.nd rfl (by first | exact Or.inl rfl | exact Or.inr rfl) (qpe_ix ix_U (qpv 1) (qpe_call G__law_take (hr.mono (by decide)) rfl T.m__law_take F__law_take.kp b__law_take .nil pass0 (qpa_cons (qpv 0) (qpa_cons qpe_int qpa_nil))) (fun _ _ => rfl)))
    (qpss_cons (qps_set (i := 3) sc__law_first_row.nd rfl (by first | exact Or.inl rfl | exact Or.inr rfl) (qpe_ix ix_U (qpv 1) (qpe_call G__law_take (hr.mono (by decide)) rfl T.m__law_take F__law_take.kp b__law_take .nil pass0 (qpa_cons (qpv 0) (qpa_cons qpe_int qpa_nil))) (fun _ _ => rfl)))
    (qpss_one (qps_ret (qpe_ix ix_U (qpe_lst (qpa_cons (qpe_tup (qpa_cons qpe_str qpa_nil)) (qpa_cons (qpe_tup (qpa_cons qpe_str (qpa_cons (qpv 2) (qpa_cons (qpe_ix ix_U qpe_str (qpe_call G__law_take (hr.mono (by decide)) rfl T.m__law_take F__law_take.kp b__law_take .nil pass0 (qpa_cons (qpv 0) (qpa_cons qpe_int qpa_nil))) (fun _ _ => rfl)) qpa_nil)))) (qpa_cons (qpe_tup (qpa_cons qpe_str (qpa_cons (qpv 2) (qpa_cons (qpv 3) qpa_nil)))) qpa_nil)))) (qpe_call G__law_take (hr.mono (by decide)) rfl T.m__law_take F__law_take.kp b__law_take .nil pass0 (qpa_cons (qpv 0) (qpa_cons qpe_int qpa_nil))) (fun _ _ => rfl))))))), ?_⟩
    simp! [hp]
    have pA : ∀ o, upd H b o p = some (.lst (zs.map V.str)) := fun o => by rw [upd_ne nbp.symm]; exact hp
    have kA : ∀ o, Kp [b] H (upd H b o) := fun o' => by
      obtain ⟨xs, rfl⟩ := ho.lst
      exact (Kp.refl [b] H).set hb (.inl (by simp))
    refine ⟨b, 3, o, rfl, hb, ho, by omega, by omega, fun dx o1 dx0 dx1 ho1 => ?_⟩
    obtain ⟨x, lx, ax⟩ := Nm.at_ nm h3 dx0 dx1
    simp! [pA]
    refine ⟨_, ax, b, 3, o1, rfl, upd_same, ho1, by omega, by omega, fun dy o2 dy0 dy1 ho2 => ?_⟩
    obtain ⟨y, ly, ay⟩ := Nm.at_ nm h3 dy0 dy1
    simp! [pA]
    refine ⟨_, ay, by omega, fun t1 ht1 => ?_⟩
    have nb1 : b ≠ t1 := ne_of_none upd_same ht1
    refine ⟨b, 4, o2, rfl, by rw [upd_ne nb1, upd_same], ho2, by omega, by omega, fun dz o3 dz0 dz1 ho3 => ?_⟩
    have g1 : upd (upd (upd H b o2) t1 (.tup [V.str (Str.ofString "yes")])) b o3 t1 = some (.tup (rowV .yes)) := by rw [upd_ne nb1.symm, upd_same]; rfl
    have gb : upd (upd (upd H b o2) t1 (.tup [V.str (Str.ofString "yes")])) b o3 b = some o3 := upd_same
    have gk : Kp [b] H (upd (upd (upd H b o2) t1 (.tup [V.str (Str.ofString "yes")])) b o3) := by
      obtain ⟨xs, rfl⟩ := ho2.lst
      exact ((kA _).new ht1).set (by rw [upd_ne nb1, upd_same]) (.inl (by simp))
    generalize upd (upd (upd H b o2) t1 (.tup [V.str (Str.ofString "yes")])) b o3 = H1 at g1 gb gk
    simp!
    have l4 : (Str.ofString "abcz").cps.toList.length = 4 := by decide +kernel
    have l4' : (Str.ofString "abcz").length = 4 := by decide +kernel
    refine ⟨by omega, (Str.ofString "abcz").cps.toList[dz.toNat]'(by omega), atI_of dz0 (by simp), by omega, fun t2 ht2 => ⟨by omega, fun t3 ht3 => ⟨by omega, fun t4 ht4 => ?_⟩⟩⟩
    generalize (Str.ofString "abcz").cps.toList[dz.toNat]'(by omega) = c at ht3 ht4
    have k2 : Kp [b] H1 (upd H1 t2 (.tup [V.str (Str.ofString "is"), V.str x, V.str ⟨#[c]⟩])) := (Kp.refl [b] H1).new ht2
    have k3 := k2.new (o := .tup [V.str (Str.ofString "ahead"), V.str x, V.str y]) ht3
    have k4 := k3.new (o := .lst [V.ref t1, V.ref t2, V.ref t3]) ht4
    have n34 : t3 ≠ t4 := ne_of_none upd_same ht4
    have n23 : t2 ≠ t3 := ne_of_none upd_same ht3
    have n24 : t2 ≠ t4 := ne_of_none (by rw [upd_ne n23, upd_same]) ht4
    have nb2 : b ≠ t2 := ne_of_none gb ht2
    have nb3 : b ≠ t3 := ne_of_none (by rw [upd_ne nb2]; exact gb) ht3
    have nb4 : b ≠ t4 := ne_of_none (by rw [upd_ne nb3, upd_ne nb2]; exact gb) ht4
    have q1 := k4.tup _ _ g1
    have q2 : upd (upd (upd H1 t2 (.tup [V.str (Str.ofString "is"), V.str x, V.str ⟨#[c]⟩])) t3 (.tup [V.str (Str.ofString "ahead"), V.str x, V.str y])) t4 (.lst [V.ref t1, V.ref t2, V.ref t3]) t2 = some (.tup (rowV (.is x ⟨#[c]⟩))) := by rw [upd_ne n24, upd_ne n23, upd_same]; rfl
    have q3 : upd (upd (upd H1 t2 (.tup [V.str (Str.ofString "is"), V.str x, V.str ⟨#[c]⟩])) t3 (.tup [V.str (Str.ofString "ahead"), V.str x, V.str y])) t4 (.lst [V.ref t1, V.ref t2, V.ref t3]) t3 = some (.tup (rowV (.ahead x y))) := by rw [upd_ne n34, upd_same]; rfl
    have qb : upd (upd (upd H1 t2 (.tup [V.str (Str.ofString "is"), V.str x, V.str ⟨#[c]⟩])) t3 (.tup [V.str (Str.ofString "ahead"), V.str x, V.str y])) t4 (.lst [V.ref t1, V.ref t2, V.ref t3]) b = some o3 := by rw [upd_ne nb4, upd_ne nb3, upd_ne nb2]; exact gb
    have q4 : upd (upd (upd H1 t2 (.tup [V.str (Str.ofString "is"), V.str x, V.str ⟨#[c]⟩])) t3 (.tup [V.str (Str.ofString "ahead"), V.str x, V.str y])) t4 (.lst [V.ref t1, V.ref t2, V.ref t3]) t4 = some (.lst [V.ref t1, V.ref t2, V.ref t3]) := upd_same
    have kk := gk.trans k4
    generalize upd (upd (upd H1 t2 (.tup [V.str (Str.ofString "is"), V.str x, V.str ⟨#[c]⟩])) t3 (.tup [V.str (Str.ofString "ahead"), V.str x, V.str y])) t4 (.lst [V.ref t1, V.ref t2, V.ref t3]) = H4 at q1 q2 q3 qb q4 kk
    refine ⟨b, 3, o3, rfl, qb, ho3, by omega, by omega, fun dw o5 dw0 dw1 ho5 => ?_⟩
    have kf : Kp [b] H4 (upd H4 b o5) := by
      obtain ⟨xs, rfl⟩ := ho3.lst
      exact (Kp.refl [b] H4).set qb (.inl (by simp))
    have q4' : upd H4 b o5 t4 = some (.lst [V.ref t1, V.ref t2, V.ref t3]) := by rw [upd_ne nb4.symm]; exact q4
    simp! [q4']
    have fin : ∀ t r, r.ok 0 → (tw [] r).length ≤ 20 → H4 t = some (.tup (rowV r)) → Q (.ref t) (upd H4 b o5) := fun t r h1 h2 h3 => k t r o5 _ h1 h2 (kf.tup _ _ h3) ho5 upd_same (kk.trans kf)
    have lc : (⟨#[c]⟩ : Str).length = 1 := rfl
    have : dw = 0 ∨ dw = 1 ∨ dw = 2 := by omega
    rcases this with rfl | rfl | rfl
    · exact ⟨_, atI_of (by decide) rfl, fin _ .yes trivial (by simp only [tw, l_yes]; omega) q1⟩
    · exact ⟨_, atI_of (by decide) rfl, fin _ (.is x ⟨#[c]⟩) ⟨by omega, rfl⟩ (by simp only [tw, app_len, l_is]; omega) q2⟩
    · exact ⟨_, atI_of (by decide) rfl, fin _ (.ahead x y) ⟨by omega, by omega⟩ (by simp only [tw, app_len, l_ah]; omega) q3⟩
end
structure FR (H : Hp) (b q : Addr) (rs : List RS) (H1 : Hp) : Prop where
  bx : ∃ o, H1 b = some o ∧ BoxO o
  rw : ∃ us, H1 q = some (.lst us) ∧ RowsAt H1 us rs
  ok : okR rs
  kp : Kp [b, q] H H1
theorem FR.new {H H1 : Hp} {b q t : Addr} {rs : List RS} {x : HO} (F : FR H b q rs H1) (ht : H1 t = none) : FR H b q rs (upd H1 t x) := by
  obtain ⟨⟨o, hb, ho⟩, ⟨us, hq, ra⟩, ok, kp⟩ := F
  exact ⟨⟨o, by rw [upd_ne (ne_of_none hb ht)]; exact hb, ho⟩, ⟨us, by rw [upd_ne (ne_of_none hq ht)]; exact hq, ra.kp ((Kp.refl [] H1).new ht)⟩, ok, kp.new ht⟩
theorem FR.keep {H H1 H2 : Hp} {b q : Addr} {rs : List RS} (F : FR H b q rs H1) (k : Kp [] H1 H2) : FR H b q rs H2 := by
  obtain ⟨⟨o, hb, ho⟩, ⟨us, hq, ra⟩, ok, kp⟩ := F
  exact ⟨⟨o, k.old _ _ hb (by simp), ho⟩, ⟨us, k.old _ _ hq (by simp), ra.kp k⟩, ok, kp.trans (k.mono (by simp))⟩
theorem FR.box {H H1 : Hp} {b q : Addr} {rs : List RS} {o' : HO} (F : FR H b q rs H1) (nbq : b ≠ q) (ho' : BoxO o') : FR H b q rs (upd H1 b o') := by
  obtain ⟨⟨o, hb, ho⟩, ⟨us, hq, ra⟩, ok, kp⟩ := F
  obtain ⟨xs, rfl⟩ := ho.lst
  exact ⟨⟨o', upd_same, ho'⟩, ⟨us, by rw [upd_ne nbq.symm]; exact hq, ra.kp ((Kp.refl [b] H1).set hb (.inl (by simp)))⟩, ok, kp.set hb (.inl (by simp))⟩
theorem FR.step {H H1 H2 : Hp} {b q : Addr} {rs : List RS} {o' : HO} (F : FR H b q rs H1) (nbq : b ≠ q) (k : Kp [b] H1 H2) (ho' : BoxO o') (hb' : H2 b = some o') : FR H b q rs H2 := by
  obtain ⟨⟨o, hb, ho⟩, ⟨us, hq, ra⟩, ok, kp⟩ := F
  exact ⟨⟨o', hb', ho'⟩, ⟨us, k.old _ _ hq (by simpa using nbq.symm), ra.kp k⟩, ok, kp.trans (k.mono (by simp))⟩
theorem FR.put {H H1 : Hp} {b q t : Addr} {rs : List RS} {us : List V} (F : FR H b q rs H1) (nbq : b ≠ q) (hq : H1 q = some (.lst us)) (r : RS) (hr : r.ok rs.length) (ht : H1 t = some (.tup (rowV r))) : FR H b q (rs ++ [r]) (upd H1 q (.lst (us ++ [.ref t]))) := by
  obtain ⟨⟨o, hb, ho⟩, ⟨us', hq', ra⟩, ok, kp⟩ := F
  rw [hq] at hq'
  cases hq'
  have kq : Kp [q] H1 (upd H1 q (.lst (us ++ [.ref t]))) := (Kp.refl [q] H1).set hq (.inl (by simp))
  exact ⟨⟨o, by rw [upd_ne nbq]; exact hb, ho⟩, ⟨_, upd_same, Paired.snoc (ra.kp kq) ⟨t, rfl, kq.tup _ _ ht⟩⟩, ok.snoc hr, kp.set hq (.inl (by simp))⟩
theorem lastT_snoc (rs : List RS) (r : RS) : lastT (rs ++ [r]) = tw (txts rs) r := by
  unfold lastT
  rw [txts_snoc, List.length_append, List.length_singleton, Nat.add_sub_cancel, ← txts_len rs, tx_at]
theorem at_last {rs : List RS} (h : 0 < rs.length) : atI ((txts rs).map szV) (-1) = some (.int ((lastT rs).length : Int)) := by
  refine atI_m1 ?_
  have hh : rs.length - 1 < (txts rs).length := by rw [txts_len]; omega
  rw [List.length_map, txts_len, List.getElem?_map, List.getElem?_eq_getElem hh]
  simp [szV, lastT, tx, hh]
def spDb : Sp := fun vs H Q _ => ∃ (b q : Addr) (m : Nat) (M : Int) (rs : List RS), vs = [.ref b, .ref q, .int (m : Int), .int M] ∧ FR H b q rs H ∧ b ≠ q ∧ 0 < rs.length ∧ rs.length + m ≤ 1000 ∧
  ∀ l H', FR H b q (rs ++ l) H' → l.length ≤ m → (((lastT rs).length : Int) ≤ M → ((lastT (rs ++ l)).length : Int) ≤ M) → Q (.ref q) H'
structure TDb (mg : Str → Option Value) (ft fz : Addr) : Prop where
  n_len : mg "len" = none
  m__law_take : mg "_law_take" = some (.ref ft)
  m__law_sizes : mg "_law_sizes" = some (.ref fz)
structure TDr (mg : Str → Option Value) (ft fr : Addr) : Prop where
  n_len : mg "len" = none
  n_range : mg "range" = none
  m__law_take : mg "_law_take" = some (.ref ft)
  m__law_row_at : mg "_law_row_at" = some (.ref fr)
def spDr : Sp := fun vs H Q _ => ∃ (b q p : Addr) (m : Nat) (zs : List Str) (rs : List RS), vs = [.ref b, .ref q, .ref p, .int (m : Int)] ∧ FR H b q rs H ∧ b ≠ q ∧ H p = some (.lst (zs.map V.str)) ∧ p ≠ b ∧ p ≠ q ∧ zs.length = 3 ∧ Nm zs ∧ 0 < rs.length ∧ rs.length + m ≤ 900 ∧
  ∀ l H', FR H b q (rs ++ l) H' → l.length ≤ m → Q (.ref q) H'
theorem bw_at {d : Int} (d0 : 0 ≤ d) (d1 : d < 2) : ∃ bb : Bool, atI [V.str (Str.ofString "and"), V.str (Str.ofString "or")] d = some (.str (bw bb)) := by
  have : d = 0 ∨ d = 1 := by omega
  rcases this with rfl | rfl
  · exact ⟨true, atI_of (by decide) rfl⟩
  · exact ⟨false, atI_of (by decide) rfl⟩
theorem qw_at {d : Int} (d0 : 0 ≤ d) (d1 : d < 2) : ∃ bb : Bool, atI [V.str (Str.ofString "some"), V.str (Str.ofString "each")] d = some (.str (qw bb)) := by
  have : d = 0 ∨ d = 1 := by omega
  rcases this with rfl | rfl
  · exact ⟨true, atI_of (by decide) rfl⟩
  · exact ⟨false, atI_of (by decide) rfl⟩
theorem tw_bin_len {T : List Str} {b : Bool} {i j : Nat} : (tw T (.bin b i j)).length = (tx T i).length + (tx T j).length + 4 + (bw b).length := by
  simp only [tw, app_len, l_op, l_cl, sp_len]; omega
section
variable {P : Program} {w : World} {K : PySem.W.Frag} {mg : Str → Option Value} {base : Heap}
abbrev s__law_doubled : Stmt := top 21
theorem sc__law_doubled : FnScope ["_law_box_here", "_law_rows", "_law_many", "_law_most", "_law_sizes_here", "_law_last"] ["_law_box_here", "_law_rows", "_law_many", "_law_most"] (defScope s__law_doubled) := ⟨rfl, rfl, rfl, by decide +kernel, rfl, by decide +kernel, by decide +kernel⟩
theorem ok__law_doubled {f ft fz : Addr} {fd fdt fdz : FuncData} (F : Fun K "_law_doubled" "_law_doubled" s__law_doubled f fd) (T : TDb mg ft fz) (F__law_take : Fun K "_law_take" "_law_take" s__law_take ft fdt) (b__law_take : Binds K fdt ["_law_box_here", "_law_wide"] [])
    (G__law_take : FnOk P w K mg base CX0 1 ft fdt ["_law_box_here", "_law_wide"] spTake) (F__law_sizes : Fun K "_law_sizes" "_law_sizes" s__law_sizes fz fdz) (b__law_sizes : Binds K fdz ["_law_rows"] [])
    (G__law_sizes : FnOk P w K mg base CX0 1 fz fdz ["_law_rows"] spSz) : FnOk P w K mg base CX0 2 f fd ["_law_box_here", "_law_rows", "_law_many", "_law_most"] spDb := by
  refine F.ok sc__law_doubled (fun vs H Q E h => ?_) (fun cdv A outer s H vs Q E hr h => ?_)
  · obtain ⟨b, q, m, M, rs, rfl, _⟩ := h
    rfl
  · obtain ⟨b, q, m, M, rs, rfl, F0, nbq, r0, r1, k⟩ := h
    have hu := hr.units
    have hsz : sizeLine = 16777216 := PySem.sizeLine_eq
    refine ⟨_, (QSs.h (qpss_cons (qps_set (i := 4) sc__law_doubled.nd rfl (by first | exact Or.inl rfl | exact Or.inr rfl) (qpe_call G__law_sizes (hr.mono (by decide)) rfl T.m__law_sizes F__law_sizes.kp b__law_sizes .nil pass0 (qpa_cons (qpv 1) qpa_nil)))
    (qpss_cons (qps_while PassesOwn.never (QW.pt (qpw_and (qpt_cmpR op_gt (qpv 2) qpe_int (nomark _)) (qpw_and1 (qpt_cmpR op_leU (qpe_op op_addW (qpe_op op_mulW qpe_int (qpe_ix ix_U (qpv 4) (qpe_un un_neg qpe_int) (fun _ _ => rfl))) qpe_int) (qpv 3) (nomark _))))) (qpss_cons (qps_set (i := 2) sc__law_doubled.nd rfl (by first | exact Or.inl rfl | exact Or.inr rfl) (qpe_op op_sub (qpv 2) qpe_int))
    (qpss_cons (qps_set (i := 5) sc__law_doubled.nd rfl (by first | exact Or.inl rfl | exact Or.inr rfl) (qpe_op op_sub (qpe_callB call_lenU (by rfl) T.n_len bt_len (qpa_cons (qpv 1) qpa_nil)) qpe_int))
    (qpss_cons (qps_expr (qpe_bmL PySem.F.slot_list_append PySem.F.type_list_append mt_appendU (qpv 1) (qpa_cons (qpe_tup (qpa_cons (qpe_ix ix_U (qpe_lst (qpa_cons qpe_str (qpa_cons qpe_str qpa_nil))) (qpe_call G__law_take (hr.mono (by decide)) rfl T.m__law_take F__law_take.kp b__law_take .nil pass0 (qpa_cons (qpv 0) (qpa_cons qpe_int qpa_nil))) (fun _ _ => rfl)) (qpa_cons (qpv 5) (qpa_cons (qpv 5) qpa_nil)))) qpa_nil) mono_var))
    (qpss_one (qps_set (i := 4) sc__law_doubled.nd rfl (by first | exact Or.inl rfl | exact Or.inr rfl) (qpe_call G__law_sizes (hr.mono (by decide)) rfl T.m__law_sizes F__law_sizes.kp b__law_sizes .nil pass0 (qpa_cons (qpv 1) qpa_nil))))))))
    (qpss_one (qps_ret (qpv 1)))))), ?_⟩
    obtain ⟨us, hq, ra⟩ := F0.rw
    simp!
    refine ⟨q, us, rs, rfl, hq, ra, F0.ok, by omega, fun z H1 hz hz1 k1 => ?_⟩
    refine ⟨fun n σ H' => ∃ (l : List RS) (z : Addr) (v5 : Option V), σ = [some (.ref b), some (.ref q), some (.int (n : Int)), some (.int M), some (.ref z), v5] ∧ FR H b q (rs ++ l) H' ∧ l.length + n ≤ m ∧ H' z = some (.lst ((txts (rs ++ l)).map szV)) ∧ (((lastT rs).length : Int) ≤ M → ((lastT (rs ++ l)).length : Int) ≤ M),
      ⟨m, [], z, none, rfl, by rw [List.append_nil]; exact F0.keep k1, by simp, by rw [List.append_nil]; exact hz1, fun h => by rw [List.append_nil]; exact h⟩, ?_⟩
    rintro n σ H2 ⟨l, z, v5, rfl, F2, hl, hz2, bd⟩
    have lp : 0 < (rs ++ l).length := by rw [List.length_append]; omega
    simp! [hz2, at_last lp]
    have stop : Q (.ref q) H2 := k l H2 F2 (by omega) bd
    refine ite2 (fun hn => ⟨.inl ⟨by decide, by decide⟩, ite2 (fun hM => ?_) (fun _ => stop)⟩) (fun _ => stop)
    refine ⟨fun σ' H' => ∃ m', m' < n ∧ _, fun _ _ h => h, ?_⟩
    obtain ⟨us2, hq2, ra2⟩ := F2.rw
    obtain ⟨o2, hb2, ho2⟩ := F2.bx
    have lu : us2.length = (rs ++ l).length := ra2.len
    refine ⟨us2, by rw [hq2]; rfl, by rw [hq2]; rfl, by omega, fun p hp => ?_⟩
    have F3 := F2.new (x := .lst [V.str (Str.ofString "and"), V.str (Str.ofString "or")]) hp
    have nbp : b ≠ p := ne_of_none hb2 hp
    refine ⟨b, 2, o2, rfl, by rw [upd_ne nbp]; exact hb2, ho2, by omega, by omega, fun d o3 d0 d1 ho3 => ?_⟩
    have F4 := F3.box nbq ho3
    have hp4 : upd (upd H2 p (.lst [V.str (Str.ofString "and"), V.str (Str.ofString "or")])) b o3 p = some (.lst [V.str (Str.ofString "and"), V.str (Str.ofString "or")]) := by rw [upd_ne nbp.symm, upd_same]
    generalize upd (upd H2 p (.lst [V.str (Str.ofString "and"), V.str (Str.ofString "or")])) b o3 = H4 at F4 hp4
    obtain ⟨us4, hq4, ra4⟩ := F4.rw
    obtain ⟨bb, hbb⟩ := bw_at d0 d1
    simp! [hp4]
    refine ⟨_, hbb, by omega, fun t ht => ?_⟩
    have e1 : (us2.length : Int) - 1 = (((rs ++ l).length - 1 : Nat) : Int) := by omega
    rw [e1]
    have F5 := F4.new (x := .tup [V.str (bw bb), V.int (((rs ++ l).length - 1 : Nat) : Int), V.int (((rs ++ l).length - 1 : Nat) : Int)]) ht
    have hq5 : upd H4 t (.tup [V.str (bw bb), V.int (((rs ++ l).length - 1 : Nat) : Int), V.int (((rs ++ l).length - 1 : Nat) : Int)]) q = some (.lst us4) := by rw [upd_ne (ne_of_none hq4 ht)]; exact hq4
    have lu4 : us4.length = (rs ++ l).length := ra4.len
    have ll := List.length_append (as := rs) (bs := l)
    have F6 := F5.put nbq hq5 (.bin bb ((rs ++ l).length - 1) ((rs ++ l).length - 1)) ⟨by omega, by omega⟩ upd_same
    refine ⟨us4, by rw [hq5]; rfl, by omega, ?_⟩
    obtain ⟨us6, hq6, ra6⟩ := F6.rw
    refine ⟨q, us6, _, rfl, hq6, ra6, F6.ok, by rw [List.length_append, List.length_singleton]; omega, fun z3 H7 hz3 hz7 k7 => ?_⟩
    refine ⟨n - 1, by omega, l ++ [.bin bb ((rs ++ l).length - 1) ((rs ++ l).length - 1)], z3, _, ⟨by omega, rfl, rfl⟩, by rw [← List.append_assoc]; exact F6.keep k7, by rw [List.length_append, List.length_singleton]; omega, by rw [← List.append_assoc]; exact hz7, fun _ => ?_⟩
    rw [← List.append_assoc, lastT_snoc, tw_bin_len]
    have : (bw bb).length ≤ 3 := bwl bb
    unfold lastT at hM
    omega
abbrev s__law_drawn : Stmt := top 22
theorem sc__law_drawn : FnScope ["_law_box_here", "_law_rows", "_law_names_here", "_law_many", "_law_k", "_law_at", "_law_kind", "_law_x", "_law_some"] ["_law_box_here", "_law_rows", "_law_names_here", "_law_many"] (defScope s__law_drawn) := ⟨rfl, rfl, rfl, by decide +kernel, rfl, by decide +kernel, by decide +kernel⟩
theorem ok__law_drawn {f ft fr : Addr} {fd fdt fdr : FuncData} (F : Fun K "_law_drawn" "_law_drawn" s__law_drawn f fd) (T : TDr mg ft fr) (F__law_take : Fun K "_law_take" "_law_take" s__law_take ft fdt) (b__law_take : Binds K fdt ["_law_box_here", "_law_wide"] [])
    (G__law_take : FnOk P w K mg base CX0 1 ft fdt ["_law_box_here", "_law_wide"] spTake) (F__law_row_at : Fun K "_law_row_at" "_law_row_at" s__law_row_at fr fdr) (b__law_row_at : Binds K fdr ["_law_box_here", "_law_k"] [])
    (G__law_row_at : FnOk P w K mg base CX0 2 fr fdr ["_law_box_here", "_law_k"] spRowAt) : FnOk P w K mg base CX0 3 f fd ["_law_box_here", "_law_rows", "_law_names_here", "_law_many"] spDr := by
  refine F.ok sc__law_drawn (fun vs H Q E h => ?_) (fun cdv A outer s H vs Q E hr h => ?_)
  · obtain ⟨b, q, p, m, zs, rs, rfl, _⟩ := h
    rfl
  · obtain ⟨b, q, p, m, zs, rs, rfl, F0, nbq, hp, npb, npq, h3, nm, r0, r1, k⟩ := h
    have hu := hr.units
    have hsz : sizeLine = 16777216 := PySem.sizeLine_eq
    refine ⟨_, (QSs.h (qpss_cons (qps_for PassesOwn.never rfl (qpi_range1 rfl T.n_range (qpa_cons (qpv 3) qpa_nil)) (qpg_name (i := 4) sc__law_drawn.nd rfl (by first | exact Or.inl rfl | exact Or.inr rfl)) (qpss_cons (qps_set (i := 5) sc__law_drawn.nd rfl (by first | exact Or.inl rfl | exact Or.inr rfl) (qpe_call G__law_row_at (hr.mono (by decide)) rfl T.m__law_row_at F__law_row_at.kp b__law_row_at .nil pass0 (qpa_cons (qpv 0) (qpa_cons (qpe_callB call_lenU (by rfl) T.n_len bt_len (qpa_cons (qpv 1) qpa_nil)) qpa_nil))))
    (qpss_cons (qps_set (i := 6) sc__law_drawn.nd rfl (by first | exact Or.inl rfl | exact Or.inr rfl) (qpe_call G__law_take (hr.mono (by decide)) rfl T.m__law_take F__law_take.kp b__law_take .nil pass0 (qpa_cons (qpv 0) (qpa_cons qpe_int qpa_nil))))
    (qpss_cons (qps_set (i := 7) sc__law_drawn.nd rfl (by first | exact Or.inl rfl | exact Or.inr rfl) (qpe_ix ix_U (qpv 2) (qpe_call G__law_take (hr.mono (by decide)) rfl T.m__law_take F__law_take.kp b__law_take .nil pass0 (qpa_cons (qpv 0) (qpa_cons qpe_int qpa_nil))) (fun _ _ => rfl)))
    (qpss_cons (qps_set (i := 8) sc__law_drawn.nd rfl (by first | exact Or.inl rfl | exact Or.inr rfl) (qpe_lst (qpa_cons (qpe_tup (qpa_cons qpe_str (qpa_cons (qpv 5) qpa_nil))) (qpa_cons (qpe_tup (qpa_cons qpe_str (qpa_cons (qpv 7) (qpa_cons (qpv 5) qpa_nil)))) (qpa_cons (qpe_tup (qpa_cons qpe_str (qpa_cons (qpv 5) (qpa_cons (qpe_call G__law_row_at (hr.mono (by decide)) rfl T.m__law_row_at F__law_row_at.kp b__law_row_at .nil pass0 (qpa_cons (qpv 0) (qpa_cons (qpe_callB call_lenU (by rfl) T.n_len bt_len (qpa_cons (qpv 1) qpa_nil)) qpa_nil))) qpa_nil)))) qpa_nil)))))
    (qpss_cons (qps_set (i := 8) sc__law_drawn.nd rfl (by first | exact Or.inl rfl | exact Or.inr rfl) (qpe_op op_addW (qpv 8) (qpe_lst (qpa_cons (qpe_tup (qpa_cons qpe_str (qpa_cons (qpe_call G__law_row_at (hr.mono (by decide)) rfl T.m__law_row_at F__law_row_at.kp b__law_row_at .nil pass0 (qpa_cons (qpv 0) (qpa_cons (qpe_callB call_lenU (by rfl) T.n_len bt_len (qpa_cons (qpv 1) qpa_nil)) qpa_nil))) (qpa_cons (qpv 5) qpa_nil)))) (qpa_cons (qpe_tup (qpa_cons qpe_str (qpa_cons (qpv 7) (qpa_cons (qpv 5) qpa_nil)))) qpa_nil)))))
    (qpss_one (qps_expr (qpe_bmL PySem.F.slot_list_append PySem.F.type_list_append mt_appendU (qpv 1) (qpa_cons (qpe_ix ix_U (qpv 8) (qpv 6) (fun _ _ => rfl)) qpa_nil) mono_var)))))))))
    (qpss_one (qps_ret (qpv 1))))), ?_⟩
    simp!
    refine ⟨by omega, by omega, ?_⟩
    rw [Int.toNat_natCast]
    refine loop_range (fun i σ H' => ∃ (l : List RS) (v4 v5 v6 v7 v8 : Option V), σ = [some (.ref b), some (.ref q), some (.ref p), some (.int (m : Int)), v4, v5, v6, v7, v8] ∧ FR H b q (rs ++ l) H' ∧ l.length = i) ?_ ?_ ?_
    · exact ⟨[], none, none, none, none, none, rfl, by rw [List.append_nil]; exact F0, rfl⟩
    · rintro i σ H1 hi ⟨l, v4, v5, v6, v7, v8, rfl, F1, hl⟩
      obtain ⟨us1, hq1, ra1⟩ := F1.rw
      obtain ⟨o1, hb1, ho1⟩ := F1.bx
      have ll := List.length_append (as := rs) (bs := l)
      have lu : us1.length = (rs ++ l).length := ra1.len
      simp! [hq1]
      refine ⟨b, (us1.length : Int), o1, rfl, hb1, ho1, by omega, by omega, fun da o2 H2 da0 da1 ho2 hb2 k2 => ?_⟩
      have F2 := F1.step nbq k2 ho2 hb2
      refine ⟨b, 5, o2, rfl, hb2, ho2, by omega, by omega, fun kd o3 kd0 kd1 ho3 => ?_⟩
      have F3 := F2.box nbq ho3
      have hp3 : ∀ {rs' : List RS} {H' : Hp}, FR H b q rs' H' → H' p = some (.lst (zs.map V.str)) := fun F => F.kp.old _ _ hp (by simp [npb, npq])
      simp! [hp3 F3]
      refine ⟨b, 3, o3, rfl, upd_same, ho3, by omega, by omega, fun dx o4 dx0 dx1 ho4 => ?_⟩
      have F4 := F3.box nbq ho4
      obtain ⟨x, lx, ax⟩ := Nm.at_ nm h3 dx0 dx1
      obtain ⟨a, rfl⟩ : ∃ a : Nat, da = (a : Int) := ⟨da.toNat, by omega⟩
      generalize upd (upd H2 b o3) b o4 = H4 at F4 ⊢
      simp! [hp3 F4]
      refine ⟨_, ax, by omega, fun t1 ht1 => ⟨by omega, fun t2 ht2 => ?_⟩⟩
      have F6 := (F4.new (x := .tup [V.str (Str.ofString "not"), V.int (a : Int)]) ht1).new (x := .tup [V.str (Str.ofString "some"), V.str x, V.int (a : Int)]) ht2
      have g1 : upd (upd H4 t1 (.tup [V.str (Str.ofString "not"), V.int (a : Int)])) t2 (.tup [V.str (Str.ofString "some"), V.str x, V.int (a : Int)]) t1 = some (.tup (rowV (.no a))) := by rw [upd_ne (ne_of_none upd_same ht2), upd_same]; rfl
      have g2 : upd (upd H4 t1 (.tup [V.str (Str.ofString "not"), V.int (a : Int)])) t2 (.tup [V.str (Str.ofString "some"), V.str x, V.int (a : Int)]) t2 = some (.tup (rowV (.qn true x a))) := upd_same
      generalize upd (upd H4 t1 (.tup [V.str (Str.ofString "not"), V.int (a : Int)])) t2 (.tup [V.str (Str.ofString "some"), V.str x, V.int (a : Int)]) = H6 at F6 g1 g2 ⊢
      obtain ⟨us6, hq6, ra6⟩ := F6.rw
      obtain ⟨o6, hb6, ho6⟩ := F6.bx
      have lu6 : us6.length = (rs ++ l).length := ra6.len
      refine ⟨us6, by rw [hq6]; rfl, b, (us6.length : Int), o6, rfl, hb6, ho6, by omega, by omega, fun d7 o7 H7 d70 d71 ho7 hb7 k7 => ?_⟩
      have F7 := F6.step nbq k7 ho7 hb7
      obtain ⟨c, rfl⟩ : ∃ c : Nat, d7 = (c : Int) := ⟨d7.toNat, by omega⟩
      refine ⟨by omega, fun t3 ht3 => ⟨by omega, fun t4 ht4 => ?_⟩⟩
      have F9 := (F7.new (x := .tup [V.str (Str.ofString "and"), V.int (a : Int), V.int (c : Int)]) ht3).new (x := .lst [V.ref t1, V.ref t2, V.ref t3]) ht4
      have k9 : Kp [b] H6 (upd (upd H7 t3 (.tup [V.str (Str.ofString "and"), V.int (a : Int), V.int (c : Int)])) t4 (.lst [V.ref t1, V.ref t2, V.ref t3])) := (k7.new ht3).new ht4
      have g3 : upd (upd H7 t3 (.tup [V.str (Str.ofString "and"), V.int (a : Int), V.int (c : Int)])) t4 (.lst [V.ref t1, V.ref t2, V.ref t3]) t3 = some (.tup (rowV (.bin true a c))) := by rw [upd_ne (ne_of_none upd_same ht4), upd_same]; rfl
      have g4 : upd (upd H7 t3 (.tup [V.str (Str.ofString "and"), V.int (a : Int), V.int (c : Int)])) t4 (.lst [V.ref t1, V.ref t2, V.ref t3]) t4 = some (.lst [V.ref t1, V.ref t2, V.ref t3]) := upd_same
      have nb4 : t4 ≠ b := fun z => by rw [z, upd_ne (ne_of_none hb7 ht3), hb7] at ht4; cases ht4
      generalize upd (upd H7 t3 (.tup [V.str (Str.ofString "and"), V.int (a : Int), V.int (c : Int)])) t4 (.lst [V.ref t1, V.ref t2, V.ref t3]) = H9 at F9 k9 g3 g4 ⊢
      obtain ⟨us9, hq9, ra9⟩ := F9.rw
      obtain ⟨o9, hb9, ho9⟩ := F9.bx
      have lu9 : us9.length = (rs ++ l).length := ra9.len
      refine ⟨us9, by rw [hq9]; rfl, b, (us9.length : Int), o9, rfl, hb9, ho9, by omega, by omega, fun d10 o10 H10 d100 d101 ho10 hb10 k10 => ?_⟩
      have F10 := F9.step nbq k10 ho10 hb10
      obtain ⟨e, rfl⟩ : ∃ e : Nat, d10 = (e : Int) := ⟨d10.toNat, by omega⟩
      refine ⟨by omega, fun t5 ht5 => ⟨by omega, fun t6 ht6 => ⟨by omega, fun t7 ht7 => ?_⟩⟩⟩
      have F11 := ((F10.new (x := .tup [V.str (Str.ofString "or"), V.int (e : Int), V.int (a : Int)]) ht5).new (x := .tup [V.str (Str.ofString "each"), V.str x, V.int (a : Int)]) ht6).new (x := .lst [V.ref t5, V.ref t6]) ht7
      have k11 : Kp [b] H9 (upd (upd (upd H10 t5 (.tup [V.str (Str.ofString "or"), V.int (e : Int), V.int (a : Int)])) t6 (.tup [V.str (Str.ofString "each"), V.str x, V.int (a : Int)])) t7 (.lst [V.ref t5, V.ref t6])) := ((k10.new ht5).new ht6).new ht7
      have g5 : upd (upd (upd H10 t5 (.tup [V.str (Str.ofString "or"), V.int (e : Int), V.int (a : Int)])) t6 (.tup [V.str (Str.ofString "each"), V.str x, V.int (a : Int)])) t7 (.lst [V.ref t5, V.ref t6]) t5 = some (.tup (rowV (.bin false e a))) := by
        rw [upd_ne (ne_of_none (by rw [upd_ne (ne_of_none upd_same ht6), upd_same]) ht7), upd_ne (ne_of_none upd_same ht6), upd_same]; rfl
      have g6 : upd (upd (upd H10 t5 (.tup [V.str (Str.ofString "or"), V.int (e : Int), V.int (a : Int)])) t6 (.tup [V.str (Str.ofString "each"), V.str x, V.int (a : Int)])) t7 (.lst [V.ref t5, V.ref t6]) t6 = some (.tup (rowV (.qn false x a))) := by rw [upd_ne (ne_of_none upd_same ht7), upd_same]; rfl
      have g7 : upd (upd (upd H10 t5 (.tup [V.str (Str.ofString "or"), V.int (e : Int), V.int (a : Int)])) t6 (.tup [V.str (Str.ofString "each"), V.str x, V.int (a : Int)])) t7 (.lst [V.ref t5, V.ref t6]) t7 = some (.lst [V.ref t5, V.ref t6]) := upd_same
      generalize upd (upd (upd H10 t5 (.tup [V.str (Str.ofString "or"), V.int (e : Int), V.int (a : Int)])) t6 (.tup [V.str (Str.ofString "each"), V.str x, V.int (a : Int)])) t7 (.lst [V.ref t5, V.ref t6]) = H11 at F11 k11 g5 g6 g7 ⊢
      refine rAddW.lst (k11.old _ _ g4 (by simpa using nb4)) g7 (by simp; omega) fun t8 ht8 => ?_
      have F12 := F11.new (x := .lst ([V.ref t1, V.ref t2, V.ref t3] ++ [V.ref t5, V.ref t6])) ht8
      have k12 : Kp [b] H11 (upd H11 t8 (.lst ([V.ref t1, V.ref t2, V.ref t3] ++ [V.ref t5, V.ref t6]))) := (Kp.refl [b] H11).new ht8
      have g8 : upd H11 t8 (.lst ([V.ref t1, V.ref t2, V.ref t3] ++ [V.ref t5, V.ref t6])) t8 = some (.lst [V.ref t1, V.ref t2, V.ref t3, V.ref t5, V.ref t6]) := upd_same
      generalize upd H11 t8 (.lst ([V.ref t1, V.ref t2, V.ref t3] ++ [V.ref t5, V.ref t6])) = H12 at F12 k12 g8 ⊢
      obtain ⟨us12, hq12, ra12⟩ := F12.rw
      have lu12 : us12.length = (rs ++ l).length := ra12.len
      have kz := (k9.trans k11).trans k12
      simp! [hq12, g8]
      have fin : ∀ (t : Addr) (r : RS), r.ok (rs ++ l).length → H12 t = some (.tup (rowV r)) → us12.length < sizeLine ∧ ∃ (l : List RS) (v4 v5 v6 v7 v8 : Option V), (some (V.int (0 + (i : Int))) = v4 ∧ some (V.int (a : Int)) = v5 ∧ some (V.int kd) = v6 ∧ some (V.str x) = v7 ∧ some (V.ref t8) = v8) ∧
          FR H b q (rs ++ l) (upd H12 q (.lst (us12 ++ [V.ref t]))) ∧ l.length = i + 1 := fun t r hr ht =>
        ⟨by omega, l ++ [r], _, _, _, _, _, ⟨rfl, rfl, rfl, rfl, rfl⟩, by rw [← List.append_assoc]; exact F12.put nbq hq12 r hr ht, by rw [List.length_append, List.length_singleton]; omega⟩
      have : kd = 0 ∨ kd = 1 ∨ kd = 2 ∨ kd = 3 ∨ kd = 4 := by omega
      rcases this with rfl | rfl | rfl | rfl | rfl
      · exact ⟨_, atI_of (by decide) rfl, fin t1 (.no a) (show a < _ by omega) (kz.tup _ _ g1)⟩
      · exact ⟨_, atI_of (by decide) rfl, fin t2 (.qn true x a) ⟨by omega, by omega⟩ (kz.tup _ _ g2)⟩
      · exact ⟨_, atI_of (by decide) rfl, fin t3 (.bin true a c) ⟨by omega, by omega⟩ ((k11.trans k12).tup _ _ g3)⟩
      · exact ⟨_, atI_of (by decide) rfl, fin t5 (.bin false e a) ⟨by omega, by omega⟩ (k12.tup _ _ g5)⟩
      · exact ⟨_, atI_of (by decide) rfl, fin t6 (.qn false x a) ⟨by omega, by omega⟩ (k12.tup _ _ g6)⟩
    · rintro σ H1 ⟨l, v4, v5, v6, v7, v8, rfl, F1, hl⟩
      simp!
      exact k l H1 F1 (by omega)
end
def spFi : Sp := fun vs H Q _ => ∃ (b q p : Addr) (G : Nat) (zs : List Str) (rs : List RS), vs = [.ref b, .ref q, .ref p, .int (G : Int)] ∧ FR H b q rs H ∧ b ≠ q ∧ H p = some (.lst (zs.map V.str)) ∧ p ≠ b ∧ p ≠ q ∧ zs.length = 3 ∧ Nm zs ∧ 0 < rs.length ∧ rs.length ≤ 100 ∧ G ≤ 100001 ∧ (lastT rs).length + 11 ≤ G ∧
  ∀ l H', FR H b q (rs ++ l) H' → (rs ++ l).length ≤ 99000 → (lastT (rs ++ l)).length = G → Q (.ref q) H'
structure TFi (mg : Str → Option Value) (ft fz fc : Addr) : Prop where
  n_len : mg "len" = none
  n_range : mg "range" = none
  m__law_take : mg "_law_take" = some (.ref ft)
  m__law_sizes : mg "_law_sizes" = some (.ref fz)
  m__law_can_fill : mg "_law_can_fill" = some (.ref fc)
def stP (n : Nat) : V → Bool
  | .int s => decide (s ≤ (n : Int)) && decide (canF ((n : Int) - s))
  | _ => false
theorem stP_mem (n : Nat) : ∀ v ∈ List.filter (stP n) [V.int 4, V.int 7, V.int 8, V.int 9], ∃ s : Int, v = .int s ∧ (s = 4 ∨ s = 7 ∨ s = 8 ∨ s = 9) ∧ s ≤ (n : Int) ∧ canF ((n : Int) - s) := fun v hv => by
  obtain ⟨h1, h2⟩ := List.mem_filter.mp hv
  simp only [List.mem_cons, List.not_mem_nil, or_false] at h1
  rcases h1 with rfl | rfl | rfl | rfl <;> (simp only [stP, Bool.and_eq_true, decide_eq_true_eq] at h2; exact ⟨_, rfl, by decide, h2.1, h2.2⟩)
theorem stP_some {n : Nat} (cf : canF (n : Int)) (h0 : 0 < n) : ∃ v, v ∈ List.filter (stP n) [V.int 4, V.int 7, V.int 8, V.int 9] := by
  have go : ∀ s : Int, V.int s ∈ [V.int 4, V.int 7, V.int 8, V.int 9] → s ≤ (n : Int) → canF ((n : Int) - s) → ∃ v, v ∈ List.filter (stP n) [V.int 4, V.int 7, V.int 8, V.int 9] := fun s h1 h2 h3 =>
    ⟨.int s, List.mem_filter.mpr ⟨h1, by simp only [stP, Bool.and_eq_true, decide_eq_true_eq]; exact ⟨h2, h3⟩⟩⟩
  have cf' : (n : Int) = 0 ∨ (n : Int) = 4 ∨ (7 ≤ (n : Int) ∧ (n : Int) ≠ 10) := cf
  by_cases h7 : n = 7
  · exact go 7 (by simp) (by omega) (by unfold canF; omega)
  by_cases h14 : n = 14
  · exact go 7 (by simp) (by omega) (by unfold canF; omega)
  by_cases h9 : n = 9
  · exact go 9 (by simp) (by omega) (by unfold canF; omega)
  exact go 4 (by simp) (by omega) (by unfold canF; omega)
section
variable {P : Program} {w : World} {K : PySem.W.Frag} {mg : Str → Option Value} {base : Heap}
abbrev s__law_filled : Stmt := top 20
theorem sc__law_filled : FnScope ["_law_box_here", "_law_rows", "_law_names_here", "_law_goal", "_law_sizes_here", "_law_gap", "_law_fits", "_law_last", "_law_both", "_law_some", "_law_step"] ["_law_box_here", "_law_rows", "_law_names_here", "_law_goal"] (defScope s__law_filled) := ⟨rfl, rfl, rfl, by decide +kernel, rfl, by decide +kernel, by decide +kernel⟩
def nI (i : Nat) : V := .int (i : Int)
def fitP (rs : List RS) (n i : Nat) : Bool := decide ((tx (txts rs) i).length + 7 = n) || decide ((tx (txts rs) i).length + 18 ≤ n)
def IF (H : Hp) (b q p : Addr) (G : Nat) (rs : List RS) (n : Nat) : L2.St → Hp → Prop := fun σ H' => ∃ (l : List RS) (z : Addr) (v5 v6 v7 v8 v9 v10 : Option V), σ = [some (.ref b), some (.ref q), some (.ref p), some (.int (G : Int)), some (.ref z), v5, v6, v7, v8, v9, v10] ∧
  FR H b q (rs ++ l) H' ∧ (lastT (rs ++ l)).length + n = G ∧ canF (n : Int) ∧ 4 * l.length + n ≤ G ∧ H' z = some (.lst ((txts (rs ++ l)).map szV))
theorem ok__law_filled {f ft fz fc : Addr} {fd fdt fdz fdc : FuncData} (F : Fun K "_law_filled" "_law_filled" s__law_filled f fd) (T : TFi mg ft fz fc) (F__law_take : Fun K "_law_take" "_law_take" s__law_take ft fdt) (b__law_take : Binds K fdt ["_law_box_here", "_law_wide"] [])
    (G__law_take : FnOk P w K mg base CX0 1 ft fdt ["_law_box_here", "_law_wide"] spTake) (F__law_sizes : Fun K "_law_sizes" "_law_sizes" s__law_sizes fz fdz) (b__law_sizes : Binds K fdz ["_law_rows"] [])
    (G__law_sizes : FnOk P w K mg base CX0 1 fz fdz ["_law_rows"] spSz) (F__law_can_fill : Fun K "_law_can_fill" "_law_can_fill" s__law_can_fill fc fdc) (b__law_can_fill : Binds K fdc ["_law_gap"] [])
    (G__law_can_fill : FnOk P w K mg base CX0 1 fc fdc ["_law_gap"] spCF) : FnOk P w K mg base CX0 2 f fd ["_law_box_here", "_law_rows", "_law_names_here", "_law_goal"] spFi := by
  refine F.ok sc__law_filled (fun vs H Q E h => ?_) (fun cdv A outer s H vs Q E hr h => ?_)
  · obtain ⟨b, q, p, G, zs, rs, rfl, _⟩ := h
    rfl
  · obtain ⟨b, q, p, G, zs, rs, rfl, F0, nbq, hp, npb, npq, h3, nm, r0, r1, G1, hG, k⟩ := h
    have hu := hr.units
    have hsz : sizeLine = 16777216 := PySem.sizeLine_eq
    refine ⟨_, (QSs.h (qpss_cons (qps_set (i := 4) sc__law_filled.nd rfl (by first | exact Or.inl rfl | exact Or.inr rfl) (qpe_call G__law_sizes (hr.mono (by decide)) rfl T.m__law_sizes F__law_sizes.kp b__law_sizes .nil pass0 (qpa_cons (qpv 1) qpa_nil)))
    (qpss_cons (qps_while PassesOwn.never (qpt_cmpR op_ltU (qpe_ix ix_U (qpv 4) (qpe_un un_neg qpe_int) (fun _ _ => rfl)) (qpv 3) (nomark _)) (qpss_cons (qps_set (i := 5) sc__law_filled.nd rfl (by first | exact Or.inl rfl | exact Or.inr rfl) (qpe_op op_sub (qpv 3) (qpe_ix ix_U (qpv 4) (qpe_un un_neg qpe_int) (fun _ _ => rfl))))
    (qpss_cons (qps_setcIf (i := 6) sc__law_filled.nd rfl (by first | exact Or.inl rfl | exact Or.inr rfl) rfl (compOk_of (sc := defScope s__law_filled) (N := ["_law_box_here", "_law_rows", "_law_names_here", "_law_goal", "_law_sizes_here", "_law_gap", "_law_fits", "_law_last", "_law_both", "_law_some", "_law_step"]) (Nc := ["_law_k", "_law_gap", "_law_sizes_here"]) (js := [none, some 5, some 4]) (by decide +kernel)) (qpi_range1 rfl T.n_range (qpa_cons (qpe_callB call_lenU (by rfl) T.n_len bt_len (qpa_cons (qpv 1) qpa_nil)) qpa_nil)) (fun _ _ _ _ => (qpg_name (i := 0) (show List.Nodup [("_law_k" : Str), ("_law_gap" : Str), ("_law_sizes_here" : Str)] from by decide +kernel) rfl (by first | exact Or.inl rfl | exact Or.inr rfl))) (fun _ _ _ _ => (QW.pt (qpw_or (qpt_cmpR (op_eqU hu) (qpe_op op_addW (qpe_ix ix_U (qpv 2) (qpv 0) (fun _ _ => rfl)) qpe_int) (qpv 1) (nomark _)) (qpw_or1 (qpt_cmpR op_leU (qpe_op op_addW (qpe_ix ix_U (qpv 2) (qpv 0) (fun _ _ => rfl)) qpe_int) (qpv 1) (nomark _)))))) (fun _ _ _ _ => (qpv 0)))
    (qpss_cons (qps_set (i := 7) sc__law_filled.nd rfl (by first | exact Or.inl rfl | exact Or.inr rfl) (qpe_op op_sub (qpe_callB call_lenU (by rfl) T.n_len bt_len (qpa_cons (qpv 1) qpa_nil)) qpe_int))
    (qpss_mid (qps_if (qpt_cmpR op_gt (qpe_callB call_lenU (by rfl) T.n_len bt_len (qpa_cons (qpv 6) qpa_nil)) qpe_int (nomark _)) (qpss_cons (qps_set (i := 8) sc__law_filled.nd rfl (by first | exact Or.inl rfl | exact Or.inr rfl) (qpe_ix ix_U (qpe_lst (qpa_cons (qpe_tup (qpa_cons (qpv 7) (qpa_cons (qpe_ix ix_U (qpv 6) (qpe_un un_neg qpe_int) (fun _ _ => rfl)) qpa_nil))) (qpa_cons (qpe_tup (qpa_cons (qpe_ix ix_U (qpv 6) (qpe_un un_neg qpe_int) (fun _ _ => rfl)) (qpa_cons (qpv 7) qpa_nil))) qpa_nil))) (qpe_call G__law_take (hr.mono (by decide)) rfl T.m__law_take F__law_take.kp b__law_take .nil pass0 (qpa_cons (qpv 0) (qpa_cons qpe_int qpa_nil))) (fun _ _ => rfl)))
    (qpss_one (qps_expr (qpe_bmL PySem.F.slot_list_append PySem.F.type_list_append mt_appendU (qpv 1) (qpa_cons (qpe_op op_addX (qpe_tup (qpa_cons qpe_str qpa_nil)) (qpv 8)) qpa_nil) mono_var)))) (qpss_cons (qps_setcIf (i := 9) sc__law_filled.nd rfl (by first | exact Or.inl rfl | exact Or.inr rfl) rfl (compOk_of (sc := defScope s__law_filled) (N := ["_law_box_here", "_law_rows", "_law_names_here", "_law_goal", "_law_sizes_here", "_law_gap", "_law_fits", "_law_last", "_law_both", "_law_some", "_law_step"]) (Nc := ["_law_step", "_law_gap"]) (js := [none, some 5]) (by decide +kernel)) (qpi_any (K := K) (qpe_tup (qpa_cons qpe_int (qpa_cons qpe_int (qpa_cons qpe_int (qpa_cons qpe_int qpa_nil))))) rfl) (fun _ _ _ _ => (qpg_name (i := 0) (show List.Nodup [("_law_step" : Str), ("_law_gap" : Str)] from by decide +kernel) rfl (by first | exact Or.inl rfl | exact Or.inr rfl))) (fun _ _ _ _ => (QW.pt (qpw_and (qpt_cmpR op_leU (qpv 0) (qpv 1) (nomark _)) (qpw_and1 (qpt_val (qpe_call G__law_can_fill (hr.mono (by decide)) rfl T.m__law_can_fill F__law_can_fill.kp b__law_can_fill .nil pass0 (qpa_cons (qpe_op op_sub (qpv 1) (qpv 0)) qpa_nil))))))) (fun _ _ _ _ => (qpv 0)))
    (qpss_cons (qps_set (i := 10) sc__law_filled.nd rfl (by first | exact Or.inl rfl | exact Or.inr rfl) (qpe_ix ix_U (qpv 9) (qpe_call G__law_take (hr.mono (by decide)) rfl T.m__law_take F__law_take.kp b__law_take .nil pass0 (qpa_cons (qpv 0) (qpa_cons (qpe_callB call_lenU (by rfl) T.n_len bt_len (qpa_cons (qpv 9) qpa_nil)) qpa_nil))) (fun _ _ => rfl)))
    (qpss_one (qps_if (qpt_cmpR (op_eqU hu) (qpv 10) qpe_int (nomark _)) (qpss_one (qps_expr (qpe_bmL PySem.F.slot_list_append PySem.F.type_list_append mt_appendU (qpv 1) (qpa_cons (qpe_tup (qpa_cons qpe_str (qpa_cons (qpv 7) qpa_nil))) qpa_nil) mono_var))) (qpss_one (qps_expr (qpe_bmL PySem.F.slot_list_append PySem.F.type_list_append mt_appendU (qpv 1) (qpa_cons (qpe_tup (qpa_cons (qpe_ix ix_U (qpe_lst (qpa_cons qpe_str (qpa_cons qpe_str qpa_nil))) (qpe_call G__law_take (hr.mono (by decide)) rfl T.m__law_take F__law_take.kp b__law_take .nil pass0 (qpa_cons (qpv 0) (qpa_cons qpe_int qpa_nil))) (fun _ _ => rfl)) (qpa_cons (qpe_ix ix_U (qpv 2) (qpe_op op_sub (qpv 10) qpe_int) (fun _ _ => rfl)) (qpa_cons (qpv 7) qpa_nil)))) qpa_nil) mono_var))))))))
    (qpss_one (qps_set (i := 4) sc__law_filled.nd rfl (by first | exact Or.inl rfl | exact Or.inr rfl) (qpe_call G__law_sizes (hr.mono (by decide)) rfl T.m__law_sizes F__law_sizes.kp b__law_sizes .nil pass0 (qpa_cons (qpv 1) qpa_nil)))))))))
    (qpss_one (qps_ret (qpv 1)))))), ?_⟩
    obtain ⟨us, hq, ra⟩ := F0.rw
    simp!
    refine ⟨q, us, rs, rfl, hq, ra, F0.ok, by omega, fun z H1 hz hz1 k1 => ?_⟩
    refine ⟨IF H b q p G rs, ⟨G - (lastT rs).length, [], z, none, none, none, none, none, none, rfl, by rw [List.append_nil]; exact F0.keep k1, by rw [List.append_nil]; omega, by unfold canF; omega, by simp, by rw [List.append_nil]; exact hz1⟩, ?_⟩
    rintro n σ H2 ⟨l, z, v5, v6, v7, v8, v9, v10, rfl, F2, hn, cf, few, hz2⟩
    have ll := List.length_append (as := rs) (bs := l)
    have lp : 0 < (rs ++ l).length := by omega
    simp! [hz2, at_last lp]
    obtain ⟨us2, hq2, ra2⟩ := F2.rw
    have lu2 : us2.length = (rs ++ l).length := ra2.len
    have en : (G : Int) - ((lastT (rs ++ l)).length : Int) = (n : Int) := by omega
    have hcf : ((n : Int) = 0 ∨ (n : Int) = 4 ∨ (7 ≤ (n : Int) ∧ (n : Int) ≠ 10)) := cf
    refine ite2 (fun hlt => ⟨fun σ' H' => ∃ m', m' < n ∧ IF H b q p G rs m' σ' H', fun _ _ h => h, us2, by rw [hq2]; rfl, by omega, by omega, fun D hD => ?_⟩) (fun hge => k l H2 F2 (by omega) (by omega))
    rw [en, Int.toNat_natCast]
    have nzD : z ≠ D := ne_of_none hz2 hD
    have zD : ∀ o, upd H2 D o z = some (.lst ((txts (rs ++ l)).map szV)) := fun o => by rw [upd_ne nzD]; exact hz2
    refine compIf_range (fitP (rs ++ l) n) nI (by omega) (fun i hi l' Q' hq' => ?_) (fun i hi _ l' Q' hq' => ?_) fun v => ?_
    · have ai : atI ((txts (rs ++ l)).map szV) (0 + (i : Int)) = some (.int ((tx (txts (rs ++ l)) i).length : Int)) := by
        rw [Int.zero_add]; exact at_sz (by rw [txts_len]; omega)
      simp! [zD, ai]
      unfold fitP at hq'
      refine ite2 (fun h => ?_) (fun h => ?_)
      · rw [decide_eq_true (show (tx (txts (rs ++ l)) i).length + 7 = n by omega), Bool.true_or] at hq'
        exact hq'
      · rw [decide_eq_false (show ¬ (tx (txts (rs ++ l)) i).length + 7 = n by omega), Bool.false_or] at hq'
        rw [show decide (((tx (txts (rs ++ l)) i).length : Int) + 18 ≤ (n : Int)) = decide ((tx (txts (rs ++ l)) i).length + 18 ≤ n) from by
          by_cases h2 : (tx (txts (rs ++ l)) i).length + 18 ≤ n
          · rw [decide_eq_true h2]; exact decide_eq_true (by omega)
          · rw [decide_eq_false h2]; exact decide_eq_false (by omega)]
        exact hq'
    · simp! [Int.zero_add]
      exact hq'
    have hfit : ∀ x ∈ (List.range us2.length).filter (fitP (rs ++ l) n), x < (rs ++ l).length ∧ ((tx (txts (rs ++ l)) x).length + 7 = n ∨ (tx (txts (rs ++ l)) x).length + 18 ≤ n) := fun x hx => by
      obtain ⟨h1, h2⟩ := List.mem_filter.mp hx
      simp only [fitP, Bool.or_eq_true, decide_eq_true_eq] at h2
      exact ⟨by have := List.mem_range.mp h1; omega, h2⟩
    have hlf : ((List.range us2.length).filter (fitP (rs ++ l) n)).length ≤ us2.length := by
      have := List.length_filter_le (fitP (rs ++ l) n) (List.range us2.length)
      rwa [List.length_range] at this
    generalize (List.range us2.length).filter (fitP (rs ++ l) n) = fs at hfit hlf ⊢
    have F3 := F2.new (x := HO.lst (fs.map nI)) hD
    have hD3 : upd H2 D (HO.lst (fs.map nI)) D = some (HO.lst (fs.map nI)) := upd_same
    generalize upd H2 D (HO.lst (fs.map nI)) = H3 at F3 hD3 ⊢
    obtain ⟨us3, hq3, ra3⟩ := F3.rw
    have lu3 : us3.length = (rs ++ l).length := ra3.len
    refine ⟨us3, by rw [hq3]; rfl, ?_⟩
    have e1 : (us3.length : Int) - 1 = (((rs ++ l).length - 1 : Nat) : Int) := by omega
    rw [e1]
    refine ⟨fun σ H' => ∃ (r : RS) (m' : Nat) (v8 v9 v10 : Option V), σ = [some (.ref b), some (.ref q), some (.ref p), some (.int (G : Int)), some (.ref z), some (.int (n : Int)), some (.ref D), some (.int (((rs ++ l).length - 1 : Nat) : Int)), v8, v9, v10] ∧ FR H b q ((rs ++ l) ++ [r]) H' ∧ (tw (txts (rs ++ l)) r).length + m' = G ∧ canF (m' : Int) ∧ m' + 4 ≤ n, ?_, ?_⟩
    · have e0 : ((fs.map nI).length : Int) = (fs.length : Int) := by rw [List.length_map]
      obtain ⟨o3, hb3, ho3⟩ := F3.bx
      have npA : ∀ {rs' : List RS} {H' : Hp}, FR H b q rs' H' → H' p = some (.lst (zs.map V.str)) := fun F => F.kp.old _ _ hp (by simp [npb, npq])
      simp! [hD3, e0]
      refine ite2 (fun hpos => ?_) (fun hzero => ?_)
      · obtain ⟨x, hx, ax⟩ : ∃ x, x ∈ fs ∧ atI (fs.map nI) (-1) = some (.int (x : Int)) := by
          have hl : fs.length - 1 < fs.length := by omega
          exact ⟨fs[fs.length - 1], List.getElem_mem hl, atI_m1 (by rw [List.length_map, List.getElem?_map, List.getElem?_eq_getElem hl]; rfl)⟩
        obtain ⟨x1, x2⟩ := hfit x hx
        refine ⟨_, ax, by omega, fun t1 ht1 => ?_⟩
        have nD1 : D ≠ t1 := ne_of_none hD3 ht1
        refine ⟨fs.map nI, by rw [upd_ne nD1, hD3]; rfl, _, ax, by omega, fun t2 ht2 => ⟨by omega, fun t3 ht3 => ?_⟩⟩
        have F5 := ((F3.new (x := .tup [V.int (((rs ++ l).length - 1 : Nat) : Int), V.int (x : Int)]) ht1).new (x := .tup [V.int (x : Int), V.int (((rs ++ l).length - 1 : Nat) : Int)]) ht2).new (x := .lst [V.ref t1, V.ref t2]) ht3
        have n12 : t1 ≠ t2 := ne_of_none upd_same ht2
        have n23 : t2 ≠ t3 := ne_of_none upd_same ht3
        have n13 : t1 ≠ t3 := ne_of_none (by rw [upd_ne n12, upd_same]) ht3
        have g1 : upd (upd (upd H3 t1 (.tup [V.int (((rs ++ l).length - 1 : Nat) : Int), V.int (x : Int)])) t2 (.tup [V.int (x : Int), V.int (((rs ++ l).length - 1 : Nat) : Int)])) t3 (.lst [V.ref t1, V.ref t2]) t1 = some (.tup [V.int (((rs ++ l).length - 1 : Nat) : Int), V.int (x : Int)]) := by rw [upd_ne n13, upd_ne n12, upd_same]
        have g2 : upd (upd (upd H3 t1 (.tup [V.int (((rs ++ l).length - 1 : Nat) : Int), V.int (x : Int)])) t2 (.tup [V.int (x : Int), V.int (((rs ++ l).length - 1 : Nat) : Int)])) t3 (.lst [V.ref t1, V.ref t2]) t2 = some (.tup [V.int (x : Int), V.int (((rs ++ l).length - 1 : Nat) : Int)]) := by rw [upd_ne n23, upd_same]
        have g3 : upd (upd (upd H3 t1 (.tup [V.int (((rs ++ l).length - 1 : Nat) : Int), V.int (x : Int)])) t2 (.tup [V.int (x : Int), V.int (((rs ++ l).length - 1 : Nat) : Int)])) t3 (.lst [V.ref t1, V.ref t2]) t3 = some (.lst [V.ref t1, V.ref t2]) := upd_same
        generalize upd (upd (upd H3 t1 (.tup [V.int (((rs ++ l).length - 1 : Nat) : Int), V.int (x : Int)])) t2 (.tup [V.int (x : Int), V.int (((rs ++ l).length - 1 : Nat) : Int)])) t3 (.lst [V.ref t1, V.ref t2]) = H5 at F5 g1 g2 g3 ⊢
        obtain ⟨o5, hb5, ho5⟩ := F5.bx
        refine ⟨b, 2, o5, rfl, hb5, ho5, by omega, by omega, fun d o6 d0 d1 ho6 => ?_⟩
        have F6 := F5.box nbq ho6
        have nb3 : t3 ≠ b := fun z => by rw [z, hb5] at g3; obtain ⟨_, _, e, _⟩ := ho5; rw [e] at g3; cases g3
        have k6 : Kp [b] H5 (upd H5 b o6) := by
          obtain ⟨xs, rfl⟩ := ho5.lst
          exact (Kp.refl [b] H5).set hb5 (.inl (by simp))
        have g6 : upd H5 b o6 t3 = some (.lst [V.ref t1, V.ref t2]) := by rw [upd_ne nb3]; exact g3
        simp! [g6]
        obtain ⟨us6, hq6, ra6⟩ := F6.rw
        have lu6 : us6.length = (rs ++ l).length := ra6.len
        have fin : ∀ (t : Addr) (i j : Nat), upd H5 b o6 t = some (.tup [V.int (i : Int), V.int (j : Int)]) → i < (rs ++ l).length → j < (rs ++ l).length → (tx (txts (rs ++ l)) i).length + (tx (txts (rs ++ l)) j).length = (lastT (rs ++ l)).length + (tx (txts (rs ++ l)) x).length →
            ∀ (p_1 : Addr), upd H5 b o6 p_1 = none → rAddX (V.ref p_1) (V.ref t) (upd (upd H5 b o6) p_1 (.tup [V.str (Str.ofString "and")])) fun x_1 H1 => ∃ xs, lstOf (H1 q) = some xs ∧ xs.length < sizeLine ∧
              ∃ (r : RS) (m' : Nat) (v8' v9' v10' : Option V), (some (V.ref t) = v8' ∧ v9 = v9' ∧ v10 = v10') ∧ FR H b q (rs ++ l ++ [r]) (upd H1 q (.lst (xs ++ [x_1]))) ∧ (tw (txts (rs ++ l)) r).length + m' = G ∧ canF (m' : Int) ∧ m' + 4 ≤ n := by
          intro t i j ht hi hj hs t7 ht7
          have F7 := F6.new (x := .tup [V.str (Str.ofString "and")]) ht7
          refine ⟨t7, t, _, _, rfl, rfl, upd_same, by rw [upd_ne (ne_of_none ht ht7)]; exact ht, by simp; omega, fun t8 H8 k8 e8 => ?_⟩
          have F8 := F7.keep k8
          obtain ⟨us8, hq8, ra8⟩ := F8.rw
          have lu8 : us8.length = (rs ++ l).length := ra8.len
          have tb : (tw (txts (rs ++ l)) (.bin true i j)).length = (tx (txts (rs ++ l)) i).length + (tx (txts (rs ++ l)) j).length + 4 + 3 := by rw [tw_bin_len]; rfl
          refine ⟨us8, by rw [hq8]; rfl, by omega, .bin true i j, n - ((tx (txts (rs ++ l)) x).length + 7), _, _, _, ⟨rfl, rfl, rfl⟩, F8.put nbq hq8 (.bin true i j) ⟨hi, hj⟩ e8, by omega, by unfold canF; omega, by omega⟩
        have lq : lstOf (upd H5 b o6 q) = some us6 := by rw [hq6]; rfl
        have : d = 0 ∨ d = 1 := by omega
        rcases this with rfl | rfl
        · exact ⟨_, atI_of (by decide) rfl, by rw [lq]; rfl, by omega, fin t1 ((rs ++ l).length - 1) x (k6.tup _ _ g1) (by omega) x1 rfl⟩
        · exact ⟨_, atI_of (by decide) rfl, by rw [lq]; rfl, by omega, fin t2 x ((rs ++ l).length - 1) (k6.tup _ _ g2) x1 (by omega) (Nat.add_comm _ _)⟩
      · refine ⟨by omega, fun t1 ht1 D2 hD2 => ?_⟩
        refine compIf_tup (stP n) id upd_same hD2 (by decide) (fun x hx l' Q' hq' => ?_) (fun x hx _ l' Q' hq' => ?_) fun v => ?_
        · obtain ⟨s, rfl⟩ : ∃ s : Int, x = .int s := by
            simp only [List.mem_cons, List.not_mem_nil, or_false] at hx
            rcases hx with rfl | rfl | rfl | rfl <;> exact ⟨_, rfl⟩
          replace hq' : Q' (decide (s ≤ (n : Int)) && decide (canF ((n : Int) - s))) _ := hq'
          simp!
          refine ite2 (fun h => ⟨_, rfl, _, rfl, ?_⟩) (fun h => ?_)
          · rw [decide_eq_true h, Bool.true_and] at hq'
            exact hq'
          · rw [decide_eq_false h, Bool.false_and] at hq'
            exact hq'
        · simp!
          exact hq'
        simp only [List.map_id_fun, id_eq]
        obtain ⟨w0, hw0⟩ := stP_some cf (show 0 < n by omega)
        have hS := stP_mem n
        have lS : (List.filter (stP n) [V.int 4, V.int 7, V.int 8, V.int 9]).length ≤ 4 := List.length_filter_le _ _
        have lS0 : 0 < (List.filter (stP n) [V.int 4, V.int 7, V.int 8, V.int 9]).length := List.length_pos_of_mem hw0
        generalize List.filter (stP n) [V.int 4, V.int 7, V.int 8, V.int 9] = ss at hS lS lS0 ⊢
        have F5 := (F3.new (x := .tup [V.int 4, V.int 7, V.int 8, V.int 9]) ht1).new (x := .lst ss) hD2
        have g1 : upd (upd H3 t1 (.tup [V.int 4, V.int 7, V.int 8, V.int 9])) D2 (.lst ss) D2 = some (.lst ss) := upd_same
        generalize upd (upd H3 t1 (.tup [V.int 4, V.int 7, V.int 8, V.int 9])) D2 (.lst ss) = H5 at F5 g1 ⊢
        obtain ⟨o5, hb5, ho5⟩ := F5.bx
        refine ⟨ss, by rw [g1]; rfl, b, (ss.length : Int), o5, rfl, hb5, ho5, by omega, by omega, fun d o6 d0 d1 ho6 => ?_⟩
        have F6 := F5.box nbq ho6
        have nb2 : D2 ≠ b := fun z => by
          rw [z] at hD2
          rw [upd_ne (ne_of_none hb3 ht1), hb3] at hD2
          cases hD2
        have g6 : upd H5 b o6 D2 = some (.lst ss) := by rw [upd_ne nb2]; exact g1
        generalize upd H5 b o6 = H6 at F6 g6 ⊢
        have hdl : d.toNat < ss.length := by omega
        obtain ⟨s, hs, s1, s2, s3⟩ := hS _ (List.getElem_mem hdl)
        obtain ⟨us6, hq6, ra6⟩ := F6.rw
        have lu6 : us6.length = (rs ++ l).length := ra6.len
        simp! [g6]
        refine ⟨_, atI_of d0 (List.getElem?_eq_getElem hdl), ?_⟩
        rw [hs]
        simp!
        refine ite2 (fun h4 => ?_) (fun h4 => ?_)
        · refine ⟨by rw [hq6]; rfl, by omega, fun t7 ht7 => ?_⟩
          have F7 := F6.new (x := .tup [V.str (Str.ofString "not"), V.int (((rs ++ l).length - 1 : Nat) : Int)]) ht7
          have hq7 : upd H6 t7 (.tup [V.str (Str.ofString "not"), V.int (((rs ++ l).length - 1 : Nat) : Int)]) q = some (.lst us6) := by rw [upd_ne (ne_of_none hq6 ht7)]; exact hq6
          have tl : (tw (txts (rs ++ l)) (.no ((rs ++ l).length - 1))).length = 4 + (lastT (rs ++ l)).length := by simp only [tw, app_len, l_no]; rfl
          have e4 : ((n - 4 : Nat) : Int) = (n : Int) - s := by omega
          exact ⟨us6, by rw [hq7]; rfl, by omega, .no ((rs ++ l).length - 1), n - 4, _, _, _, ⟨rfl, rfl, rfl⟩, F7.put nbq hq7 (.no ((rs ++ l).length - 1)) (show (rs ++ l).length - 1 < (rs ++ l).length by omega) upd_same, by omega, by rw [e4]; exact s3, by omega⟩
        · refine ⟨by rw [hq6]; rfl, by omega, fun t7 ht7 => ?_⟩
          have F7 := F6.new (x := .lst [V.str (Str.ofString "some"), V.str (Str.ofString "each")]) ht7
          obtain ⟨o7, hb7, ho7⟩ := F7.bx
          have g7 : upd H6 t7 (.lst [V.str (Str.ofString "some"), V.str (Str.ofString "each")]) t7 = some (.lst [V.str (Str.ofString "some"), V.str (Str.ofString "each")]) := upd_same
          obtain ⟨o6', hb6, ho6'⟩ := F6.bx
          have nb7 : t7 ≠ b := fun z => by rw [z, hb6] at ht7; cases ht7
          refine ⟨b, 2, o7, rfl, hb7, ho7, by omega, by omega, fun d8 o8 d80 d81 ho8 => ?_⟩
          have F8 := F7.box nbq ho8
          have g8 : upd (upd H6 t7 (.lst [V.str (Str.ofString "some"), V.str (Str.ofString "each")])) b o8 t7 = some (.lst [V.str (Str.ofString "some"), V.str (Str.ofString "each")]) := by rw [upd_ne nb7, upd_same]
          generalize upd (upd H6 t7 (.lst [V.str (Str.ofString "some"), V.str (Str.ofString "each")])) b o8 = H8 at F8 g8 ⊢
          obtain ⟨bb, hbb⟩ := qw_at d80 d81
          simp! [g8, npA F8]
          obtain ⟨x, lx, ax⟩ := Nm.at_ nm h3 (d := s - 7) (by omega) (by omega)
          refine ⟨_, hbb, _, ax, by omega, fun t9 ht9 => ?_⟩
          obtain ⟨us8, hq8, ra8⟩ := F8.rw
          have lu8 : us8.length = (rs ++ l).length := ra8.len
          have F9 := F8.new (x := .tup [V.str (qw bb), V.str x, V.int (((rs ++ l).length - 1 : Nat) : Int)]) ht9
          have hq9 : upd H8 t9 (.tup [V.str (qw bb), V.str x, V.int (((rs ++ l).length - 1 : Nat) : Int)]) q = some (.lst us8) := by rw [upd_ne (ne_of_none hq8 ht9)]; exact hq8
          have tl : (tw (txts (rs ++ l)) (.qn bb x ((rs ++ l).length - 1))).length = 6 + x.length + (lastT (rs ++ l)).length := by simp only [tw, app_len, qwl, sp_len, lastT]; omega
          have e4 : ((n - s.toNat : Nat) : Int) = (n : Int) - s := by omega
          exact ⟨us8, by rw [hq9]; rfl, by omega, .qn bb x ((rs ++ l).length - 1), n - s.toNat, _, _, _, ⟨rfl, rfl, rfl⟩, F9.put nbq hq9 (.qn bb x ((rs ++ l).length - 1)) ⟨by omega, by omega⟩ upd_same, by omega, by rw [e4]; exact s3, by omega⟩
    · rintro σ H4 ⟨r, m', v8, v9, v10, rfl, F4, hm, cf4, hm4⟩
      obtain ⟨us4, hq4, ra4⟩ := F4.rw
      simp!
      refine ⟨q, us4, _, rfl, hq4, ra4, F4.ok, by rw [List.length_append, List.length_singleton]; omega, fun z5 H5 hz50 hz5 k5 => ⟨m', by omega, l ++ [r], z5, _, _, _, _, _, _, rfl, by rw [← List.append_assoc]; exact F4.keep k5, by rw [← List.append_assoc, lastT_snoc]; exact hm, cf4, by rw [List.length_append, List.length_singleton]; omega, by rw [← List.append_assoc]; exact hz5⟩⟩
end
def parts : RS → List Nat
  | .no i => [i]
  | .bin _ i j => [i, j]
  | .qn _ _ i => [i]
  | _ => []
theorem parts_lt {r : RS} {k : Nat} (h : r.ok k) : ∀ m ∈ parts r, m < k := by
  intro m hm
  cases r with
  | no i => cases List.mem_singleton.mp hm; exact h
  | bin b i j =>
    simp only [parts, List.mem_cons, List.not_mem_nil, or_false] at hm
    rcases hm with rfl | rfl
    · exact h.1
    · exact h.2
  | qn b x i => cases List.mem_singleton.mp hm; exact h.2
  | _ => cases hm
theorem parts_two (r : RS) : (parts r).length ≤ 2 := by cases r <;> simp [parts]
theorem parts_len {T : List Str} {r : RS} : ∀ m ∈ parts r, (tx T m).length ≤ (tw T r).length := by
  intro m hm
  cases r with
  | no i => cases List.mem_singleton.mp hm; simp only [tw, app_len]; omega
  | bin b i j =>
    simp only [parts, List.mem_cons, List.not_mem_nil, or_false] at hm
    simp only [tw, app_len]
    rcases hm with rfl | rfl <;> omega
  | qn b x i => cases List.mem_singleton.mp hm; simp only [tw, app_len]; omega
  | _ => cases hm
def isI : V → Bool
  | .int _ => true
  | _ => false
def nI' (i : Nat) : V := .int (i : Int)
theorem row_parts (r : RS) : ((rowV r).drop 1).filter isI = (parts r).map nI' := by cases r <;> rfl
def isIn (kvs : List (Key × V)) (k : Nat) : Bool := (valV kvs (.inl (k : Int))).isSome
def putAll (kvs : List (Key × V)) : List Nat → List (Key × V)
  | [] => kvs
  | k :: l => putAll (putK kvs (.inl (k : Int)) (.bl true)) l
theorem isIn_put (kvs : List (Key × V)) (k j : Nat) : isIn (putK kvs (.inl (k : Int)) (.bl true)) j = (decide (j = k) || isIn kvs j) := by
  unfold isIn
  rw [valV_put]
  by_cases h : j = k
  · subst h; simp
  · rw [if_neg (by intro e; exact h (by have := Sum.inl.inj e; omega)), decide_eq_false h, Bool.false_or]
theorem isIn_all : ∀ (l : List Nat) (kvs : List (Key × V)) (j : Nat), isIn (putAll kvs l) j = true ↔ j ∈ l ∨ isIn kvs j = true
  | [], kvs, j => by simp [putAll]
  | k :: l, kvs, j => by
    rw [putAll, isIn_all l, isIn_put]
    simp only [Bool.or_eq_true, decide_eq_true_eq, List.mem_cons]
    constructor
    · rintro (h | h | h)
      · exact .inl (.inr h)
      · exact .inl (.inl h)
      · exact .inr h
    · rintro ((h | h) | h)
      · exact .inr (.inl h)
      · exact .inl h
      · exact .inr (.inr h)
theorem putK_len (kvs : List (Key × V)) (k : Key) (v : V) : (putK kvs k v).length ≤ kvs.length + 1 := by
  unfold putK
  split <;> simp
theorem putAll_len : ∀ (l : List Nat) (kvs : List (Key × V)), (putAll kvs l).length ≤ kvs.length + l.length
  | [], kvs => by simp [putAll]
  | k :: l, kvs => by
    rw [putAll, List.length_cons]
    have := putAll_len l (putK kvs (.inl (k : Int)) (.bl true))
    have := putK_len kvs (.inl (k : Int)) (.bl true)
    omega
theorem putAll_snoc : ∀ (l : List Nat) (kvs : List (Key × V)) (k : Nat), putAll kvs (l ++ [k]) = putK (putAll kvs l) (.inl (k : Int)) (.bl true)
  | [], _, _ => rfl
  | _ :: l, _, k => putAll_snoc l _ k
structure LI (rs : List RS) (kvs : List (Key × V)) (i : Nat) : Prop where
  len : kvs.length ≤ 1 + 2 * i
  short : ∀ j, isIn kvs j = true → j < rs.length ∧ (tx (txts rs) j).length ≤ 100000
  last : isIn kvs (rs.length - 1) = true
  done : ∀ j, rs.length ≤ j + i → isIn kvs j = true → ∀ m ∈ parts (rs.getD j .yes), isIn kvs m = true
theorem LI.zero {rs : List RS} (h0 : 0 < rs.length) (h : (lastT rs).length ≤ 100000) : LI rs (mergeK [] [(.inl ((rs.length - 1 : Nat) : Int), .bl true)]) 0 := by
  have e : mergeK [] [((.inl ((rs.length - 1 : Nat) : Int) : Key), V.bl true)] = putAll [] [rs.length - 1] := rfl
  rw [e]
  refine ⟨by simp [putAll, putK], fun j hj => ?_, (isIn_all _ _ _).mpr (.inl (by simp)), fun j hj hi => ?_⟩
  · rcases (isIn_all _ _ _).mp hj with h' | h'
    · cases List.mem_singleton.mp h'; exact ⟨by omega, h⟩
    · cases h'
  · rcases (isIn_all _ _ _).mp hi with h' | h'
    · have := List.mem_singleton.mp h'; omega
    · cases h'
theorem LI.step {rs : List RS} (ok : okR rs) {kvs : List (Key × V)} {i : Nat} (L : LI rs kvs i) (hi : i < rs.length) :
    LI rs (putAll kvs (if isIn kvs (rs.length - 1 - i) = true then parts (rs.getD (rs.length - 1 - i) .yes) else [])) (i + 1) := by
  have ha : rs.length - 1 - i < rs.length := by omega
  have er : rs[rs.length - 1 - i]? = some (rs.getD (rs.length - 1 - i) .yes) := by rw [List.getD_eq_getElem?_getD, List.getElem?_eq_getElem ha]; rfl
  have hok := ok _ _ er
  have et := tx_tw rs ok _ _ er
  split
  · rename_i hin
    have hlt := parts_lt hok
    refine ⟨?_, fun j hj => ?_, (isIn_all _ _ _).mpr (.inr L.last), fun j hj hjn m hm => ?_⟩
    · have := putAll_len (parts (rs.getD (rs.length - 1 - i) .yes)) kvs
      have := parts_two (rs.getD (rs.length - 1 - i) .yes)
      have := L.len
      omega
    · rcases (isIn_all _ _ _).mp hj with h | h
      · have h1 := hlt j h
        have h2 := parts_len (T := txts rs) j h
        rw [← et] at h2
        have := (L.short _ hin).2
        exact ⟨by omega, by omega⟩
      · exact L.short j h
    · refine (isIn_all _ _ _).mpr ?_
      by_cases hja : j = rs.length - 1 - i
      · subst hja; exact .inl hm
      · rcases (isIn_all _ _ _).mp hjn with h | h
        · have := hlt j h; omega
        · exact .inr (L.done j (by omega) h m hm)
  · rename_i hin
    refine ⟨by have := L.len; simp [putAll]; omega, fun j hj => L.short j hj, L.last, fun j hj hjn m hm => ?_⟩
    by_cases hja : j = rs.length - 1 - i
    · subst hja; exact absurd hjn hin
    · exact L.done j (by omega) hjn m hm
def leftR (rs : List RS) (kvs : List (Key × V)) : List RS := (List.range rs.length).map fun k => if isIn kvs k = true then rs.getD k .yes else .yes
theorem leftR_len (rs : List RS) (kvs : List (Key × V)) : (leftR rs kvs).length = rs.length := by simp [leftR]
theorem leftR_at {rs : List RS} {kvs : List (Key × V)} {k : Nat} (h : k < rs.length) : (leftR rs kvs)[k]? = some (if isIn kvs k = true then rs.getD k .yes else .yes) := by
  unfold leftR
  rw [List.getElem?_map, List.getElem?_range h]
  rfl
theorem leftR_ok {rs : List RS} (ok : okR rs) (kvs : List (Key × V)) : okR (leftR rs kvs) := fun k r e => by
  have hk : k < rs.length := by have := (List.getElem?_eq_some_iff.mp e).1; rwa [leftR_len] at this
  rw [leftR_at hk] at e
  have er : rs[k]? = some (rs.getD k .yes) := by rw [List.getD_eq_getElem?_getD, List.getElem?_eq_getElem hk]; rfl
  cases Option.some.inj e
  split
  · exact ok k _ er
  · trivial
theorem tw_parts {T T' : List Str} {r : RS} (h : ∀ m ∈ parts r, tx T m = tx T' m) : tw T r = tw T' r := by
  cases r with
  | no i => simp only [tw]; rw [h i (by simp [parts])]
  | bin b i j => simp only [tw]; rw [h i (by simp [parts]), h j (by simp [parts])]
  | qn b x i => simp only [tw]; rw [h i (by simp [parts])]
  | _ => rfl
theorem leftR_tx {rs : List RS} (ok : okR rs) {kvs : List (Key × V)} (L : LI rs kvs rs.length) : ∀ k, isIn kvs k = true → tx (txts (leftR rs kvs)) k = tx (txts rs) k := by
  intro k
  induction k using Nat.strongRecOn with
  | ind k ih =>
    intro hk
    have hl := (L.short k hk).1
    have er : rs[k]? = some (rs.getD k .yes) := by rw [List.getD_eq_getElem?_getD, List.getElem?_eq_getElem hl]; rfl
    have e2 := leftR_at (kvs := kvs) hl
    rw [if_pos hk] at e2
    rw [tx_tw _ (leftR_ok ok kvs) k _ e2, tx_tw rs ok k _ er]
    exact tw_parts fun m hm => ih m (parts_lt (ok k _ er) m hm) (L.done k (by omega) hk m hm)
theorem leftR_bd {rs : List RS} (ok : okR rs) {kvs : List (Key × V)} (L : LI rs kvs rs.length) : ∀ k, (tx (txts (leftR rs kvs)) k).length ≤ 100000 := by
  intro k
  by_cases hk : isIn kvs k = true
  · rw [leftR_tx ok L k hk]; exact (L.short k hk).2
  · by_cases hl : k < rs.length
    · have e2 := leftR_at (kvs := kvs) hl
      rw [if_neg hk] at e2
      rw [tx_tw _ (leftR_ok ok kvs) k _ e2]
      simp only [tw, l_yes]; omega
    · rw [tx_ge (by rw [txts_len, leftR_len]; omega)]
      exact Nat.zero_le _
theorem leftR_last {rs : List RS} (ok : okR rs) {kvs : List (Key × V)} (L : LI rs kvs rs.length) : lastT (leftR rs kvs) = lastT rs := by
  unfold lastT
  rw [leftR_len]
  exact leftR_tx ok L _ L.last
theorem kp_setK {S : List Addr} {H H1 : Hp} (k : Kp S H H1) {b : Addr} {kvs : List (Key × V)} {o : HO} (hb : H1 b = some (.dK kvs)) (h : b ∈ S ∨ H b = none) : Kp S H (upd H1 b o) := by
  have ne : ∀ c u, H c = some u → c ∉ S → c ≠ b := fun c u e n z => by
    subst z
    rcases h with h | h
    · exact n h
    · rw [h] at e; cases e
  refine ⟨fun c u e n => by rw [upd_ne (ne c u e n)]; exact k.old c u e n, fun c ys e => ?_, fun c u e => ?_⟩
  · have e1 := k.tup c ys e
    have : c ≠ b := fun z => by rw [z, hb] at e1; cases e1
    rw [upd_ne this]; exact e1
  · obtain ⟨o', e'⟩ := k.dom c u e
    by_cases q : c = b
    · subst q; exact ⟨o, upd_same⟩
    · exact ⟨o', by rw [upd_ne q]; exact e'⟩
theorem RowsAt.getN {H : Hp} {vs : List V} {rs : List RS} (h : RowsAt H vs rs) {k : Nat} (hk : k < rs.length) : ∃ a, vs[k]? = some (.ref a) ∧ H a = some (.tup (rowV (rs.getD k .yes))) := by
  have hv : k < vs.length := by rw [h.len]; exact hk
  obtain ⟨r, a, e, e2, g⟩ := h.get (List.getElem?_eq_getElem hv)
  refine ⟨a, by rw [List.getElem?_eq_getElem hv, e2], ?_⟩
  rw [List.getD_eq_getElem?_getD, e]
  exact g
structure TLaw (K : PySem.W.Frag) (mg : Str → Option Value) (fb ft fn ff fd0 fi fr fh fs fz : Addr) : Prop where
  n_len : mg "len" = none
  n_range : mg "range" = none
  n_tuple : mg "tuple" = none
  n_int : mg "int" = none
  n_isinstance : mg "isinstance" = none
  m__law_box : mg "_law_box" = some (.ref fb)
  m__law_take : mg "_law_take" = some (.ref ft)
  m__law_names : mg "_law_names" = some (.ref fn)
  m__law_first_row : mg "_law_first_row" = some (.ref ff)
  m__law_doubled : mg "_law_doubled" = some (.ref fd0)
  m__law_filled : mg "_law_filled" = some (.ref fi)
  m__law_drawn : mg "_law_drawn" = some (.ref fr)
  m__law_heard : mg "_law_heard" = some (.ref fh)
  m__law_shown : mg "_law_shown" = some (.ref fs)
  m__law_sizes : mg "_law_sizes" = some (.ref fz)
  isi : PySem.W.kitOne K (.type "str") (.type "int") = some false
  iii : PySem.W.kitOne K (.type "int") (.type "int") = some true
structure RQ (H : Hp) (q : Addr) (rs : List RS) : Prop where
  rw : ∃ us, H q = some (.lst us) ∧ RowsAt H us rs
  ok : okR rs
  pos : 0 < rs.length
  few : rs.length ≤ 99100
theorem RQ.kp {H H' : Hp} {q : Addr} {rs : List RS} (h : RQ H q rs) (k : Kp [] H H') : RQ H' q rs := by
  obtain ⟨⟨us, h1, h2⟩, h3, h4, h5⟩ := h
  exact ⟨⟨us, k.old _ _ h1 (by simp), h2.kp k⟩, h3, h4, h5⟩
theorem FR.rq {H H' : Hp} {b q : Addr} {rs : List RS} (F : FR H b q rs H') (h1 : 0 < rs.length) (h2 : rs.length ≤ 99100) : RQ H' q rs := ⟨F.rw, F.ok, h1, h2⟩
theorem pair_map {H : Hp} {f : Nat → RS} : ∀ {l : List Nat} {xs : List V}, Paired (fun i x => ∃ t, x = V.ref t ∧ H t = some (.tup (rowV (f i)))) l xs → RowsAt H xs (l.map f)
  | _, _, .nil => .nil
  | _, _, .cons ⟨t, e, h⟩ r => .cons ⟨t, e, h⟩ (pair_map r)
section
variable {P : Program} {w : World} {K : PySem.W.Frag} {mg : Str → Option Value} {base : Heap}
abbrev s_law : Stmt := top 24
theorem sc_law : FnScope ["_law_script", "_law_box_here", "_law_names_here", "_law_rows", "_law_kind", "_law_due", "_law_left", "_law_at", "_law_part"] ["_law_script"] (defScope s_law) := ⟨rfl, rfl, rfl, by decide +kernel, rfl, by decide +kernel, by decide +kernel⟩
theorem ok_law {f fb ft fn ff fd0 fi fr fh fs fz : Addr} {fd fdb fdt fdn fdf fdd fdi fdr fdh fds fdz : FuncData} (F : Fun K "law" "law" s_law f fd) (T : TLaw K mg fb ft fn ff fd0 fi fr fh fs fz)
    (F__law_box : Fun K "_law_box" "_law_box" s__law_box fb fdb) (b__law_box : Binds K fdb ["_law_script", "_law_k"] []) (G__law_box : FnOk P w K mg base CX0 1 fb fdb ["_law_script", "_law_k"] (spBox K))
    (F__law_take : Fun K "_law_take" "_law_take" s__law_take ft fdt) (b__law_take : Binds K fdt ["_law_box_here", "_law_wide"] []) (G__law_take : FnOk P w K mg base CX0 1 ft fdt ["_law_box_here", "_law_wide"] spTake)
    (F__law_names : Fun K "_law_names" "_law_names" s__law_names fn fdn) (b__law_names : Binds K fdn ["_law_box_here"] []) (G__law_names : FnOk P w K mg base CX0 2 fn fdn ["_law_box_here"] spNm)
    (F__law_first_row : Fun K "_law_first_row" "_law_first_row" s__law_first_row ff fdf) (b__law_first_row : Binds K fdf ["_law_box_here", "_law_names_here"] []) (G__law_first_row : FnOk P w K mg base CX0 2 ff fdf ["_law_box_here", "_law_names_here"] spFR)
    (F__law_doubled : Fun K "_law_doubled" "_law_doubled" s__law_doubled fd0 fdd) (b__law_doubled : Binds K fdd ["_law_box_here", "_law_rows", "_law_many", "_law_most"] []) (G__law_doubled : FnOk P w K mg base CX0 2 fd0 fdd ["_law_box_here", "_law_rows", "_law_many", "_law_most"] spDb)
    (F__law_filled : Fun K "_law_filled" "_law_filled" s__law_filled fi fdi) (b__law_filled : Binds K fdi ["_law_box_here", "_law_rows", "_law_names_here", "_law_goal"] []) (G__law_filled : FnOk P w K mg base CX0 2 fi fdi ["_law_box_here", "_law_rows", "_law_names_here", "_law_goal"] spFi)
    (F__law_drawn : Fun K "_law_drawn" "_law_drawn" s__law_drawn fr fdr) (b__law_drawn : Binds K fdr ["_law_box_here", "_law_rows", "_law_names_here", "_law_many"] []) (G__law_drawn : FnOk P w K mg base CX0 3 fr fdr ["_law_box_here", "_law_rows", "_law_names_here", "_law_many"] spDr)
    (F__law_heard : Fun K "_law_heard" "_law_heard" s__law_heard fh fdh) (b__law_heard : Binds K fdh ["_law_saying"] []) (G__law_heard : FnOk P w K mg base CX0 7 fh fdh ["_law_saying"] spHd)
    (F__law_shown : Fun K "_law_shown" "_law_shown" s__law_shown fs fds) (b__law_shown : Binds K fds ["_law_saying"] []) (G__law_shown : FnOk P w K mg base CX0 1 fs fds ["_law_saying"] spOwn)
    (F__law_sizes : Fun K "_law_sizes" "_law_sizes" s__law_sizes fz fdz) (b__law_sizes : Binds K fdz ["_law_rows"] []) (G__law_sizes : FnOk P w K mg base CX0 1 fz fdz ["_law_rows"] spSz) : FnOk P w K mg base CX0 8 f fd ["_law_script"] (spLaw K) := by
  refine F.ok sc_law (fun vs H Q E h => ?_) (fun cdv A outer s H vs Q E hr h => ?_)
  · obtain ⟨a, ns, rfl, _⟩ := h
    rfl
  · obtain ⟨a, ns, rfl, hS, hn, k⟩ := h
    have hu := hr.units
    have hu1 := hu_of hr
    have hsz : sizeLine = 16777216 := PySem.sizeLine_eq
    refine ⟨_, (QSs.h (qpss_cons (qps_set (i := 1) sc_law.nd rfl (by first | exact Or.inl rfl | exact Or.inr rfl) (qpe_call G__law_box (hr.mono (by decide)) rfl T.m__law_box F__law_box.kp b__law_box .nil pass0 (qpa_cons (qpv 0) (qpa_cons qpe_int qpa_nil))))
    (qpss_cons (qps_set (i := 2) sc_law.nd rfl (by first | exact Or.inl rfl | exact Or.inr rfl) (qpe_call G__law_names (hr.mono (by decide)) rfl T.m__law_names F__law_names.kp b__law_names .nil pass0 (qpa_cons (qpv 1) qpa_nil)))
    (qpss_cons (qps_set (i := 3) sc_law.nd rfl (by first | exact Or.inl rfl | exact Or.inr rfl) (qpe_lst (qpa_cons (qpe_call G__law_first_row (hr.mono (by decide)) rfl T.m__law_first_row F__law_first_row.kp b__law_first_row .nil pass0 (qpa_cons (qpv 1) (qpa_cons (qpv 2) qpa_nil))) qpa_nil)))
    (qpss_cons (qps_set (i := 4) sc_law.nd rfl (by first | exact Or.inl rfl | exact Or.inr rfl) (qpe_call G__law_take (hr.mono (by decide)) rfl T.m__law_take F__law_take.kp b__law_take .nil pass0 (qpa_cons (qpv 1) (qpa_cons qpe_int qpa_nil))))
    (qpss_mid (qps_if (qpt_cmpR (op_eqU hu) (qpv 4) qpe_int (nomark _)) (qpss_one (qps_set (i := 3) sc_law.nd rfl (by first | exact Or.inl rfl | exact Or.inr rfl) (qpe_call G__law_filled (hr.mono (by decide)) rfl T.m__law_filled F__law_filled.kp b__law_filled .nil pass0 (qpa_cons (qpv 1) (qpa_cons (qpe_call G__law_doubled (hr.mono (by decide)) rfl T.m__law_doubled F__law_doubled.kp b__law_doubled .nil pass0 (qpa_cons (qpv 1) (qpa_cons (qpv 3) (qpa_cons qpe_int (qpa_cons qpe_int qpa_nil))))) (qpa_cons (qpv 2) (qpa_cons qpe_int qpa_nil))))))) (qpss_one (qps_if (qpt_cmpR op_ltU (qpv 4) qpe_int (nomark _)) (qpss_one (qps_set (i := 3) sc_law.nd rfl (by first | exact Or.inl rfl | exact Or.inr rfl) (qpe_call G__law_filled (hr.mono (by decide)) rfl T.m__law_filled F__law_filled.kp b__law_filled .nil pass0 (qpa_cons (qpv 1) (qpa_cons (qpe_call G__law_doubled (hr.mono (by decide)) rfl T.m__law_doubled F__law_doubled.kp b__law_doubled .nil pass0 (qpa_cons (qpv 1) (qpa_cons (qpv 3) (qpa_cons qpe_int (qpa_cons qpe_int qpa_nil))))) (qpa_cons (qpv 2) (qpa_cons qpe_int qpa_nil))))))) (qpss_one (qps_if (qpt_cmpR op_ltU (qpv 4) qpe_int (nomark _)) (qpss_one (qps_set (i := 3) sc_law.nd rfl (by first | exact Or.inl rfl | exact Or.inr rfl) (qpe_call G__law_doubled (hr.mono (by decide)) rfl T.m__law_doubled F__law_doubled.kp b__law_doubled .nil pass0 (qpa_cons (qpv 1) (qpa_cons (qpv 3) (qpa_cons qpe_int (qpa_cons (qpe_op op_pow qpe_int qpe_int) qpa_nil))))))) (qpss_one (qps_set (i := 3) sc_law.nd rfl (by first | exact Or.inl rfl | exact Or.inr rfl) (qpe_call G__law_drawn (hr.mono (by decide)) rfl T.m__law_drawn F__law_drawn.kp b__law_drawn .nil pass0 (qpa_cons (qpe_call G__law_box (hr.mono (by decide)) rfl T.m__law_box F__law_box.kp b__law_box .nil pass0 (qpa_cons (qpv 0) (qpa_cons qpe_int qpa_nil))) (qpa_cons (qpv 3) (qpa_cons (qpv 2) (qpa_cons (qpe_call G__law_take (hr.mono (by decide)) rfl T.m__law_take F__law_take.kp b__law_take .nil pass0 (qpa_cons (qpv 1) (qpa_cons qpe_int qpa_nil))) qpa_nil))))))))))))
    (qpss_cons (qps_set (i := 5) sc_law.nd rfl (by first | exact Or.inl rfl | exact Or.inr rfl) qpe_non)
    (qpss_mid (qps_if (qpt_cmpR (op_eqU hu) (qpv 4) qpe_int (nomark _)) (qpss_cons (qps_expr (qpe_bmL PySem.F.slot_list_append PySem.F.type_list_append mt_appendU (qpv 3) (qpa_cons (qpe_tup (qpa_cons qpe_str (qpa_cons qpe_int qpa_nil))) qpa_nil) mono_var))
    (qpss_one (qps_set (i := 5) sc_law.nd rfl (by first | exact Or.inl rfl | exact Or.inr rfl) (qpe_call G__law_shown (hr.mono (by decide)) rfl T.m__law_shown F__law_shown.kp b__law_shown .nil pass0 (qpa_cons (qpe_lst (qpa_cons (qpe_ix ix_U (qpv 3) qpe_int (fun _ _ => rfl)) (qpa_cons (qpe_tup (qpa_cons qpe_str (qpa_cons qpe_int qpa_nil))) qpa_nil))) qpa_nil))))) (qpss_one (qps_if (qpt_cmpR op_leU (qpe_ix ix_U (qpe_call G__law_sizes (hr.mono (by decide)) rfl T.m__law_sizes F__law_sizes.kp b__law_sizes .nil pass0 (qpa_cons (qpv 3) qpa_nil)) (qpe_un un_neg qpe_int) (fun _ _ => rfl)) qpe_int (nomark _)) (qpss_cons (qps_set (i := 6) sc_law.nd rfl (by first | exact Or.inl rfl | exact Or.inr rfl) (qpe_disp (qpps_cons (qpe_op op_sub (qpe_callB call_lenU (by rfl) T.n_len bt_len (qpa_cons (qpv 3) qpa_nil)) qpe_int) qpe_bl qpps_nil)))
    (qpss_cons (qps_for PassesOwn.never rfl (qpi_range3 rfl T.n_range (qpa_cons (qpe_op op_sub (qpe_callB call_lenU (by rfl) T.n_len bt_len (qpa_cons (qpv 3) qpa_nil)) qpe_int) (qpa_cons (qpe_un un_neg qpe_int) (qpa_cons (qpe_un un_neg qpe_int) qpa_nil)))) (qpg_name (i := 7) sc_law.nd rfl (by first | exact Or.inl rfl | exact Or.inr rfl)) (qpss_one (qps_for PassesOwn.never rfl (qpi_any (K := K) (qpe_compIf rfl (compOk_of (sc := defScope s_law) (N := ["_law_script", "_law_box_here", "_law_names_here", "_law_rows", "_law_kind", "_law_due", "_law_left", "_law_at", "_law_part"]) (Nc := ["_law_one", "_law_at", "_law_left"]) (js := [none, some 7, some 6]) (by decide +kernel)) (qpi_any (K := K) (qpe_slice (sl_VK (K := K) rfl) (qpe_ix ix_U (qpv 3) (qpv 7) (fun _ _ => rfl)) (qpo_some qpe_int) qpo_none) rfl) (fun _ _ _ _ => (qpg_name (i := 0) (show List.Nodup [("_law_one" : Str), ("_law_at" : Str), ("_law_left" : Str)] from by decide +kernel) rfl (by first | exact Or.inl rfl | exact Or.inr rfl))) (fun _ _ _ _ => (QW.pt (qpw_and (qpt_cmp (qpc_din hu1 (qpv 1) (qpv 2)) (by with_unfolding_all rfl)) (qpw_and1 (qpt_val (qpe_callB (call_isinstanceK (K := K) rfl) (by rfl) T.n_isinstance bt_isinstance (qpa_cons (qpv 0) (qpa_cons (qpe_bltn (v := .ty "int") rfl T.n_int bt_int rfl) qpa_nil)))))))) (fun _ _ _ _ => (qpv 0))) rfl) (qpg_name (i := 8) sc_law.nd rfl (by first | exact Or.inl rfl | exact Or.inr rfl)) (qpss_one (qps_dput hu1 (qpv 6) (qpv 8) qpe_bl rfl)))))
    (qpss_one (qps_set (i := 5) sc_law.nd rfl (by first | exact Or.inl rfl | exact Or.inr rfl) (qpe_call G__law_shown (hr.mono (by decide)) rfl T.m__law_shown F__law_shown.kp b__law_shown .nil pass0 (qpa_cons (qpe_comp rfl (compOk_of (sc := defScope s_law) (N := ["_law_script", "_law_box_here", "_law_names_here", "_law_rows", "_law_kind", "_law_due", "_law_left", "_law_at", "_law_part"]) (Nc := ["_law_at", "_law_rows", "_law_left"]) (js := [none, some 3, some 6]) (by decide +kernel)) (qpi_range1 rfl T.n_range (qpa_cons (qpe_callB call_lenU (by rfl) T.n_len bt_len (qpa_cons (qpv 3) qpa_nil)) qpa_nil)) (fun _ _ _ _ => (qpg_name (i := 0) (show List.Nodup [("_law_at" : Str), ("_law_rows" : Str), ("_law_left" : Str)] from by decide +kernel) rfl (by first | exact Or.inl rfl | exact Or.inr rfl))) (fun _ _ _ _ => (qpe_ix ix_U (qpe_lst (qpa_cons (qpe_tup (qpa_cons qpe_str qpa_nil)) (qpa_cons (qpe_ix ix_U (qpv 1) (qpv 0) (fun _ _ => rfl)) qpa_nil))) (qpe_callTy call_intU (by rfl) T.n_int bt_int (qpa_cons (qpe_cmp (qpc_din hu1 (qpv 0) (qpv 2)) (by with_unfolding_all rfl)) qpa_nil)) (fun _ _ => rfl)))) qpa_nil)))))) qpss_nil)))
    (qpss_one (qps_ret (qpe_and (qpe_cmpR (op_eqU hu) (qpe_call G__law_heard (hr.mono (by decide)) rfl T.m__law_heard F__law_heard.kp b__law_heard .nil pass0 (qpa_cons (qpe_callTy call_tupleU (by rfl) T.n_tuple bt_tuple (qpa_cons (qpv 3) qpa_nil)) qpa_nil)) (qpv 5) (nomark _)) (qpe_one (qpe_or (qpe_cmpR (op_eqU hu) (qpv 4) qpe_int (nomark _)) (qpe_one (qpe_cmpR (op_eqU hu) (qpe_call G__law_heard (hr.mono (by decide)) rfl T.m__law_heard F__law_heard.kp b__law_heard .nil pass0 (qpa_cons (qpe_callTy call_tupleU (by rfl) T.n_tuple bt_tuple (qpa_cons (qpv 3) qpa_nil)) qpa_nil)) (qpv 5) (nomark _)))))))))))))))), ?_⟩
    simp!
    refine ⟨a, 0, ns, rfl, hS, by omega, by omega, fun b o hb ho => ?_⟩
    refine ⟨b, o, rfl, upd_same, ho, fun p zs o1 H1 h3 nm hp0 hp ho1 hb1 k1 => ?_⟩
    have nbp : b ≠ p := ne_of_none upd_same hp0
    refine ⟨b, p, zs, o1, rfl, hb1, ho1, hp, h3, nm, nbp, fun t r o2 H2 hr0 hl0 ht ho2 hb2 k2 => ⟨by omega, fun q hq => ?_⟩⟩
    have hp2 := k2.old _ _ hp (by simpa using nbp.symm)
    have kk : Kp [b] (upd H b o) H2 := k1.trans k2
    have inb : ∀ x ∈ [b], x ∈ ([] : List Addr) ∨ H x = none := fun x hx => .inr (by cases List.mem_singleton.mp hx; exact hb)
    have kH : Kp [] H H2 := ((Kp.refl [] H).new hb).trans' kk inb
    have nbq : b ≠ q := ne_of_none hb2 hq
    have npq : p ≠ q := ne_of_none hp2 hq
    refine ⟨b, 12, o2, rfl, by rw [upd_ne nbq]; exact hb2, ho2, by omega, by omega, fun kd o3 kd0 kd1 ho3 => ?_⟩
    have F3 : FR (upd (upd H2 q (.lst [V.ref t])) b o3) b q [r] (upd (upd H2 q (.lst [V.ref t])) b o3) := by
      refine ⟨⟨o3, upd_same, ho3⟩, ⟨[.ref t], by rw [upd_ne nbq.symm, upd_same], .cons ⟨t, rfl, ?_⟩ .nil⟩, fun k x e => ?_, Kp.refl _ _⟩
      · have n1 : t ≠ q := ne_of_none ht hq
        have n2 : t ≠ b := fun z => by rw [z, hb2] at ht; obtain ⟨_, _, e, _⟩ := ho2; rw [e] at ht; cases ht
        rw [upd_ne n2, upd_ne n1]; exact ht
      · cases k with
        | zero => simp at e; subst e; exact hr0
        | succ k => simp at e
    have hp3 : upd (upd H2 q (.lst [V.ref t])) b o3 p = some (.lst (zs.map V.str)) := by rw [upd_ne nbp.symm, upd_ne npq]; exact hp2
    have hS3 : SqL K (upd (upd H2 q (.lst [V.ref t])) b o3) a (ns.map V.int) := by
      obtain ⟨xs2, rfl⟩ := id ho2.lst
      exact ((kH.new hq).set (by rw [upd_ne nbq]; exact hb2) (.inr hb)).seq (by simp) hS
    have l0 : (lastT [r]).length ≤ 20 := by
      have := lastT_snoc [] r
      rw [List.nil_append] at this
      rw [this]; exact hl0
    generalize upd (upd H2 q (.lst [V.ref t])) b o3 = H3 at F3 hp3 hS3 ⊢
    refine ⟨fun σ H' => ∃ l, σ = [some (.ref a), some (.ref b), some (.ref p), some (.ref q), some (.int kd), none, none, none, none] ∧ RQ H' q (r :: l), ?_, ?_⟩
    · simp!
      have full : ∀ (G : Nat) (Q' : VK), 50011 ≤ G → G ≤ 100001 → (∀ l H', RQ H' q (r :: l) → Q' (.ref q) H') → spDb [.ref b, .ref q, .int 59, .int 50000] H3 (fun x H1 => spFi [.ref b, x, .ref p, .int (G : Int)] H1 Q' E0) E0 := by
        intro G Q' G0 G1 hQ
        refine ⟨b, q, 59, 50000, [r], rfl, F3, nbq, by simp, by simp, fun l H4 F4 hl hb4 => ?_⟩
        have h4 := hb4 (by omega)
        refine ⟨b, q, p, G, zs, [r] ++ l, rfl, ⟨F4.bx, F4.rw, F4.ok, Kp.refl _ _⟩, nbq, F4.kp.old _ _ hp3 (by simp [nbp.symm, npq]), nbp.symm, npq, h3, nm, by simp, by simp; omega, G1, by omega, fun l' H5 F5 h5 _ => ?_⟩
        exact hQ (l ++ l') H5 (F5.rq (by simp) (by omega))
      refine ite2 (fun h0 => ?_) (fun h0 => ite2 (fun h1 => ?_) (fun h1 => ite2 (fun h2 => ?_) (fun h2 => ?_)))
      · exact full 100000 _ (by omega) (by omega) fun l H' R => ⟨rfl, l, R⟩
      · exact full 100001 _ (by omega) (by omega) fun l H' R => ⟨rfl, l, R⟩
      · refine ⟨⟨by decide, by decide, by decide⟩, b, q, 58, _, [r], rfl, F3, nbq, by simp, by simp, fun l H4 F4 hl _ => ⟨rfl, l, F4.rq (by simp) (by simp; omega)⟩⟩
      · refine ⟨a, 1, ns, rfl, hS3, by omega, by omega, fun b2 o4 hb4 ho4 => ?_⟩
        obtain ⟨o3', hb3, ho3'⟩ := F3.bx
        have nb2 : b ≠ b2 := ne_of_none hb3 hb4
        refine ⟨b, 50, o3', rfl, by rw [upd_ne nb2]; exact hb3, ho3', by omega, by omega, fun d o5 d0 d1 ho5 => ?_⟩
        obtain ⟨m, rfl⟩ : ∃ m : Nat, d = (m : Int) := ⟨d.toNat, by omega⟩
        have F5 := (F3.new (x := o4) hb4).box nbq ho5
        have nq2 : q ≠ b2 := by
          obtain ⟨us, h, _⟩ := F3.rw
          exact ne_of_none h hb4
        have hp5 : upd (upd H3 b2 o4) b o5 p = some (.lst (zs.map V.str)) := F5.kp.old _ _ hp3 (by simp [nbp.symm, npq])
        have np2 : p ≠ b2 := ne_of_none hp3 hb4
        have hb5 : upd (upd H3 b2 o4) b o5 b2 = some o4 := by rw [upd_ne nb2.symm, upd_same]
        refine ⟨b2, q, p, m, zs, [r], rfl, ⟨⟨o4, hb5, ho4⟩, F5.rw, F5.ok, Kp.refl _ _⟩, nq2.symm, hp5, np2, npq, h3, nm, by simp, by simp; omega, fun l H6 F6 hl => ⟨rfl, l, F6.rq (by simp) (by simp; omega)⟩⟩
    · rintro σ H4 ⟨l, rfl, R4⟩
      simp!
      obtain ⟨us4, hq4, ra4⟩ := R4.rw
      have lu4 : us4.length = (r :: l).length := ra4.len
      have few4 := R4.few
      refine ⟨fun σ H' => ∃ (rs' : List RS) (us : List V) (v6 v7 v8 : Option V), σ = [some (.ref a), some (.ref b), some (.ref p), some (.ref q), some (.int kd), some (heardV rs'), v6, v7, v8] ∧ H' q = some (.lst us) ∧ Say H' us rs', ?_, ?_⟩
      · simp! [hq4]
        refine ite2 (fun h6 => ?_) (fun h6 => ?_)
        · obtain ⟨v0, hv0⟩ : ∃ v, us4[0]? = some v := ⟨us4[0]'(by rw [lu4]; simp), by simp⟩
          obtain ⟨r', a0, er, rfl, ha0⟩ := ra4.get hv0
          obtain rfl : r = r' := by simpa using er
          refine ⟨by omega, fun t1 ht1 => ?_⟩
          have n1 : q ≠ t1 := ne_of_none hq4 ht1
          have hq5 : upd H4 t1 (.tup [V.str (Str.ofString "not"), V.int 0]) q = some (.lst us4) := by rw [upd_ne n1]; exact hq4
          refine ⟨us4, by rw [hq5]; rfl, by omega, .ref a0, atI_of (by decide) (by rw [show (0 : Int).toNat = 0 from rfl, List.getElem?_append_left (by rw [lu4]; simp)]; exact hv0), by omega, fun t2 ht2 => ⟨by omega, fun t3 ht3 => ?_⟩⟩
          have k6 : Kp [q] H4 (upd (upd H4 t1 (.tup [V.str (Str.ofString "not"), V.int 0])) q (.lst (us4 ++ [V.ref t1]))) := ((Kp.refl [q] H4).new ht1).set hq5 (.inl (by simp))
          have g1 : upd (upd H4 t1 (.tup [V.str (Str.ofString "not"), V.int 0])) q (.lst (us4 ++ [V.ref t1])) t1 = some (.tup (rowV (.no 0))) := by rw [upd_ne n1.symm, upd_same]; rfl
          have gq : upd (upd H4 t1 (.tup [V.str (Str.ofString "not"), V.int 0])) q (.lst (us4 ++ [V.ref t1])) q = some (.lst (us4 ++ [V.ref t1])) := upd_same
          generalize upd (upd H4 t1 (.tup [V.str (Str.ofString "not"), V.int 0])) q (.lst (us4 ++ [V.ref t1])) = H6 at k6 g1 gq ht2 ht3 ⊢
          have k8 : Kp [] H6 (upd (upd H6 t2 (.tup [V.str (Str.ofString "not"), V.int 0])) t3 (.lst [V.ref a0, V.ref t2])) := ((Kp.refl [] H6).new ht2).new ht3
          have g2 : upd (upd H6 t2 (.tup [V.str (Str.ofString "not"), V.int 0])) t3 (.lst [V.ref a0, V.ref t2]) t2 = some (.tup (rowV (.no 0))) := by rw [upd_ne (ne_of_none upd_same ht3), upd_same]; rfl
          have g3 : upd (upd H6 t2 (.tup [V.str (Str.ofString "not"), V.int 0])) t3 (.lst [V.ref a0, V.ref t2]) t3 = some (.lst [V.ref a0, V.ref t2]) := upd_same
          generalize upd (upd H6 t2 (.tup [V.str (Str.ofString "not"), V.int 0])) t3 (.lst [V.ref a0, V.ref t2]) = H8 at k8 g2 g3 ⊢
          have et : txts [r] = [tw [] r] := rfl
          have e0 : tx (txts [r]) 0 = tw [] r := rfl
          have e1 : lastT [r, .no 0] = tw [tw [] r] (.no 0) := lastT_snoc [r] (.no 0)
          have e2 : lastT ((r :: l) ++ [.no 0]) = lastT [r, .no 0] := by
            rw [lastT_snoc, e1]
            have := tx_take (rs := r :: l) 1 0 (by omega) (by simp)
            simp only [tw]
            rw [← this]
            rfl
          have b1 : (lastT [r, .no 0]).length ≤ 100 := by
            rw [e1]
            simp only [tw, app_len, l_no]
            show 4 + (tw [] r).length ≤ 100
            omega
          have okl : okR [r, .no 0] := fun k x e => by
            match k with
            | 0 => simp at e; subst e; exact hr0
            | 1 => simp at e; subst e; exact Nat.zero_lt_one
            | k + 2 => simp at e
          have bd : ∀ i, (tx (txts [r, .no 0]) i).length ≤ 100000 := fun i => by
            match i with
            | 0 => show (tw [] r).length ≤ _; omega
            | 1 => have : tx (txts [r, .no 0]) 1 = lastT [r, .no 0] := rfl
                   rw [this]; omega
            | i + 2 => rw [tx_ge (by rw [txts_len]; simp)]; exact Nat.zero_le _
          refine ⟨t3, [V.ref a0, V.ref t2], [r, .no 0], rfl, g3, .cons ⟨a0, rfl, k8.tup _ _ (k6.tup _ _ ha0)⟩ (.cons ⟨t2, rfl, g2⟩ .nil), okl, by simp, by simp, bd, fun H9 k9 => ?_⟩
          refine ⟨(r :: l) ++ [.no 0], us4 ++ [V.ref t1], _, _, _, ⟨?_, rfl, rfl, rfl⟩, (k8.trans k9).old _ _ gq (by simp), ⟨Paired.snoc ((ra4.kp k6).kp (k8.trans k9)) ⟨t1, rfl, (k8.trans k9).tup _ _ g1⟩, by simp, by simp at few4 ⊢; omega, R4.ok.snoc (r := .no 0) (show 0 < (r :: l).length by simp)⟩⟩
          unfold heardV
          rw [e2, if_pos (by omega)]
        · refine ⟨q, us4, r :: l, rfl, hq4, ra4, R4.ok, by omega, fun z H5 hz hz5 k5 => ?_⟩
          have R5 := R4.kp k5
          have hq5 := k5.old _ _ hq4 (by simp)
          have ra5 := ra4.kp k5
          simp! [hz5, at_last (rs := r :: l) (by simp)]
          refine ite2 (fun hs => ?_) (fun hs => ?_)
          · have okr := R4.ok
            have hpos : 0 < (r :: l).length := by simp
            generalize r :: l = rs at hs okr hpos lu4 few4 ra5
            intro d hd
            have nqd : q ≠ d := ne_of_none hq5 hd
            have qd : ∀ o, upd H5 d o q = some (.lst us4) := fun o => by rw [upd_ne nqd]; exact hq5
            have e1 : (us4.length : Int) - 1 = ((rs.length - 1 : Nat) : Int) := by omega
            refine ⟨us4, by rw [qd]; rfl, [(.inl ((rs.length - 1 : Nat) : Int), .bl true)], by rw [e1]; rfl, by simp, us4, by rw [qd]; rfl, rs.length, by omega, by omega, ?_⟩
            refine loop_down (fun i σ H' => ∃ (kvs : List (Key × V)) (v7 v8 : Option V), σ = [some (.ref a), some (.ref b), some (.ref p), some (.ref q), some (.int kd), some .non, some (.ref d), v7, v8] ∧ LI rs kvs i ∧ H' d = some (.dK kvs) ∧ Kp [] H5 H') ?_ ?_ ?_
            · exact ⟨_, none, none, rfl, LI.zero hpos (by omega), upd_same, (Kp.refl [] H5).new hd⟩
            · rintro i σ H6 hi ⟨kvs, v7, v8, rfl, L6, hd6, k6⟩
              have hq6 := k6.old _ _ hq5 (by simp)
              obtain ⟨a1, ha1, hr1⟩ := (ra5.kp k6).getN (k := rs.length - 1 - i) (by omega)
              have e6 : (rs.length : Int) - 1 - (i : Int) = ((rs.length - 1 - i : Nat) : Int) := by omega
              rw [e6]
              simp! [hq6]
              refine ⟨_, atI_nat ha1, rSlV.tup hr1 fun t7 H7 ht7 k7 => ?_⟩
              simp! [ht7]
              intro D8 hD8
              have hd7 := k7.old _ _ hd6 (by simp)
              have ndD : d ≠ D8 := ne_of_none hd7 hD8
              have dD : ∀ o, upd H7 D8 o d = some (.dK kvs) := fun o => by rw [upd_ne ndD]; exact hd7
              have hz : (cutV (rowV (rs.getD (rs.length - 1 - i) .yes)) (some 1) none).length ≤ sizeLine := by
                have : (rowV (rs.getD (rs.length - 1 - i) .yes)).length ≤ 3 := by cases rs.getD (rs.length - 1 - i) .yes <;> simp [rowV]
                have : (cutV (rowV (rs.getD (rs.length - 1 - i) .yes)) (some 1) none).length ≤ 3 := by
                  unfold cutV
                  rw [List.length_take, List.length_drop]; omega
                omega
              refine compIf_tup (fun v => isIn kvs (rs.length - 1 - i) && isI v) id ht7 hD8 hz (fun x hx l' Q' hq' => ?_) (fun x hx _ l' Q' hq' => ?_) fun v => ?_
              · simp!
                refine ⟨_, DGet.k (k := .inl ((rs.length - 1 - i : Nat) : Int)) (dD _), ?_⟩
                replace hq' : Q' (isIn kvs (rs.length - 1 - i) && isI x) _ := hq'
                refine ite2 (fun h => ?_) (fun h => ?_)
                · rw [show isIn kvs (rs.length - 1 - i) = true from h, Bool.true_and] at hq'
                  have hx2 : x ∈ rowV (rs.getD (rs.length - 1 - i) .yes) := List.mem_of_mem_drop (List.mem_of_mem_take hx)
                  have kinds : (∃ z, x = .str z) ∨ ∃ z, x = .int z := by
                    generalize rs.getD (rs.length - 1 - i) .yes = r' at hx2
                    cases r' <;> (simp only [rowV, List.mem_cons, List.not_mem_nil, or_false] at hx2) <;> first
                      | exact .inl ⟨_, hx2⟩
                      | (rcases hx2 with h | h <;> first | exact .inl ⟨_, h⟩ | exact .inr ⟨_, h⟩)
                      | (rcases hx2 with h | h | h <;> first | exact .inl ⟨_, h⟩ | exact .inr ⟨_, h⟩)
                  rcases kinds with ⟨z, rfl⟩ | ⟨z, rfl⟩
                  · exact ⟨_, TyOf.str _, false, T.isi, hq'⟩
                  · exact ⟨_, TyOf.int _, true, T.iii, hq'⟩
                · rw [show isIn kvs (rs.length - 1 - i) = false from by simpa [isIn] using h, Bool.false_and] at hq'
                  exact hq'
              · simp!
                exact hq'
              have ec : (List.filter (fun v => isIn kvs (rs.length - 1 - i) && isI v) (cutV (rowV (rs.getD (rs.length - 1 - i) .yes)) (some 1) none)).map id = (if isIn kvs (rs.length - 1 - i) = true then parts (rs.getD (rs.length - 1 - i) .yes) else []).map nI' := by
                have e0 : cutV (rowV (rs.getD (rs.length - 1 - i) .yes)) (some 1) none = (rowV (rs.getD (rs.length - 1 - i) .yes)).drop 1 := by cases rs.getD (rs.length - 1 - i) .yes <;> rfl
                rw [e0, List.map_id]
                cases hI : isIn kvs (rs.length - 1 - i) with
                | true =>
                  simp only [Bool.true_and, if_true]
                  exact row_parts _
                | false => simp
              have Ls := L6.step okr hi
              rw [ec]
              have lp : (if isIn kvs (rs.length - 1 - i) = true then parts (rs.getD (rs.length - 1 - i) .yes) else []).length ≤ 2 := by
                split
                · exact parts_two _
                · simp
              generalize (if isIn kvs (rs.length - 1 - i) = true then parts (rs.getD (rs.length - 1 - i) .yes) else []) = ps at Ls lp ⊢
              simp!
              have hd0 : H5 d = none := hd
              have hD0 : H5 D8 = none := (k6.trans k7).free hD8
              refine loop_list (xs := ps.map nI') (fun j σ H' => ∃ (v8 : Option V), σ = [some (.ref a), some (.ref b), some (.ref p), some (.ref q), some (.int kd), some .non, some (.ref d), some (.int ((rs.length - 1 - i : Nat) : Int)), v8] ∧ H' d = some (.dK (putAll kvs (ps.take j))) ∧ H' D8 = some (.lst (ps.map nI')) ∧ Kp [] H5 H') ?_ ?_ ?_ ?_
              · exact ⟨v8, rfl, dD _, upd_same, (k6.trans k7).new hD8⟩
              · rintro j σ H9 _ ⟨v8', rfl, _, hD9, _⟩
                exact hD9
              · rintro j x σ H9 hx ⟨v8', rfl, hd9, hD9, k9⟩
                rw [List.getElem?_map] at hx
                obtain ⟨m, hm, rfl⟩ := Option.map_eq_some_iff.mp hx
                simp!
                have lk : (putAll kvs (ps.take j)).length < sizeLine := by
                  have h1 := putAll_len (ps.take j) kvs
                  have h2 := L6.len
                  have h3 : (ps.take j).length ≤ 2 := by rw [List.length_take]; omega
                  omega
                refine ⟨_, DPut.k (k := .inl (m : Int)) hd9 lk, ?_, by rw [upd_ne ndD.symm]; exact hD9, kp_setK k9 hd9 (.inr hd0)⟩
                rw [upd_same, List.take_succ, hm]
                show _ = some (HO.dK (putAll kvs (ps.take j ++ [m])))
                rw [putAll_snoc]
              · rintro σ H9 ⟨v8', rfl, hd9, hD9, k9⟩
                rw [List.length_map, List.take_length] at hd9
                exact ⟨_, _, _, rfl, Ls, hd9, k9⟩
            · rintro σ H6 ⟨kvs, v7, v8, rfl, L6, hd6, k6⟩
              have hq6 := k6.old _ _ hq5 (by simp)
              simp! [hq6]
              refine ⟨by omega, by omega, fun D7 hD7 => ?_⟩
              rw [Int.toNat_natCast]
              refine comp_rangeK (fun i v H' => ∃ t, v = .ref t ∧ H' t = some (.tup (rowV (if isIn kvs i = true then rs.getD i .yes else .yes)))) (fun i S x Ha Hb kk ⟨t, e, h⟩ => ⟨t, e, kk.tup _ _ h⟩) hD7 (by omega) (fun i H8 Q' hi k8 hQ => ?_) fun v xs H8 k8 hD8 pr => ?_
              · have k58 := k6.trans k8
                have hq8 := k58.old _ _ hq5 (by simp)
                have hd8 := k8.old _ _ hd6 (by simp)
                obtain ⟨a1, ha1, hr1⟩ := (ra5.kp k58).getN (k := i) (by omega)
                simp! [Int.zero_add]
                refine ⟨by omega, fun t9 ht9 => ⟨us4, by rw [upd_ne (ne_of_none hq8 ht9), hq8]; rfl, _, atI_nat ha1, by omega, fun t10 ht10 => ?_⟩⟩
                have k10 : Kp [] H8 (upd (upd H8 t9 (.tup [V.str (Str.ofString "yes")])) t10 (.lst [V.ref t9, V.ref a1])) := ((Kp.refl [] H8).new ht9).new ht10
                have g9 : upd (upd H8 t9 (.tup [V.str (Str.ofString "yes")])) t10 (.lst [V.ref t9, V.ref a1]) t9 = some (.tup (rowV .yes)) := by rw [upd_ne (ne_of_none upd_same ht10), upd_same]; rfl
                refine ⟨_, DGet.k (k := .inl (i : Int)) (k10.old _ _ hd8 (by simp)), ?_⟩
                by_cases hI : isIn kvs i = true
                · rw [if_pos (show (valV kvs (.inl (i : Int))).isSome = true from hI)]
                  exact ⟨_, atI_of (by decide) rfl, hQ _ _ k10 ⟨a1, rfl, by rw [if_pos hI]; exact k10.tup _ _ hr1⟩⟩
                · rw [if_neg (show ¬ (valV kvs (.inl (i : Int))).isSome = true from hI)]
                  exact ⟨_, atI_of (by decide) rfl, hQ _ _ k10 ⟨t9, rfl, by rw [if_neg hI]; exact g9⟩⟩
              · have lx : xs.length = rs.length := by have := Paired.length pr; simpa [lu4] using this.symm
                have ra8 : RowsAt H8 xs (leftR rs kvs) := by
                  unfold leftR
                  rw [← lu4]
                  exact pair_map pr
                refine ⟨D7, xs, leftR rs kvs, rfl, hD8, ra8, leftR_ok okr kvs, by rw [leftR_len]; exact hpos, by rw [leftR_len]; omega, leftR_bd okr L6, fun H9 k9 => ?_⟩
                have k59 := (k6.trans k8).trans k9
                refine ⟨rs, us4, _, _, _, ⟨?_, rfl, rfl, rfl⟩, k59.old _ _ hq5 (by simp), ⟨ra5.kp k59, hpos, by omega, okr⟩⟩
                unfold heardV
                rw [leftR_last okr L6, if_pos (by omega)]
          · refine ⟨r :: l, us4, _, _, _, ⟨?_, rfl, rfl, rfl⟩, hq5, ⟨ra5, by simp, by omega, R4.ok⟩⟩
            unfold heardV
            rw [if_neg (by omega)]
      · rintro σ H5 ⟨rs', us, v6, v7, v8, rfl, hq5, S5⟩
        simp!
        refine rTupleU_lst hq5 fun t5 ht5 => ?_
        have k5 : Kp [] H5 (upd H5 t5 (.tup us)) := (Kp.refl [] H5).new ht5
        refine ⟨t5, us, rs', rfl, upd_same, ⟨S5.at_.kp k5, S5.pos, S5.few, S5.ok⟩, fun H6 k6 => ?_⟩
        have eqv : ∀ (H' : Hp) (Q' : VK), Q' (.bl true) H' → rEqU (heardV rs') (heardV rs') H' Q' := by
          intro H' Q' h
          unfold heardV
          split
          · rw [rEqU_str, decide_eq_true rfl]; exact h
          · exact ⟨rfl, by rw [decide_eq_true rfl]; exact h⟩
        refine eqv _ _ ?_
        simp!
        refine ite2 (fun _ => k H6) (fun _ => ?_)
        have hq6 : H6 q = some (.lst us) := (k5.trans k6).old _ _ hq5 (by simp)
        refine rTupleU_lst hq6 fun t7 ht7 => ?_
        have k7 : Kp [] H6 (upd H6 t7 (.tup us)) := (Kp.refl [] H6).new ht7
        exact ⟨t7, us, rs', rfl, upd_same, ⟨S5.at_.kp ((k5.trans k6).trans k7), S5.pos, S5.few, S5.ok⟩, fun H8 k8 => eqv _ _ (k H8)⟩
end
theorem us1 {C : List Value → Prop} (h : ∀ v0 : Value, C [v0]) (us : List Value) (e : us.length = 1) : C us :=
  match us, e with | [v0], _ => h v0
theorem us2 {C : List Value → Prop} (h : ∀ v0 v1 : Value, C [v0, v1]) (us : List Value) (e : us.length = 2) : C us :=
  match us, e with | [v0, v1], _ => h v0 v1
theorem us4 {C : List Value → Prop} (h : ∀ v0 v1 v2 v3 : Value, C [v0, v1, v2, v3]) (us : List Value) (e : us.length = 4) : C us :=
  match us, e with | [v0, v1, v2, v3], _ => h v0 v1 v2 v3
theorem all_mk {l : PySem.W.OpenLaw} {w : World} {K : PySem.W.Frag} {h : Heap} {mg : Str → Option Value} {fa f1 f2 f3 f4 f5 f6 f7 f8 f9 f10 f11 f12 f13 f14 f15 f16 f17 : Addr} (X : K.In h) (G : h.Ns mainGlobals mg) (hfa : mg "law" = some (.ref fa))
    {od1 od2 od3 od4 od5 od6 od7 od8 od9 od10 od11 od12 od13 od14 od15 od16 od17 an1 an2 an3 an4 an5 an6 an7 an8 an9 an10 an11 an12 an13 an14 an15 an16 an17 : Option Addr} {sl1 sl2 sl3 sl4 sl5 sl6 sl7 sl8 sl9 sl10 sl11 sl12 sl13 sl14 sl15 sl16 sl17 : Array (Option Value)} {oc1 kV1 dc1 pm1 cd1 ct1 oc2 kV2 dc2 pm2 cd2 ct2 oc3 kV3 dc3 pm3 cd3 ct3 oc4 kV4 dc4 pm4 cd4 ct4 oc5 kV5 dc5 pm5 cd5 ct5 oc6 kV6 dc6 pm6 cd6 ct6 oc7 kV7 dc7 pm7 cd7 ct7 oc8 kV8 dc8 pm8 cd8 ct8 oc9 kV9 dc9 pm9 cd9 ct9 oc10 kV10 dc10 pm10 cd10 ct10 oc11 kV11 dc11 pm11 cd11 ct11 oc12 kV12 dc12 pm12 cd12 ct12 oc13 kV13 dc13 pm13 cd13 ct13 oc14 kV14 dc14 pm14 cd14 ct14 oc15 kV15 dc15 pm15 cd15 ct15 oc16 kV16 dc16 pm16 cd16 ct16 oc17 kV17 dc17 pm17 cd17 ct17 : Value}
    {D : Addr} {tkM : Tok} {ND : Addr} {nmD qD : Str} {bsD subD : List Value} {snD : List Str} {abD : Bool} {colD : Option Bool} {ddD : Option Addr} {noD : Value} {kgD khD kiD kjD kkD : Option Value} {ndD : Option Addr} {esD : Array DictEntry} {enD : Nat} {nlD : Array (Option Value)} {C0 N0 : Addr} {nm0 q0 : Str} {bs0 sub0 : List Value} {sn0 : List Str} {ab0 : Bool} {col0 : Option Bool} {dd0 : Option Addr} {ka0 kb0 kc0 kd0 kf0 : Option Value} {no0 : Value} {nd0 : Option Addr} {es0 : Array DictEntry} {en0 : Nat} {nl0 : Array (Option Value)} {C1 N1 : Addr} {nm1 q1 : Str} {bs1 sub1 : List Value} {sn1 : List Str} {ab1 : Bool} {col1 : Option Bool} {dd1 : Option Addr} {ka1 kb1 kc1 kd1 kf1 : Option Value}
    (a1 : PySem.W.nsIn K mainGlobals "written" = some (some (.ref f1))) (l1 : K.lookup f1 = some ⟨oc1, od1, .func (PySem.W.fnOf "written" "written" (defArgs s_written) (defBody s_written) (defScope s_written) .none kV1 dc1 pm1 an1 cd1 ct1), sl1⟩) (c1 : PySem.W.codeIn K cd1 "written" = true) (k1 : PySem.W.keepIn K (.ref f1) = true)
    (a2 : PySem.W.nsIn K mainGlobals "signs_of" = some (some (.ref f2))) (l2 : K.lookup f2 = some ⟨oc2, od2, .func (PySem.W.fnOf "signs_of" "signs_of" (defArgs s_signs_of) (defBody s_signs_of) (defScope s_signs_of) .none kV2 dc2 pm2 an2 cd2 ct2), sl2⟩) (c2 : PySem.W.codeIn K cd2 "signs_of" = true) (k2 : PySem.W.keepIn K (.ref f2) = true)
    (a3 : PySem.W.nsIn K mainGlobals "show_saying" = some (some (.ref f3))) (l3 : K.lookup f3 = some ⟨oc3, od3, .func (PySem.W.fnOf "show_saying" "show_saying" (defArgs s_show_saying) (defBody s_show_saying) (defScope s_show_saying) .none kV3 dc3 pm3 an3 cd3 ct3), sl3⟩) (c3 : PySem.W.codeIn K cd3 "show_saying" = true) (k3 : PySem.W.keepIn K (.ref f3) = true)
    (a4 : PySem.W.nsIn K mainGlobals "pieces_of" = some (some (.ref f4))) (l4 : K.lookup f4 = some ⟨oc4, od4, .func (PySem.W.fnOf "pieces_of" "pieces_of" (defArgs s_pieces_of) (defBody s_pieces_of) (defScope s_pieces_of) .none kV4 dc4 pm4 an4 cd4 ct4), sl4⟩) (c4 : PySem.W.codeIn K cd4 "pieces_of" = true) (k4 : PySem.W.keepIn K (.ref f4) = true)
    (a5 : PySem.W.nsIn K mainGlobals "_law_box" = some (some (.ref f5))) (l5 : K.lookup f5 = some ⟨oc5, od5, .func (PySem.W.fnOf "_law_box" "_law_box" (defArgs s__law_box) (defBody s__law_box) (defScope s__law_box) .none kV5 dc5 pm5 an5 cd5 ct5), sl5⟩) (c5 : PySem.W.codeIn K cd5 "_law_box" = true) (k5 : PySem.W.keepIn K (.ref f5) = true)
    (a6 : PySem.W.nsIn K mainGlobals "_law_take" = some (some (.ref f6))) (l6 : K.lookup f6 = some ⟨oc6, od6, .func (PySem.W.fnOf "_law_take" "_law_take" (defArgs s__law_take) (defBody s__law_take) (defScope s__law_take) .none kV6 dc6 pm6 an6 cd6 ct6), sl6⟩) (c6 : PySem.W.codeIn K cd6 "_law_take" = true) (k6 : PySem.W.keepIn K (.ref f6) = true)
    (a7 : PySem.W.nsIn K mainGlobals "_law_row_at" = some (some (.ref f7))) (l7 : K.lookup f7 = some ⟨oc7, od7, .func (PySem.W.fnOf "_law_row_at" "_law_row_at" (defArgs s__law_row_at) (defBody s__law_row_at) (defScope s__law_row_at) .none kV7 dc7 pm7 an7 cd7 ct7), sl7⟩) (c7 : PySem.W.codeIn K cd7 "_law_row_at" = true) (k7 : PySem.W.keepIn K (.ref f7) = true)
    (a8 : PySem.W.nsIn K mainGlobals "_law_shown" = some (some (.ref f8))) (l8 : K.lookup f8 = some ⟨oc8, od8, .func (PySem.W.fnOf "_law_shown" "_law_shown" (defArgs s__law_shown) (defBody s__law_shown) (defScope s__law_shown) .none kV8 dc8 pm8 an8 cd8 ct8), sl8⟩) (c8 : PySem.W.codeIn K cd8 "_law_shown" = true) (k8 : PySem.W.keepIn K (.ref f8) = true)
    (a9 : PySem.W.nsIn K mainGlobals "_law_names" = some (some (.ref f9))) (l9 : K.lookup f9 = some ⟨oc9, od9, .func (PySem.W.fnOf "_law_names" "_law_names" (defArgs s__law_names) (defBody s__law_names) (defScope s__law_names) .none kV9 dc9 pm9 an9 cd9 ct9), sl9⟩) (c9 : PySem.W.codeIn K cd9 "_law_names" = true) (k9 : PySem.W.keepIn K (.ref f9) = true)
    (a10 : PySem.W.nsIn K mainGlobals "_law_first_row" = some (some (.ref f10))) (l10 : K.lookup f10 = some ⟨oc10, od10, .func (PySem.W.fnOf "_law_first_row" "_law_first_row" (defArgs s__law_first_row) (defBody s__law_first_row) (defScope s__law_first_row) .none kV10 dc10 pm10 an10 cd10 ct10), sl10⟩) (c10 : PySem.W.codeIn K cd10 "_law_first_row" = true) (k10 : PySem.W.keepIn K (.ref f10) = true)
    (a11 : PySem.W.nsIn K mainGlobals "_law_sizes" = some (some (.ref f11))) (l11 : K.lookup f11 = some ⟨oc11, od11, .func (PySem.W.fnOf "_law_sizes" "_law_sizes" (defArgs s__law_sizes) (defBody s__law_sizes) (defScope s__law_sizes) .none kV11 dc11 pm11 an11 cd11 ct11), sl11⟩) (c11 : PySem.W.codeIn K cd11 "_law_sizes" = true) (k11 : PySem.W.keepIn K (.ref f11) = true)
    (a12 : PySem.W.nsIn K mainGlobals "_law_can_fill" = some (some (.ref f12))) (l12 : K.lookup f12 = some ⟨oc12, od12, .func (PySem.W.fnOf "_law_can_fill" "_law_can_fill" (defArgs s__law_can_fill) (defBody s__law_can_fill) (defScope s__law_can_fill) .none kV12 dc12 pm12 an12 cd12 ct12), sl12⟩) (c12 : PySem.W.codeIn K cd12 "_law_can_fill" = true) (k12 : PySem.W.keepIn K (.ref f12) = true)
    (a13 : PySem.W.nsIn K mainGlobals "_law_filled" = some (some (.ref f13))) (l13 : K.lookup f13 = some ⟨oc13, od13, .func (PySem.W.fnOf "_law_filled" "_law_filled" (defArgs s__law_filled) (defBody s__law_filled) (defScope s__law_filled) .none kV13 dc13 pm13 an13 cd13 ct13), sl13⟩) (c13 : PySem.W.codeIn K cd13 "_law_filled" = true) (k13 : PySem.W.keepIn K (.ref f13) = true)
    (a14 : PySem.W.nsIn K mainGlobals "_law_doubled" = some (some (.ref f14))) (l14 : K.lookup f14 = some ⟨oc14, od14, .func (PySem.W.fnOf "_law_doubled" "_law_doubled" (defArgs s__law_doubled) (defBody s__law_doubled) (defScope s__law_doubled) .none kV14 dc14 pm14 an14 cd14 ct14), sl14⟩) (c14 : PySem.W.codeIn K cd14 "_law_doubled" = true) (k14 : PySem.W.keepIn K (.ref f14) = true)
    (a15 : PySem.W.nsIn K mainGlobals "_law_drawn" = some (some (.ref f15))) (l15 : K.lookup f15 = some ⟨oc15, od15, .func (PySem.W.fnOf "_law_drawn" "_law_drawn" (defArgs s__law_drawn) (defBody s__law_drawn) (defScope s__law_drawn) .none kV15 dc15 pm15 an15 cd15 ct15), sl15⟩) (c15 : PySem.W.codeIn K cd15 "_law_drawn" = true) (k15 : PySem.W.keepIn K (.ref f15) = true)
    (a16 : PySem.W.nsIn K mainGlobals "_law_heard" = some (some (.ref f16))) (l16 : K.lookup f16 = some ⟨oc16, od16, .func (PySem.W.fnOf "_law_heard" "_law_heard" (defArgs s__law_heard) (defBody s__law_heard) (defScope s__law_heard) .none kV16 dc16 pm16 an16 cd16 ct16), sl16⟩) (c16 : PySem.W.codeIn K cd16 "_law_heard" = true) (k16 : PySem.W.keepIn K (.ref f16) = true)
    (a17 : PySem.W.nsIn K mainGlobals "law" = some (some (.ref f17))) (l17 : K.lookup f17 = some ⟨oc17, od17, .func (PySem.W.fnOf "law" "law" (defArgs s_law) (defBody s_law) (defScope s_law) .none kV17 dc17 pm17 an17 cd17 ct17), sl17⟩) (c17 : PySem.W.codeIn K cd17 "law" = true) (k17 : PySem.W.keepIn K (.ref f17) = true)
    (z_len : PySem.W.nsIn K mainGlobals "len" = some none)
    (z_int : PySem.W.nsIn K mainGlobals "int" = some none)
    (z_range : PySem.W.nsIn K mainGlobals "range" = some none)
    (z_list : PySem.W.nsIn K mainGlobals "list" = some none)
    (z_min : PySem.W.nsIn K mainGlobals "min" = some none)
    (z_isinstance : PySem.W.nsIn K mainGlobals "isinstance" = some none)
    (z_str : PySem.W.nsIn K mainGlobals "str" = some none)
    (z_sum : PySem.W.nsIn K mainGlobals "sum" = some none)
    (z_reversed : PySem.W.nsIn K mainGlobals "reversed" = some none)
    (z_tuple : PySem.W.nsIn K mainGlobals "tuple" = some none)
    (z_ValueError : PySem.W.nsIn K mainGlobals "ValueError" = some none)
    (ms : PySem.W.nsIn K mainGlobals "MOST_SIGNS" = some (some (.int 100000 tkM)))
    (aD : PySem.W.nsIn K mainGlobals "CalmError" = some (some (.ref D)))
    (lD : K.lookup D = some (excClassObj nmD qD D ND bsD bmVE true snD subD abD colD ddD kgD khD kiD kjD kkD "ValueError.__new__"))
    (lnD : K.lookup ND = some ⟨noD, ndD, .dict esD enD, nlD⟩)
    (eoD : (esD.all fun e => match e.key with | .str _ _ => true | _ => false) = true)
    (inD : PySem.W.nsIn K ND "__init__" = some none)
    (ac0 : PySem.W.nsIn K mainGlobals "TooLong" = some (some (.ref C0)))
    (lc0 : K.lookup C0 = some (excClassObj nm0 q0 C0 N0 bs0 (.ref D :: bmVE) true sn0 sub0 ab0 col0 dd0 ka0 kb0 kc0 kd0 kf0 "ValueError.__new__"))
    (ty0 : PySem.W.typeIn K (.ref C0) = some (.type "type"))
    (ln0 : K.lookup N0 = some ⟨no0, nd0, .dict es0 en0, nl0⟩)
    (eo0 : (es0.all fun e => match e.key with | .str _ _ => true | _ => false) = true)
    (sa0 : PySem.W.findIn K (.ref C0) "__setattr__" = some (some (.builtin "object.__setattr__")))
    (ga0 : PySem.W.findIn K (.ref C0) "__getattribute__" = some (some (.builtin "BaseException.__getattribute__")))
    (gx0 : PySem.W.findIn K (.ref C0) "__getattr__" = some none)
    (kp0 : PySem.W.keepIn K (.ref C0) = true)
    (cc0 : PySem.W.findIn K (.ref C0) "__class__" = some (some (.builtin "object.__class__")))
    (ob0 : PySem.W.mroIn K C0 (.type "object") = some true)
    (ac1 : PySem.W.nsIn K mainGlobals "BadText" = some (some (.ref C1)))
    (lc1 : K.lookup C1 = some (excClassObj nm1 q1 C1 N1 bs1 (.ref D :: bmVE) true sn1 sub1 ab1 col1 dd1 ka1 kb1 kc1 kd1 kf1 "ValueError.__new__"))
    (ty1 : PySem.W.typeIn K (.ref C1) = some (.type "type"))
    (in0 : PySem.W.nsIn K N0 "__init__" = some none)
    (apart : List.Nodup [C0, C1, D])
    : ∃ fd : FuncData, (∀ (s : Shared) (v : Value), BindsTo s fd ⟨[v], []⟩ [("_law_script", v)]) ∧ ∀ base : Heap, K.In base → base.Ns mainGlobals mg → FnOk l.prog w K mg base CX0 8 fa fd ["_law_script"] (spLaw K) := by
  have e := hfa.symm.trans (PySem.W.mg_of X G a17)
  cases e
  have F_written := fun_mk (st := s_written) l1 c1 k1
  have m_written := PySem.W.mg_of X G a1
  have b_written := F_written.binds (ps := ["rows", "pieces"]) fun _ _ _ _ _ _ => us2 fun _ _ => rfl
  have F_signs_of := fun_mk (st := s_signs_of) l2 c2 k2
  have m_signs_of := PySem.W.mg_of X G a2
  have b_signs_of := F_signs_of.binds (ps := ["rows", "pieces"]) fun _ _ _ _ _ _ => us2 fun _ _ => rfl
  have F_show_saying := fun_mk (st := s_show_saying) l3 c3 k3
  have m_show_saying := PySem.W.mg_of X G a3
  have b_show_saying := F_show_saying.binds (ps := ["saying"]) fun _ _ _ _ _ _ => us1 fun _ => rfl
  have F_pieces_of := fun_mk (st := s_pieces_of) l4 c4 k4
  have m_pieces_of := PySem.W.mg_of X G a4
  have b_pieces_of := F_pieces_of.binds (ps := ["row"]) fun _ _ _ _ _ _ => us1 fun _ => rfl
  have F__law_box := fun_mk (st := s__law_box) l5 c5 k5
  have m__law_box := PySem.W.mg_of X G a5
  have b__law_box := F__law_box.binds (ps := ["_law_script", "_law_k"]) fun _ _ _ _ _ _ => us2 fun _ _ => rfl
  have F__law_take := fun_mk (st := s__law_take) l6 c6 k6
  have m__law_take := PySem.W.mg_of X G a6
  have b__law_take := F__law_take.binds (ps := ["_law_box_here", "_law_wide"]) fun _ _ _ _ _ _ => us2 fun _ _ => rfl
  have F__law_row_at := fun_mk (st := s__law_row_at) l7 c7 k7
  have m__law_row_at := PySem.W.mg_of X G a7
  have b__law_row_at := F__law_row_at.binds (ps := ["_law_box_here", "_law_k"]) fun _ _ _ _ _ _ => us2 fun _ _ => rfl
  have F__law_shown := fun_mk (st := s__law_shown) l8 c8 k8
  have m__law_shown := PySem.W.mg_of X G a8
  have b__law_shown := F__law_shown.binds (ps := ["_law_saying"]) fun _ _ _ _ _ _ => us1 fun _ => rfl
  have F__law_names := fun_mk (st := s__law_names) l9 c9 k9
  have m__law_names := PySem.W.mg_of X G a9
  have b__law_names := F__law_names.binds (ps := ["_law_box_here"]) fun _ _ _ _ _ _ => us1 fun _ => rfl
  have F__law_first_row := fun_mk (st := s__law_first_row) l10 c10 k10
  have m__law_first_row := PySem.W.mg_of X G a10
  have b__law_first_row := F__law_first_row.binds (ps := ["_law_box_here", "_law_names_here"]) fun _ _ _ _ _ _ => us2 fun _ _ => rfl
  have F__law_sizes := fun_mk (st := s__law_sizes) l11 c11 k11
  have m__law_sizes := PySem.W.mg_of X G a11
  have b__law_sizes := F__law_sizes.binds (ps := ["_law_rows"]) fun _ _ _ _ _ _ => us1 fun _ => rfl
  have F__law_can_fill := fun_mk (st := s__law_can_fill) l12 c12 k12
  have m__law_can_fill := PySem.W.mg_of X G a12
  have b__law_can_fill := F__law_can_fill.binds (ps := ["_law_gap"]) fun _ _ _ _ _ _ => us1 fun _ => rfl
  have F__law_filled := fun_mk (st := s__law_filled) l13 c13 k13
  have m__law_filled := PySem.W.mg_of X G a13
  have b__law_filled := F__law_filled.binds (ps := ["_law_box_here", "_law_rows", "_law_names_here", "_law_goal"]) fun _ _ _ _ _ _ => us4 fun _ _ _ _ => rfl
  have F__law_doubled := fun_mk (st := s__law_doubled) l14 c14 k14
  have m__law_doubled := PySem.W.mg_of X G a14
  have b__law_doubled := F__law_doubled.binds (ps := ["_law_box_here", "_law_rows", "_law_many", "_law_most"]) fun _ _ _ _ _ _ => us4 fun _ _ _ _ => rfl
  have F__law_drawn := fun_mk (st := s__law_drawn) l15 c15 k15
  have m__law_drawn := PySem.W.mg_of X G a15
  have b__law_drawn := F__law_drawn.binds (ps := ["_law_box_here", "_law_rows", "_law_names_here", "_law_many"]) fun _ _ _ _ _ _ => us4 fun _ _ _ _ => rfl
  have F__law_heard := fun_mk (st := s__law_heard) l16 c16 k16
  have m__law_heard := PySem.W.mg_of X G a16
  have b__law_heard := F__law_heard.binds (ps := ["_law_saying"]) fun _ _ _ _ _ _ => us1 fun _ => rfl
  have F_law := fun_mk (st := s_law) l17 c17 k17
  have m_law := PySem.W.mg_of X G a17
  have b_law := F_law.binds (ps := ["_law_script"]) fun _ _ _ _ _ _ => us1 fun _ => rfl
  have n_len := PySem.W.mg_none_of X G z_len
  have n_int := PySem.W.mg_none_of X G z_int
  have n_range := PySem.W.mg_none_of X G z_range
  have n_list := PySem.W.mg_none_of X G z_list
  have n_min := PySem.W.mg_none_of X G z_min
  have n_isinstance := PySem.W.mg_none_of X G z_isinstance
  have n_str := PySem.W.mg_none_of X G z_str
  have n_sum := PySem.W.mg_none_of X G z_sum
  have n_reversed := PySem.W.mg_none_of X G z_reversed
  have n_tuple := PySem.W.mg_none_of X G z_tuple
  have n_ValueError := PySem.W.mg_none_of X G z_ValueError
  refine ⟨PySem.W.fnOf "law" "law" (defArgs s_law) (defBody s_law) (defScope s_law) .none kV17 dc17 pm17 an17 cd17 ct17, fun s v => .of_eq rfl, fun base _ _ => ?_⟩
  have nsD : PySem.W.nsOkIn K ND = true := ns_ok lnD eoD
  have tl : PySem.W.tailIn K bmVE (.ref D :: bmVE) = true := tail_ok lD nsD inD
  have ns0 : PySem.W.nsOkIn K N0 = true := ns_ok ln0 eo0
  simp only [List.nodup_cons, List.mem_cons, List.not_mem_nil, or_false, not_or, List.nodup_nil, and_true, not_false_eq_true] at apart
  obtain ⟨⟨n01, d0⟩, d1⟩ := apart
  have c0X : XC K C0 D N0 := ⟨⟨_, _, _, _, _, _, _, _, _, _, _, _, _, lc0⟩, tl, ns0, sa0, ga0, gx0, kp0⟩
  have xt : XT K D := ⟨_, _, _, _, _, _, _, _, _, _, _, _, _, _, _, _, _, lD, by decide⟩
  have m_CalmError := PySem.W.mg_of X G aD
  have m_TooLong := PySem.W.mg_of X G ac0
  have m_BadText := PySem.W.mg_of X G ac1
  have iss : PySem.W.kitOne K (.type "str") (.type "str") = some true := if_pos (by simp)
  have iii : PySem.W.kitOne K (.type "int") (.type "int") = some true := if_pos (by simp)
  have isi : PySem.W.kitOne K (.type "int") (.type "str") = some false := by
    unfold PySem.W.kitOne
    rw [if_neg (by decide)]
    unfold PySem.W.kitCls
    first | rfl | decide +kernel | simp
  have ist : PySem.W.kitOne K (.type "str") (.type "int") = some false := by
    unfold PySem.W.kitOne
    rw [if_neg (by decide)]
    unfold PySem.W.kitCls
    first | rfl | decide +kernel | simp
  have m_MOST := PySem.W.mg_of X G ms
  have g1 := ok__law_take (P := l.prog) (w := w) (mg := mg) (base := base) F__law_take
  have g3 := ok__law_row_at (P := l.prog) (w := w) (base := base) F__law_row_at ⟨m__law_take⟩ F__law_take b__law_take g1
  have g7 := ok_pieces_of (P := l.prog) (w := w) (mg := mg) (base := base) F_pieces_of
  have g8 := ok_signs_of (P := l.prog) (w := w) (base := base) (D := DS) (fun _ _ _ _ => DS.kp) F_signs_of ⟨n_isinstance, n_min, n_len, n_sum, n_str, m_MOST, iss, isi⟩ F_pieces_of b_pieces_of g7
  have g9 := ok_written (P := l.prog) (w := w) (base := base) (D := DS) (fun _ _ _ _ => DS.kp) F_written ⟨n_isinstance, n_list, n_reversed, n_len, n_str, m_MOST, m_signs_of, m_TooLong, c0X, in0⟩ iss isi F_pieces_of b_pieces_of g7 F_signs_of b_signs_of g8
  have g10 := ok_show_saying (P := l.prog) (w := w) (base := base) F_show_saying ⟨m_written, m_pieces_of⟩ F_written b_written g9
  have g11 := ok__law_heard (P := l.prog) (w := w) (base := base) F__law_heard ⟨n_isinstance, n_ValueError, m_show_saying, m_CalmError, xt, m_TooLong, m_BadText, c0X, ⟨cc0, ob0⟩, kit_ne lc0 lc1 ty1 n01 d1, kit_V lc0⟩ F_show_saying b_show_saying g10
  have g12 := ok__law_can_fill (P := l.prog) (w := w) (mg := mg) (base := base) F__law_can_fill
  have g13 := ok__law_sizes (P := l.prog) (w := w) (base := base) F__law_sizes ⟨n_len⟩
  have g14 := ok__law_shown (P := l.prog) (w := w) (mg := mg) (base := base) F__law_shown
  have g15 := ok__law_names (P := l.prog) (w := w) (base := base) F__law_names ⟨n_len, n_list, n_range, m__law_take⟩ F__law_take b__law_take g1
  have g16 := ok__law_first_row (P := l.prog) (w := w) (base := base) F__law_first_row ⟨m__law_take⟩ F__law_take b__law_take g1
  have g17 := ok__law_doubled (P := l.prog) (w := w) (base := base) F__law_doubled ⟨n_len, m__law_take, m__law_sizes⟩ F__law_take b__law_take g1 F__law_sizes b__law_sizes g13
  have g18 := ok__law_drawn (P := l.prog) (w := w) (base := base) F__law_drawn ⟨n_len, n_range, m__law_take, m__law_row_at⟩ F__law_take b__law_take g1 F__law_row_at b__law_row_at g3
  have g19 := ok__law_filled (P := l.prog) (w := w) (base := base) F__law_filled ⟨n_len, n_range, m__law_take, m__law_sizes, m__law_can_fill⟩ F__law_take b__law_take g1 F__law_sizes b__law_sizes g13 F__law_can_fill b__law_can_fill g12
  exact ok_law F_law ⟨n_len, n_range, n_tuple, n_int, n_isinstance, m__law_box, m__law_take, m__law_names, m__law_first_row, m__law_doubled, m__law_filled, m__law_drawn, m__law_heard, m__law_shown, m__law_sizes, ist, iii⟩ F__law_box b__law_box (ok__law_box F__law_box ⟨n_len, n_int⟩)
    F__law_take b__law_take g1 F__law_names b__law_names g15 F__law_first_row b__law_first_row g16 F__law_doubled b__law_doubled g17 F__law_filled b__law_filled g19 F__law_drawn b__law_drawn g18 F__law_heard b__law_heard g11 F__law_shown b__law_shown g14 F__law_sizes b__law_sizes g13
theorem walk {l : PySem.W.OpenLaw} {q : Program} {loose : List Str} {XP : (Str → Option Value) → Heap → Prop} {YP : World → Heap → Prop} {d : DefRec} {K : Params → PySem.W.Frag} (hn : l.most = some 63) (hdf : d.params.defaults = [])
    (hY : ∀ (w : World) (h : Heap), YP w h → (K w.params).In h)
    (F : ∀ (w : World) (mg : Str → Option Value) (fa : Addr) (h : Heap), (K w.params).In h → h.Ns mainGlobals mg → mg d.name = some (.ref fa) →
      ∃ fd : FuncData, (∀ (s : Shared) (u : Value), BindsTo s fd ⟨[u], []⟩ [("_law_script", u)]) ∧ ∀ base : Heap, (K w.params).In base → base.Ns mainGlobals mg → FnOk l.prog w (K w.params) mg base CX0 8 fa fd ["_law_script"] (spLaw (K w.params))) :
    PySem.W.WalkO q loose XP YP l.row.toRowW d [] (fun f vs => PySem.call f vs) :=
  L2.walk_of (n := 63) (k := 8) (x := "_law_script") (CX := fun _ => CX0) (sp := fun w => spLaw (K w.params)) hn (by decide) hdf ⟨rfl, by decide, by decide, rfl⟩ hY F (fun _ _ a ns hl _ hS => ⟨a, ns, rfl, hS, hl, fun _ => rfl⟩) fun _ _ _ _ _ z => z
end My
open PySem PySem.W PyProof.Rows
set_option maxRecDepth 100000 in
set_option maxHeartbeats 0 in
theorem PySem.Challenge.cw_calmword_k45_texts_that_are_too_long_holds : PySem.Challenge.rw_calmword_k45_texts_that_are_too_long.Holds := by
  w_on; o_law; k_head; (case hw => w_witness2)
  k_fill
  refine My.walk (l := PySem.Challenge.rw_calmword_k45_texts_that_are_too_long) rfl rfl (fun w h Y => PySem.W.kIn_of Y) ?F
  case F =>
    intro w mg fa h KX G hmg
    refine' My.all_mk KX G hmg ?a1 ?l1 ?c1 ?k1 ?a2 ?l2 ?c2 ?k2 ?a3 ?l3 ?c3 ?k3 ?a4 ?l4 ?c4 ?k4 ?a5 ?l5 ?c5 ?k5 ?a6 ?l6 ?c6 ?k6 ?a7 ?l7 ?c7 ?k7 ?a8 ?l8 ?c8 ?k8 ?a9 ?l9 ?c9 ?k9 ?a10 ?l10 ?c10 ?k10 ?a11 ?l11 ?c11 ?k11 ?a12 ?l12 ?c12 ?k12 ?a13 ?l13 ?c13 ?k13 ?a14 ?l14 ?c14 ?k14 ?a15 ?l15 ?c15 ?k15 ?a16 ?l16 ?c16 ?k16 ?a17 ?l17 ?c17 ?k17 ?z_len ?z_int ?z_range ?z_list ?z_min ?z_isinstance ?z_str ?z_sum ?z_reversed ?z_tuple ?z_ValueError ?ms ?aD ?lD ?lnD ?eoD ?inD ?ac0 ?lc0 ?ty0 ?ln0 ?eo0 ?sa0 ?ga0 ?gx0 ?kp0 ?cc0 ?ob0 ?ac1 ?lc1 ?ty1 ?in0 ?apart
    (case a1 => k_is)
    (case l1 => k_is)
    (case c1 => k_is)
    (case k1 => k_is)
    (case a2 => k_is)
    (case l2 => k_is)
    (case c2 => k_is)
    (case k2 => k_is)
    (case a3 => k_is)
    (case l3 => k_is)
    (case c3 => k_is)
    (case k3 => k_is)
    (case a4 => k_is)
    (case l4 => k_is)
    (case c4 => k_is)
    (case k4 => k_is)
    (case a5 => k_is)
    (case l5 => k_is)
    (case c5 => k_is)
    (case k5 => k_is)
    (case a6 => k_is)
    (case l6 => k_is)
    (case c6 => k_is)
    (case k6 => k_is)
    (case a7 => k_is)
    (case l7 => k_is)
    (case c7 => k_is)
    (case k7 => k_is)
    (case a8 => k_is)
    (case l8 => k_is)
    (case c8 => k_is)
    (case k8 => k_is)
    (case a9 => k_is)
    (case l9 => k_is)
    (case c9 => k_is)
    (case k9 => k_is)
    (case a10 => k_is)
    (case l10 => k_is)
    (case c10 => k_is)
    (case k10 => k_is)
    (case a11 => k_is)
    (case l11 => k_is)
    (case c11 => k_is)
    (case k11 => k_is)
    (case a12 => k_is)
    (case l12 => k_is)
    (case c12 => k_is)
    (case k12 => k_is)
    (case a13 => k_is)
    (case l13 => k_is)
    (case c13 => k_is)
    (case k13 => k_is)
    (case a14 => k_is)
    (case l14 => k_is)
    (case c14 => k_is)
    (case k14 => k_is)
    (case a15 => k_is)
    (case l15 => k_is)
    (case c15 => k_is)
    (case k15 => k_is)
    (case a16 => k_is)
    (case l16 => k_is)
    (case c16 => k_is)
    (case k16 => k_is)
    (case a17 => k_is)
    (case l17 => k_is)
    (case c17 => k_is)
    (case k17 => k_is)
    (case z_len => k_is)
    (case z_int => k_is)
    (case z_range => k_is)
    (case z_list => k_is)
    (case z_min => k_is)
    (case z_isinstance => k_is)
    (case z_str => k_is)
    (case z_sum => k_is)
    (case z_reversed => k_is)
    (case z_tuple => k_is)
    (case z_ValueError => k_is)
    (case ms => k_is)
    (case aD => k_is)
    (case lD => k_is)
    (case lnD => k_is)
    (case eoD => first | (simp; done) | rfl)
    (case inD => k_is)
    (case ac0 => k_is)
    (case lc0 => k_is)
    (case ty0 => k_is)
    (case ln0 => k_is)
    (case eo0 => first | (simp; done) | rfl)
    (case sa0 => k_is)
    (case ga0 => k_is)
    (case gx0 => k_is)
    (case kp0 => k_is)
    (case cc0 => k_is)
    (case ob0 => k_is)
    (case ac1 => k_is)
    (case lc1 => k_is)
    (case ty1 => k_is)
    (case in0 => k_is)
    (case apart => first | decide | (simp; done))
