import PyProof.Rows.All
import Wide.All
import OpenK.AllK
import Wide.FinOn
import Lean
import PyProof.EqAt
import PyProof.EqKinds
import PyProof.TupleCall
import PySem.Challenge.RW_calmword_k20_expressions_looked_at
set_option Elab.async false
set_option linter.all false
set_option maxRecDepth 100000
namespace L2
open PySem PySem.Spec PyProof.Rows
abbrev Key := Sum Int Str
def keyIs : Key → Value → Bool
  | .inl k, v => Value.isInt k v
  | .inr x, v => Value.isStrOf x v
def keyH (w : World) : Key → Int
  | .inl k => hashInt k
  | .inr x => hashStr w x
theorem keyIs_shape : ∀ {k : Key} {v : Value}, keyIs k v = true → (∃ i t, k = Sum.inl i ∧ v = Value.int i t) ∨ (∃ x t, k = Sum.inr x ∧ v = Value.str x t)
  | .inl i, v, h => by
    obtain ⟨t, e⟩ := Value.isInt_shape (k := i) (v := v) h
    exact .inl ⟨i, t, rfl, e⟩
  | .inr x, v, h => by
    obtain ⟨t, e⟩ := Value.isStrOf_shape (x := x) (v := v) h
    exact .inr ⟨x, t, rfl, e⟩
theorem keyIs_int (i : Int) (t : Tok) : keyIs (.inl i) (.int i t) = true := by simp [keyIs, Value.isInt]
theorem keyIs_str (x : Str) (t : Tok) : keyIs (.inr x) (.str x t) = true := by simp [keyIs, Value.isStrOf]
theorem key_ll (a b : Int) : decide ((Sum.inl a : Key) = Sum.inl b) = (a == b) := by
  by_cases e : a = b
  · subst e; simp
  · have h : ¬ (Sum.inl a : Key) = Sum.inl b := fun q => e (Sum.inl.inj q)
    rw [decide_eq_false h]
    exact (beq_eq_false_iff_ne.mpr e).symm
theorem key_rr (a b : Str) : decide ((Sum.inr a : Key) = Sum.inr b) = decide (a = b) := by
  by_cases e : a = b
  · subst e; simp
  · have h : ¬ (Sum.inr a : Key) = Sum.inr b := fun q => e (Sum.inr.inj q)
    rw [decide_eq_false h, decide_eq_false e]
theorem key_lr (a : Int) (b : Str) : decide ((Sum.inl a : Key) = Sum.inr b) = false := decide_eq_false (fun q => nomatch q)
theorem key_rl (a : Str) (b : Int) : decide ((Sum.inr a : Key) = Sum.inl b) = false := decide_eq_false (fun q => nomatch q)
def mixKind (prog : Program) (w : World) : PySem.KeyKind prog w Key where
  is := keyIs
  hash := keyH w
  inj := fun v a b ha hb => by
    rcases keyIs_shape ha with ⟨i, t, rfl, rfl⟩ | ⟨x, t, rfl, rfl⟩
    · rcases keyIs_shape hb with ⟨j, u, rfl, e⟩ | ⟨y, u, rfl, e⟩
      · injection e with e1 _; rw [e1]
      · exact nomatch e
    · rcases keyIs_shape hb with ⟨j, u, rfl, e⟩ | ⟨y, u, rfl, e⟩
      · exact nomatch e
      · injection e with e1 _; rw [e1]
  byValue := fun k v h => by
    rcases keyIs_shape h with ⟨i, t, rfl, rfl⟩ | ⟨x, t, rfl, rfl⟩ <;> rfl
  pyHash := fun hv h => by
    rcases keyIs_shape hv with ⟨i, t, rfl, rfl⟩ | ⟨x, t, rfl, rfl⟩
    · exact wpAny_pyHash_int h
    · exact wpAny_pyHash_str h
  eqBool := fun hu hv h => by
    rcases keyIs_shape hu with ⟨i, t, rfl, rfl⟩ | ⟨x, t, rfl, rfl⟩
    · rcases keyIs_shape hv with ⟨j, u, rfl, rfl⟩ | ⟨y, u, rfl, rfl⟩
      · rw [key_ll] at h; exact wpAny_eqBool_int h
      · rw [key_lr] at h; exact SeqAt.EqAt.int_str i t y u _ _ _ _ h
    · rcases keyIs_shape hv with ⟨j, u, rfl, rfl⟩ | ⟨y, u, rfl, rfl⟩
      · rw [key_rl] at h; exact SeqAt.EqAt.str_int x t j u _ _ _ _ h
      · rw [key_rr] at h; exact wpAny_eqBool_str h
  «strs» := fun k x t v h => by
    rcases keyIs_shape h with ⟨i, u, rfl, e⟩ | ⟨y, u, rfl, e⟩
    · exact nomatch e
    · injection e with e1 _
      subst e1
      cases v <;> rfl
theorem mixKind_int (prog : Program) (w : World) (i : Int) (t : Tok) : (mixKind prog w).is (.inl i) (.int i t) = true := keyIs_int i t
theorem mixKind_str (prog : Program) (w : World) (x : Str) (t : Tok) : (mixKind prog w).is (.inr x) (.str x t) = true := keyIs_str x t
end L2
namespace L2
open PySem PySem.Spec PyProof.Rows
inductive V where
  | non | bl (b : Bool) | int (i : Int) | str (x : Str) | byt (b : Array UInt8) | flt (b : UInt64) | ref (a : Addr) | ty (n : String)
  deriving DecidableEq
def RelV : V → Value → Prop
  | .non, u => u = Value.none
  | .bl b, u => u = Value.bool b
  | .int i, u => ∃ t, u = Value.int i t
  | .str x, u => ∃ t, u = Value.str x t
  | .byt b, u => ∃ t, u = Value.bytes b t
  | .flt b, u => ∃ t, u = Value.float b t
  | .ref a, u => u = Value.ref a
  | .ty n, u => u = Value.type n
abbrev Vals : List V → List Value → Prop := Paired RelV
theorem Vals.length {xs : List V} {us : List Value} (r : Vals xs us) : xs.length = us.length := Paired.length r
theorem Vals.get : ∀ {xs : List V} {us : List Value} {i : Nat} {x : V}, Vals xs us → xs[i]? = some x → ∃ u, us[i]? = some u ∧ RelV x u
  | _, _, _, _, .nil, e => by simp at e
  | _, _, 0, _, .cons r _, e => by simp at e; subst e; exact ⟨_, rfl, r⟩
  | _, _, i + 1, x, .cons _ t, e => by
    obtain ⟨u, h1, h2⟩ := Vals.get (i := i) (x := x) t (by simpa using e)
    exact ⟨u, by simpa using h1, h2⟩
theorem Vals.set {x : V} {u : Value} (r : RelV x u) : ∀ {xs : List V} {us : List Value} (i : Nat), Vals xs us → Vals (xs.set i x) (us.set i u)
  | _, _, _, .nil => .nil
  | _, _, 0, .cons _ t => .cons r t
  | _, _, i + 1, .cons q t => .cons q (Vals.set r i t)
theorem Vals.append : ∀ {xs ys : List V} {us ws : List Value}, Vals xs us → Vals ys ws → Vals (xs ++ ys) (us ++ ws)
  | _, _, _, _, .nil, s => s
  | _, _, _, _, .cons r t, s => .cons r (Vals.append t s)
theorem Vals.take : ∀ {xs : List V} {us : List Value} (n : Nat), Vals xs us → Vals (xs.take n) (us.take n)
  | _, _, 0, _ => .nil
  | _, _, _ + 1, .nil => .nil
  | _, _, n + 1, .cons r t => .cons r (Vals.take n t)
theorem Vals.drop : ∀ {xs : List V} {us : List Value} (n : Nat), Vals xs us → Vals (xs.drop n) (us.drop n)
  | _, _, 0, r => r
  | _, _, _ + 1, .nil => .nil
  | _, _, n + 1, .cons _ t => Vals.drop n t
def RelO : Option V → Option Value → Prop
  | some v, some u => RelV v u
  | none, none => True
  | _, _ => False
def KV {κ : Type} : List (κ × V) → List (κ × Value) → Prop := Paired fun (p : κ × V) (q : κ × Value) => p.1 = q.1 ∧ RelV p.2 q.2
def kV : Key → V
  | .inl i => .int i
  | .inr x => .str x
inductive HO where
    | lst (xs : List V)
    | tup (xs : List V)
    | dK (kvs : List (Key × V)) | dT (kvs : List (List Key × V))
    | set (S : Int → Bool) (n : Nat)
    | ins (C dx : Addr) (fs : List (Str × V))
    | own (x : Addr)
    | xd (fs : List (Str × V))
    | met (f x : Addr)
    | rng (lo hi : Int)
    | frz (o : Obj) (u : HO)
    | tbl (ps : Array Value)
    | ext (φ : Heap → Prop)
abbrev Hp := Addr → Option HO
def upd (H : Hp) (a : Addr) (o : HO) : Hp := fun b => if b = a then some o else H b
theorem upd_same {H : Hp} {a : Addr} {o : HO} : upd H a o a = some o := by unfold upd; rw [if_pos rfl]
theorem upd_ne {H : Hp} {a b : Addr} {o : HO} (h : b ≠ a) : upd H a o b = H b := by unfold upd; rw [if_neg h]
theorem upd_upd {H : Hp} {a : Addr} {o u : HO} : upd (upd H a o) a u = upd H a u := by
  funext b; unfold upd; split <;> rfl
theorem ne_of {H : Hp} {a b : Addr} {o u : HO} (h : H a = some o) (h' : H b = some u) (d : o ≠ u) : a ≠ b := by
  intro e; subst e; rw [h] at h'; exact d (Option.some.inj h')
theorem ne_of_none {H : Hp} {a b : Addr} {o : HO} (h : H a = some o) (h' : H b = none) : a ≠ b := by
  intro e; subst e; rw [h] at h'; cases h'
section
variable (P : Program) (w : World)
def ObjOk (H : Hp) (h : Heap) (a : Addr) : HO → Prop
  | .lst xs => xs.length ≤ sizeLine ∧ ∃ (its : List Value) (n : Nat), Vals xs its ∧ h.get? a = some { cls := .type "list", data := .seq its.toArray n }
  | .tup xs => xs.length ≤ sizeLine ∧ ∃ its : List Value, Vals xs its ∧ IsTup h a its.toArray
  | .dK kvs => kvs.length ≤ sizeLine ∧ (a == sysModules) = false ∧ ∃ vs, KV kvs vs ∧ h.DictOf (mixKind P w) a vs
  | .dT kvs => kvs.length ≤ sizeLine ∧ (a == sysModules) = false ∧ ∃ xs : List (List Key × Addr × Value),
      Paired (fun (p : List Key × V) (q : List Key × Addr × Value) => p.1 = q.1 ∧ H q.2.1 = some (.tup (p.1.map kV)) ∧ RelV p.2 q.2.2) kvs xs ∧
      ∃ o es ep, h.get? a = some o ∧ o.ExactDict ∧ o.data = .dict es ep ∧ es.toList = xs.map (entryOfKey (tupleKind (mixKind P w))) ∧ (xs.map (·.1)).Nodup
  | .set S n => h.SetOf (intKind P w) a S n
  | .ins C dx fs => H dx = some (.own a) ∧ fs.length ≤ 1000 ∧ dx ≠ a ∧ h.get? a = some (PySem.W.instObj C dx) ∧
      ∃ mA, h.Ns1 dx mA ∧ (∀ f, RelO (fs.lookup f) (mA f)) ∧ PySem.Within mA (fs.map (·.1))
  | .own _ => ∃ o, h.get? a = some o
  | .xd fs => ∃ mA, h.Ns1 a mA ∧ ∀ f, RelO (fs.lookup f) (mA f)
  | .rng lo hi => ∃ t u v, h.get? a = some { cls := .type "range", data := .fields #[.int lo t, .int hi u, .int 1 v] }
  | .frz o u => h.get? a = some o ∧ ObjOk H h a u
  | .tbl ps => h.get? a = some { cls := .none, data := .fields ps }
  | .met f x => h.get? a = some (PySem.W.methodObj (.ref f) (.ref x))
  | .ext φ => φ h ∧ (∃ o, h.get? a = some o) ∧ ∀ h1 h2 : Heap, φ h1 → (∀ o, h1.get? a = some o → h2.get? a = some o) → φ h2
def HOk (H : Hp) (h : Heap) : Prop := ∀ a o, H a = some o → ObjOk P w H h a o
end
section
variable {P : Program} {w : World} {H H' : Hp} {h h' : Heap} {a : Addr} {o : HO}
theorem ObjOk.lt (x : ObjOk P w H h a o) : a < h.objs.size := by
  cases o with
  | lst xs => obtain ⟨_, _, _, _, e⟩ := x; exact Heap.lt_size e
  | tup xs => obtain ⟨_, _, _, p⟩ := x; exact p.lt
  | dK kvs => obtain ⟨_, _, _, _, o, _, _, e, _⟩ := x; exact Heap.lt_size e
  | dT kvs => obtain ⟨_, _, _, _, o, _, _, e, _⟩ := x; exact Heap.lt_size e
  | set S n => obtain ⟨o, _, _, _, e, _⟩ := x; exact Heap.lt_size e
  | ins C dx fs => obtain ⟨_, _, _, e, _⟩ := x; exact Heap.lt_size e
  | own y => obtain ⟨_, e⟩ := x; exact Heap.lt_size e
  | xd fs => obtain ⟨_, ⟨_, _, _, e, _⟩, _⟩ := x; exact Heap.lt_size e
  | rng lo hi => obtain ⟨_, _, _, e⟩ := x; exact Heap.lt_size e
  | frz ob u => obtain ⟨e, _⟩ := x; exact Heap.lt_size e
  | tbl ps => exact Heap.lt_size (show h.get? a = some _ from x)
  | met f y => exact Heap.lt_size (show h.get? a = some _ from x)
  | ext φ => obtain ⟨_, ⟨_, e⟩, _⟩ := x; exact Heap.lt_size e
theorem Paired.mapP {α β : Type} {F G : α → β → Prop} : ∀ {l₁ : List α} {l₂ : List β}, Paired F l₁ l₂ → (∀ a b, F a b → G a b) → Paired G l₁ l₂
  | _, _, .nil, _ => .nil
  | _, _, .cons r t, f => .cons (f _ _ r) (Paired.mapP t f)
theorem ObjOk.stay (x : ObjOk P w H h a o) (k : ∀ b u, (b = a ∨ H b = some (.own a)) → h.get? b = some u → h'.get? b = some u)
    (ho : ∀ b, H b = some (.own a) → H' b = some (.own a)) (ht : ∀ b xs, H b = some (.tup xs) → H' b = some (.tup xs)) : ObjOk P w H' h' a o := by
  induction o with
  | lst xs => obtain ⟨z, its, n, r, e⟩ := x; exact ⟨z, its, n, r, k _ _ (.inl rfl) e⟩
  | tup xs => obtain ⟨z, its, r, ob, e, c⟩ := x; exact ⟨z, its, r, ob, k _ _ (.inl rfl) e, c⟩
  | dK kvs => obtain ⟨z, y, vs, r, ob, es, ep, e, c⟩ := x; exact ⟨z, y, vs, r, ob, es, ep, k _ _ (.inl rfl) e, c⟩
  | dT kvs =>
    obtain ⟨z, y, xs, r, ob, es, ep, e, c⟩ := x
    exact ⟨z, y, xs, Paired.mapP r fun p q z => ⟨z.1, ht _ _ z.2.1, z.2.2⟩, ob, es, ep, k _ _ (.inl rfl) e, c⟩
  | set S n => obtain ⟨ob, es, ep, t, e, c⟩ := x; exact ⟨ob, es, ep, t, k _ _ (.inl rfl) e, c⟩
  | ins C dx fs =>
    obtain ⟨d, z, ne, e, mA, ⟨od, es, ep, e2, c⟩, r⟩ := x
    exact ⟨ho _ d, z, ne, k _ _ (.inl rfl) e, mA, ⟨od, es, ep, k _ _ (.inr d) e2, c⟩, r⟩
  | own y => obtain ⟨ob, e⟩ := x; exact ⟨ob, k _ _ (.inl rfl) e⟩
  | xd fs => obtain ⟨mA, ⟨od, es, ep, e, c⟩, r⟩ := x; exact ⟨mA, ⟨od, es, ep, k _ _ (.inl rfl) e, c⟩, r⟩
  | rng lo hi => obtain ⟨t, u, v, e⟩ := x; exact ⟨t, u, v, k _ _ (.inl rfl) e⟩
  | frz ob u ih => obtain ⟨e, q⟩ := x; exact ⟨k _ _ (.inl rfl) e, ih q⟩
  | tbl ps =>
    have e : h.get? a = some { cls := .none, data := .fields ps } := x
    show h'.get? a = some { cls := .none, data := .fields ps }
    exact k a _ (.inl rfl) e
  | met f y =>
    have e : h.get? a = some (PySem.W.methodObj (.ref f) (.ref y)) := x
    show h'.get? a = some (PySem.W.methodObj (.ref f) (.ref y))
    exact k a _ (.inl rfl) e
  | ext φ => obtain ⟨p, ⟨o, e⟩, st⟩ := x; exact ⟨st _ _ p fun o q => k _ _ (.inl rfl) q, ⟨o, k _ _ (.inl rfl) e⟩, st⟩
theorem HOk.lt (x : HOk P w H h) (e : H a = some o) : a < h.objs.size := (x a o e).lt
theorem HOk.fresh (x : HOk P w H h) (e : h.objs.size ≤ a) : H a = none := by
  cases q : H a with
  | none => rfl
  | some u => exact absurd (Nat.lt_of_lt_of_le (x.lt q) e) (Nat.lt_irrefl _)
theorem HOk.kept (x : HOk P w H h) (k : ∀ b u, h.get? b = some u → h'.get? b = some u) : HOk P w H h' := fun a o e =>
  (x a o e).stay (fun b u _ q => k b u q) (fun _ q => q) fun _ _ q => q
theorem HOk.laid (x : HOk P w H h) (k : ∀ b u, h.get? b = some u → h'.get? b = some u) (hp : h.objs.size ≤ a) (new : ObjOk P w (upd H a o) h' a o) : HOk P w (upd H a o) h' := fun b u e => by
  have hn := x.fresh hp
  by_cases hb : b = a
  · subst hb; rw [upd_same] at e; cases e; exact new
  · rw [upd_ne hb] at e
    exact (x b u e).stay (fun c v _ q => k c v q) (fun c q => by rw [upd_ne (ne_of_none q hn)]; exact q) fun c xs q => by rw [upd_ne (ne_of_none q hn)]; exact q
end
def Rd (H : Hp) (a : Addr) (u : HO) : Prop := H a = some u ∨ ∃ o, H a = some (.frz o u)
theorem Rd.ok {P : Program} {w : World} {H : Hp} {h : Heap} {a : Addr} {u : HO} (r : Rd H a u) (x : HOk P w H h) : ObjOk P w H h a u := by
  rcases r with r | ⟨o, r⟩
  · exact x a u r
  · obtain ⟨_, q⟩ := x a _ r
    exact q
def Mut : Option HO → Prop
  | some (.lst _) => True
  | some (.dK _) => True
  | some (.dT _) => True
  | some (.set _ _) => True
  | some (.ins _ _ _) => True
  | some (.ext _) => True
  | _ => False
section
variable {P : Program} {w : World} {H : Hp} {h h' : Heap} {x e : Addr} {o' : HO}
theorem HOk.write (ok : HOk P w H h) (mu : Mut (H x)) (he : e = x ∨ H e = some (.own x)) (k : ∀ b u, b ≠ e → h.get? b = some u → h'.get? b = some u) (heo : ∃ u, h'.get? e = some u)
    (new : ObjOk P w (upd H x o') h' x o') : HOk P w (upd H x o') h' := fun b u q => by
  have nown : ∀ c y, H c = some (.own y) → c ≠ x := fun c y r z => by subst z; rw [r] at mu; exact mu
  have ntup : ∀ c xs, H c = some (.tup xs) → c ≠ x := fun c xs r z => by subst z; rw [r] at mu; exact mu
  by_cases hb : b = x
  · subst hb; rw [upd_same] at q; cases q; exact new
  · rw [upd_ne hb] at q
    by_cases hbe : b = e
    · have q' : H b = some (.own x) := by
        rcases he with z | z
        · exact absurd (hbe.trans z) hb
        · rw [hbe]; exact z
      rw [q] at q'; cases q'
      obtain ⟨v, hv⟩ := heo
      exact ⟨v, by rw [hbe]; exact hv⟩
    · refine (ok b u q).stay (fun c v hc r => k c v ?_ r) (fun c r => by rw [upd_ne (nown c b r)]; exact r) fun c xs r => by rw [upd_ne (ntup c xs r)]; exact r
      rcases hc with rfl | hc
      · exact hbe
      · rintro rfl
        rcases he with z | z
        · exact nown c b hc z
        · rw [hc] at z; cases z; exact hb rfl
end
structure Un (fs ex : List Addr) (H H' : Hp) (h h' : Heap) : Prop where
  keep : ∀ b o, h.get? b = some o → H b = none → b ∉ fs → b ∉ ex → h'.get? b = some o
  slot : ∀ b o, h.get? b = some o → H b = none → b ∈ fs → b ∉ ex → ∃ sl, h'.get? b = some { o with slots := sl }
  free : ∀ b o, h.get? b = some o → H b = none → b ∉ ex → H' b = none
  there : ∀ b o, h.get? b = some o → b ∉ ex → ∃ o', h'.get? b = some o'
  tups : ∀ b xs, H b = some (.tup xs) → H' b = some (.tup xs)
  frzs : ∀ b o u, H b = some (.frz o u) → H' b = some (.frz o u)
  tbls : ∀ b ps, H b = some (.tbl ps) → ∃ more, H' b = some (.tbl (ps ++ more))
section
variable {fs fs' ex ex' : List Addr} {H H1 H2 : Hp} {h h1 h2 h' : Heap} {a x e : Addr} {o : HO}
theorem Un.any (u : Un fs ex H H1 h h1) {b : Addr} {ob : Obj} (q : h.get? b = some ob) (n : H b = none) (hx : b ∉ ex) : ∃ sl, h1.get? b = some { ob with slots := sl } := by
  by_cases hb : b ∈ fs
  · exact u.slot b ob q n hb hx
  · exact ⟨ob.slots, u.keep b ob q n hb hx⟩
theorem Un.kept (k : ∀ b u, h.get? b = some u → h'.get? b = some u) : Un fs ex H H h h' :=
  ⟨fun b ob q _ _ _ => k b ob q, fun b ob q _ _ _ => ⟨ob.slots, k b ob q⟩, fun _ _ _ n _ => n, fun b ob q _ => ⟨ob, k b ob q⟩, fun _ _ q => q, fun _ _ _ q => q, fun _ ps q => ⟨#[], by rw [q]; simp⟩⟩
theorem Un.refl : Un fs ex H H h h := Un.kept fun _ _ q => q
theorem Un.laid (k : ∀ b u, h.get? b = some u → h'.get? b = some u) (hp : h.objs.size ≤ a) (hn : H a = none) : Un fs ex H (upd H a o) h h' where
  keep := fun b u q _ _ _ => k b u q
  slot := fun b u q _ _ _ => ⟨u.slots, k b u q⟩
  free := fun b u q n _ => by rw [upd_ne (Nat.ne_of_lt (Nat.lt_of_lt_of_le (Heap.lt_size q) hp))]; exact n
  there := fun b u q _ => ⟨u, k b u q⟩
  tups := fun b xs q => by rw [upd_ne (ne_of_none q hn)]; exact q
  frzs := fun b u xs q => by rw [upd_ne (ne_of_none q hn)]; exact q
  tbls := fun b ps q => ⟨#[], by rw [upd_ne (ne_of_none q hn), q]; simp⟩
theorem Un.write (mu : Mut (H x)) (he : e = x ∨ H e = some (.own x)) (k : ∀ b u, b ≠ e → h.get? b = some u → h'.get? b = some u) (heo : ∃ u, h'.get? e = some u) : Un fs ex H (upd H x o) h h' := by
  have hx : ∀ b, H b = none → b ≠ x := fun b n z => by subst z; rw [n] at mu; exact mu
  have hb : ∀ b, H b = none → b ≠ e := fun b n z => by
    subst z
    rcases he with r | r
    · exact hx b n r
    · rw [n] at r; cases r
  have hm : ∀ b u, H b = some u → ¬ Mut (some u) → b ≠ x := fun b u q nm z => by subst z; rw [q] at mu; exact nm mu
  refine ⟨fun b u q n _ _ => k b u (hb b n) q, fun b u q n _ _ => ⟨u.slots, k b u (hb b n) q⟩, fun b u q n _ => by rw [upd_ne (hx b n)]; exact n, fun b u q _ => ?_,
    fun b xs q => by rw [upd_ne (hm b _ q fun z => z)]; exact q, fun b u xs q => by rw [upd_ne (hm b _ q fun z => z)]; exact q, fun b ps q => ⟨#[], by rw [upd_ne (hm b _ q fun z => z), q]; simp⟩⟩
  by_cases hbe : b = e
  · subst hbe; exact heo
  · exact ⟨u, k b u hbe q⟩
end
def trk (h : Heap) (H : Hp) : List Addr := (List.range h.objs.size).filter fun a => (H a).isSome
def hidT (h : Heap) (H : Hp) : Heap := PySem.W.hideAll h (trk h H)
theorem hidT_size (h : Heap) (H : Hp) : (hidT h H).objs.size = h.objs.size := PySem.W.hideAll_size _ _
theorem hidT_get {h : Heap} {H : Hp} {b : Addr} {o : Obj} (e : h.get? b = some o) (n : H b = none) : (hidT h H).get? b = some o :=
  PySem.W.hideAll_get _ e fun hm => by
    have q : (H b).isSome = true := (List.mem_filter.mp hm).2
    rw [n] at q; simp at q
theorem of_hidT {h : Heap} {H : Hp} {b : Addr} {o : Obj} (e : (hidT h H).get? b = some o) : h.get? b = some o ∧ H b = none := by
  have e' : h.get? b = some o := PySem.W.of_hideAll (trk h H) e
  refine ⟨e', ?_⟩
  cases q : H b with
  | none => rfl
  | some x =>
    have hm : b ∈ trk h H := List.mem_filter.mpr ⟨List.mem_range.mpr (Heap.lt_size e'), by simp [q]⟩
    have z : (hidT h H).get? b = none := PySem.W.hideAll_none (trk h H) hm
    rw [z] at e; cases e
end L2
namespace L2
open PySem PySem.Spec PyProof.Rows
structure Mod (K : PySem.W.Frag) (mg : Str → Option Value) (base : Heap) : Prop where
  kin : K.In base
  glob : base.Ns mainGlobals mg
  blt : ∃ mb, base.Ns builtinsNs mb ∧ ∀ x : Str, x ≠ "__name__" → mb x = bootBuiltins x
  nolimit : base.NoLimit
structure Cx where
  prog : Program
  w : World
  K : PySem.W.Frag
  mg : Str → Option Value
  base : Heap
  A : Around
  N : List Str
  s₀ : Shared
  H₀ : Hp
  env : Env
  outer : List Env
  stack : List Env
  ex : List Addr
  fn : Str → Bool
  calm : Bool
  pn : List (Addr × Obj)
  xe : Value → Shared → Prop
def frs (l : List Env) : List Addr := l.filterMap (·.frame)
abbrev Cx.fs (X : Cx) : List Addr := frs X.outer
def Vis (sc : Scope) (x : Str) : Prop := sc.names.lookup x = some .local ∨ sc.names.lookup x = some .cell ∨ sc.names.lookup x = some .free
def Loc (sc : Scope) (x : Str) : Prop := sc.names.lookup x = some .local ∨ sc.names.lookup x = some .cell
def Look (env : Env) (h : Heap) (m : Str → Option Value) (x : Str) (u : Value) : Prop :=
  (env.kindOf x = some .local ∧ m x = some u) ∨ ((env.kindOf x = some .cell ∨ env.kindOf x = some .free) ∧ ∃ c, env.cells.lookup x = some c ∧ h.IsCell c (some u))
structure Cx.Ok (X : Cx) : Prop where
  mod : Mod X.K X.mg X.base
  kind : X.env.scope.kind = .function
  glob : X.env.globals = mainGlobals
  blt : X.env.builtins = builtinsNs
  above : X.s₀.heap.objs.size ≤ X.env.locals
  inj : ∀ x y c, X.env.cells.lookup x = some c → X.env.cells.lookup y = some c → x = y
  has : ∀ x, (X.env.kindOf x = some .cell ∨ X.env.kindOf x = some .free) → ∃ c, X.env.cells.lookup x = some c
  cab : ∀ x c, X.fn x = true → X.env.cells.lookup x = some c → X.s₀.heap.objs.size ≤ c
  hd : X.calm = true → X.A.handled = none
  frames : X.A.frames = some X.stack
  stk : X.stack = X.outer ∨ (X.stack = X.env :: X.outer ∧ X.env.frame = some X.env.locals)
  exf : ∀ b ∈ X.ex, b ≠ X.env.locals ∧ ∀ x c, X.env.cells.lookup x = some c → c ≠ b
  bs : ∀ b o, X.base.get? b = some o → X.s₀.heap.get? b = some o ∧ X.H₀ b = none
  bsz : X.base.objs.size ≤ X.s₀.heap.objs.size
  noex : ∀ b o, X.base.get? b = some o → b ∉ X.ex
  exfs : ∀ b ∈ X.ex, b ∉ X.fs
  funs : X.s₀.heap.FunFrames X.base X.outer
  frf : ∀ b ∈ X.fs, X.H₀ b = none
structure Inv (X : Cx) (pins : List (Addr × Obj)) (σ : List (Option V)) (H : Hp) (s : Shared) : Prop where
  ok : X.Ok
  os : s.os = X.s₀.os
  bare : AllBare s.gens
  base : Un X.fs X.ex X.H₀ H X.s₀.heap s.heap
  loc : ∃ m, s.heap.Ns X.env.locals m ∧ ∀ (i : Nat) (x : Str) (v : V), X.N[i]? = some x → σ[i]? = some (some v) → Vis X.env.scope x → ∃ u, RelV v u ∧ Look X.env s.heap m x u
  cell : ∀ x c, X.env.cells.lookup x = some c → ∃ v, s.heap.IsCell c v
  free : H X.env.locals = none
  freeC : ∀ x c, X.env.cells.lookup x = some c → H c = none
  pin : ∀ p ∈ X.pn ++ pins, s.heap.get? p.1 = some p.2 ∧ H p.1 = none ∧ p.1 ≠ X.env.locals ∧ p.1 ∉ X.fs ∧ ∀ v, p.2.data ≠ .cell v
  hok : HOk X.prog X.w H s.heap
  len : σ.length = X.N.length
section
variable {X : Cx} {pins : List (Addr × Obj)} {σ : List (Option V)} {H H' : Hp} {s : Shared} {h' : Heap}
theorem Cx.Ok.nofr (ok : X.Ok) {b : Addr} {o : Obj} (e : X.base.get? b = some o) : b ∉ X.fs := fun hb => by
  have := (ok.funs.mem hb).1
  rw [e] at this; cases this
theorem Inv.bs (I : Inv X pins σ H s) : ∀ b o, X.base.get? b = some o → s.heap.get? b = some o ∧ H b = none := fun b o e =>
  ⟨I.base.keep b o (I.ok.bs b o e).1 (I.ok.bs b o e).2 (I.ok.nofr e) (I.ok.noex b o e), I.base.free b o (I.ok.bs b o e).1 (I.ok.bs b o e).2 (I.ok.noex b o e)⟩
theorem Inv.bk (I : Inv X pins σ H s) : ∀ b o, X.base.get? b = some o → s.heap.get? b = some o := fun b o e => (I.bs b o e).1
theorem Inv.mod (I : Inv X pins σ H s) : Mod X.K X.mg X.base := I.ok.mod
theorem Inv.kIn (I : Inv X pins σ H s) : X.K.In s.heap := I.ok.mod.kin.keeps I.bk
theorem Inv.lt (I : Inv X pins σ H s) : X.env.locals < s.heap.objs.size := let ⟨_, hn, _⟩ := I.loc; hn.lt
theorem Inv.sz (I : Inv X pins σ H s) : X.s₀.heap.objs.size ≤ s.heap.objs.size := Nat.le_trans I.ok.above (Nat.le_of_lt I.lt)
theorem Inv.nofs (I : Inv X pins σ H s) {a : Addr} (h : s.heap.objs.size ≤ a) : a ∉ X.fs := fun hb => by
  obtain ⟨_, o, ho, _⟩ := I.ok.funs.mem hb
  exact absurd (Nat.lt_of_lt_of_le (Heap.lt_size ho) (Nat.le_trans I.sz h)) (Nat.lt_irrefl _)
theorem Inv.cne (I : Inv X pins σ H s) : ∀ x c, X.env.cells.lookup x = some c → c ≠ X.env.locals := fun x c e z => by
  obtain ⟨v, o, ho, hd⟩ := I.cell x c e
  obtain ⟨m, ⟨o', es, ep, ho', hd', _⟩, _⟩ := I.loc
  rw [z, ho'] at ho; cases ho; rw [hd'] at hd; cases hd
theorem Inv.funs (I : Inv X pins σ H s) : s.heap.FunFrames X.base X.outer := by
  have all : ∀ (l : List Env), (∀ b ∈ frs l, b ∈ X.fs) → X.s₀.heap.FunFrames X.base l → s.heap.FunFrames X.base l := by
    intro l
    induction l with
    | nil => intro _ _; trivial
    | cons env r ih =>
      intro hs hl
      obtain ⟨hk, ⟨L, o, hf, hn, ho, hd⟩, hr⟩ := hl
      have hL : L ∈ X.fs := hs L (by unfold frs; rw [List.filterMap_cons, hf]; exact List.mem_cons_self)
      obtain ⟨sl, e⟩ := I.base.slot L o ho (I.ok.frf L hL) hL fun z => I.ok.exfs L z hL
      exact ⟨hk, ⟨L, _, hf, hn, e, hd⟩, ih (fun b hb => hs b (by unfold frs; rw [List.filterMap_cons, hf]; exact List.mem_cons_of_mem _ hb)) hr⟩
  exact all X.outer (fun _ hb => hb) I.ok.funs
theorem Inv.stack (I : Inv X pins σ H s) : s.heap.FunFrames X.base X.stack := by
  rcases I.ok.stk with e | ⟨e, hf⟩
  · rw [e]; exact I.funs
  · rw [e]
    obtain ⟨m, hn, _⟩ := I.loc
    refine .cons (by rw [I.ok.kind]; decide) hf hn ?_ I.funs
    exact Heap.get?_none_of_le (Nat.le_trans I.ok.bsz I.ok.above)
theorem Inv.stkSub (I : Inv X pins σ H s) : ∀ b ∈ frs X.stack, b ∈ X.env.locals :: X.fs := fun b hb => by
  rcases I.ok.stk with e | ⟨e, hf⟩
  · rw [e] at hb; exact List.mem_cons_of_mem _ hb
  · rw [e] at hb
    unfold frs at hb
    rw [List.filterMap_cons, hf] at hb
    exact hb
theorem Inv.stkFree (I : Inv X pins σ H s) : ∀ b ∈ frs X.stack, H b = none := fun b hb => by
  rcases List.mem_cons.mp (I.stkSub b hb) with e | hb
  · rw [e]; exact I.free
  · obtain ⟨_, o, ho, _⟩ := I.ok.funs.mem hb
    exact I.base.free b o ho (I.ok.frf b hb) fun z => I.ok.exfs b z hb
theorem Inv.step {g' : Array GenState} {t' : Nat} {d' : Drawn} {ch : List Addr} (I : Inv X pins σ H s)
    (hch : ∀ b ∈ ch, (b ∈ X.ex ∨ X.s₀.heap.objs.size ≤ b) ∧ b ≠ X.env.locals ∧ (∀ x c, X.env.cells.lookup x = some c → c ≠ b) ∧ ∀ p ∈ X.pn ++ pins, p.1 ≠ b)
    (keep : ∀ b o, b ≠ X.env.locals → b ∉ X.fs → b ∉ ch → s.heap.get? b = some o → H b = none → h'.get? b = some o)
    (slot : ∀ b o, b ≠ X.env.locals → b ∈ X.fs → b ∉ ch → s.heap.get? b = some o → H b = none → ∃ sl, h'.get? b = some { o with slots := sl }) (free : ∀ b o, b ∉ ch → s.heap.get? b = some o → H b = none → H' b = none)
    (there : ∀ b o, b ∉ ch → s.heap.get? b = some o → ∃ o', h'.get? b = some o')
    (tups : ∀ b xs, H b = some (.tup xs) → H' b = some (.tup xs)) (frzs : ∀ b o u, H b = some (.frz o u) → H' b = some (.frz o u)) (tbls : ∀ b ps, H b = some (.tbl ps) → ∃ more, H' b = some (.tbl (ps ++ more)))
    (ns : ∀ m, s.heap.Ns X.env.locals m → h'.Ns X.env.locals m) (hok : HOk X.prog X.w H' h') (hg : AllBare g') :
    Inv X pins σ H' { s with heap := h', gens := g', drawn := d', toks := t' } := by
  have neL : ∀ b o, X.s₀.heap.get? b = some o → b ≠ X.env.locals := fun b o e => Nat.ne_of_lt (Nat.lt_of_lt_of_le (Heap.lt_size e) I.ok.above)
  have neC : ∀ b o, X.s₀.heap.get? b = some o → b ∉ X.ex → b ∉ ch := fun b o e hx hb => by
    rcases (hch b hb).1 with z | z
    · exact hx z
    · exact absurd (Nat.lt_of_lt_of_le (Heap.lt_size e) z) (Nat.lt_irrefl _)
  have cellK : ∀ x c, X.env.cells.lookup x = some c → ∀ v, s.heap.IsCell c v → h'.IsCell c v := fun x c e v ⟨o, ho, hd⟩ => by
    have nch : c ∉ ch := fun z => (hch c z).2.2.1 x c e rfl
    by_cases hc : c ∈ X.fs
    · obtain ⟨sl, q⟩ := slot c o (I.cne x c e) hc nch ho (I.freeC x c e)
      exact ⟨_, q, hd⟩
    · exact ⟨o, keep c o (I.cne x c e) hc nch ho (I.freeC x c e), hd⟩
  refine ⟨I.ok, I.os, hg, ⟨fun b o e n hb hx => ?_, fun b o e n hb hx => ?_, fun b o e n hx => ?_, fun b o e hx => ?_, fun b xs e => tups b xs (I.base.tups b xs e), fun b o xs e => frzs b o xs (I.base.frzs b o xs e), fun b ps e => ?_⟩, ?_, fun x c e => ?_, ?_, fun x c e => ?_, fun p hp => ?_, hok, I.len⟩
  · exact keep b o (neL b o e) hb (neC b o e hx) (I.base.keep b o e n hb hx) (I.base.free b o e n hx)
  · obtain ⟨sl, e1⟩ := I.base.slot b o e n hb hx
    obtain ⟨sl', e2⟩ := slot b _ (neL b o e) hb (neC b o e hx) e1 (I.base.free b o e n hx)
    exact ⟨sl', e2⟩
  · obtain ⟨o', e1⟩ := I.base.there b o e hx
    exact free b o' (neC b o e hx) e1 (I.base.free b o e n hx)
  · obtain ⟨o', e1⟩ := I.base.there b o e hx
    exact there b o' (neC b o e hx) e1
  · obtain ⟨m1, e1⟩ := I.base.tbls b ps e
    obtain ⟨m2, e2⟩ := tbls b _ e1
    exact ⟨m1 ++ m2, by rw [e2, Array.append_assoc]⟩
  · obtain ⟨m, hn, hl⟩ := I.loc
    refine ⟨m, ns m hn, fun i x v e1 e2 e3 => ?_⟩
    obtain ⟨u, r, l⟩ := hl i x v e1 e2 e3
    refine ⟨u, r, ?_⟩
    rcases l with l | ⟨k, c, e, z⟩
    · exact .inl l
    · exact .inr ⟨k, c, e, cellK x c e _ z⟩
  · obtain ⟨v, z⟩ := I.cell x c e
    exact ⟨v, cellK x c e v z⟩
  · obtain ⟨m, ⟨o, _, _, ho, _⟩, _⟩ := I.loc
    exact free _ o (fun z => (hch _ z).2.1 rfl) ho I.free
  · obtain ⟨v, o, ho, hd⟩ := I.cell x c e
    exact free c o (fun z => (hch c z).2.2.1 x c e rfl) ho (I.freeC x c e)
  · obtain ⟨e, n, ne, nf, d⟩ := I.pin p hp
    have nch : p.1 ∉ ch := fun z => (hch p.1 z).2.2.2 p hp rfl
    exact ⟨keep p.1 p.2 ne nf nch e n, free p.1 p.2 nch e n, ne, nf, d⟩
theorem Inv.un {t' : Nat} (I : Inv X pins σ H s) (u : Un X.fs [] H H' s.heap h') (hok : HOk X.prog X.w H' h') : Inv X pins σ H' { s with heap := h', toks := t' } := by
  obtain ⟨m, ⟨o, es, ep, ho, r⟩, _⟩ := id I.loc
  obtain ⟨sl, hL⟩ := u.any ho I.free (by simp)
  exact I.step (g' := s.gens) (d' := s.drawn) (ch := []) (fun _ z => nomatch z) (fun b o _ hb _ e n => u.keep b o e n hb (by simp)) (fun b o _ hb _ e n => u.slot b o e n hb (by simp)) (fun b o _ e n => u.free b o e n (by simp)) (fun b o _ e => u.there b o e (by simp)) u.tups u.frzs u.tbls (fun m' hm => by
    obtain ⟨o', es', ep', ho', r'⟩ := hm
    rw [ho] at ho'; cases ho'
    exact ⟨_, es', ep', hL, r'⟩) hok I.bare
theorem Inv.call {g' : Array GenState} {t' : Nat} {d' : Drawn} {ch : List Addr} (I : Inv X pins σ H s) (u : Un (frs X.stack) ch H H' s.heap h') (hok : HOk X.prog X.w H' h') (hg : AllBare g')
    (hch : ∀ b ∈ ch, (b ∈ X.ex ∨ X.s₀.heap.objs.size ≤ b) ∧ b ≠ X.env.locals ∧ (∀ x c, X.env.cells.lookup x = some c → c ≠ b) ∧ ∀ p ∈ X.pn ++ pins, p.1 ≠ b) :
    Inv X pins σ H' { s with heap := h', gens := g', drawn := d', toks := t' } := by
  obtain ⟨m, ⟨o, es, ep, ho, r⟩, _⟩ := id I.loc
  obtain ⟨sl, hL⟩ := u.any ho I.free fun z => (hch _ z).2.1 rfl
  exact I.step (ch := ch) hch (fun b o hL hb hc e n => u.keep b o e n (fun z => (List.mem_cons.mp (I.stkSub b z)).elim hL hb) hc) (fun b o _ _ hc e n => u.any e n hc) (fun b o hc e n => u.free b o e n hc) (fun b o hc e => u.there b o e hc) u.tups u.frzs u.tbls (fun m' hm => by
    obtain ⟨o', es', ep', ho', r'⟩ := hm
    rw [ho] at ho'; cases ho'
    exact ⟨_, es', ep', hL, r'⟩) hok hg
theorem Inv.turned {t' : Nat} {it : Addr} (I : Inv X pins σ H s) (k : ∀ b o, b ≠ it → s.heap.get? b = some o → h'.get? b = some o) (hn : H it = none) (hL : it ≠ X.env.locals)
    (h1 : it ∈ X.ex ∨ X.s₀.heap.objs.size ≤ it) (h2 : ∀ x c, X.env.cells.lookup x = some c → c ≠ it) (h3 : ∀ p ∈ X.pn ++ pins, p.1 ≠ it) : Inv X pins σ H { s with heap := h', toks := t' } := by
  have nit : ∀ b u, H b = some u → b ≠ it := fun b u e z => by rw [z, hn] at e; cases e
  refine I.step (g' := s.gens) (d' := s.drawn) (ch := [it]) (fun b hb => ?_) (fun b o _ _ hc e _ => k b o (fun z => hc (by simp [z])) e) (fun b o _ _ hc e _ => ⟨o.slots, k b o (fun z => hc (by simp [z])) e⟩) (fun _ _ _ _ n => n)
    (fun b o hc e => ⟨o, k b o (fun z => hc (by simp [z])) e⟩) (fun _ _ e => e) (fun _ _ _ e => e) (fun b ps e => ⟨#[], by rw [e]; simp⟩) (fun m hm => ?_) (fun b u e => ?_) I.bare
  · have e : b = it := by simpa using hb
    subst e
    exact ⟨h1, hL, h2, h3⟩
  · obtain ⟨o, es, ep, ho, r⟩ := hm
    exact ⟨o, es, ep, k _ o (Ne.symm hL) ho, r⟩
  · refine (I.hok b u e).stay (fun c v hc q => k c v ?_ q) (fun _ q => q) fun _ _ q => q
    rcases hc with z | z
    · rw [z]; exact nit b u e
    · exact nit c _ z
theorem Inv.tok (I : Inv X pins σ H s) (t : Nat) : Inv X pins σ H { s with toks := t } := I.un (h' := s.heap) (t' := t) Un.refl I.hok
theorem Inv.kept {t' : Nat} (I : Inv X pins σ H s) (k : ∀ b u, s.heap.get? b = some u → h'.get? b = some u) : Inv X pins σ H { s with heap := h', toks := t' } := I.un (Un.kept k) (I.hok.kept k)
theorem Inv.laid {a : Addr} {o : HO} {t' : Nat} (I : Inv X pins σ H s) (k : ∀ b u, s.heap.get? b = some u → h'.get? b = some u) (hp : s.heap.objs.size ≤ a) (new : ObjOk X.prog X.w (upd H a o) h' a o) :
    Inv X pins σ (upd H a o) { s with heap := h', toks := t' } := I.un (Un.laid k hp (I.hok.fresh hp)) (I.hok.laid k hp new)
theorem Inv.write {x e : Addr} {o : HO} {t' : Nat} (I : Inv X pins σ H s) (mu : Mut (H x)) (he : e = x ∨ H e = some (.own x)) (k : ∀ b u, b ≠ e → s.heap.get? b = some u → h'.get? b = some u) (heo : ∃ u, h'.get? e = some u)
    (new : ObjOk X.prog X.w (upd H x o) h' x o) : Inv X pins σ (upd H x o) { s with heap := h', toks := t' } := I.un (Un.write mu he k heo) (I.hok.write mu he k heo new)
theorem Inv.pins_of {pins' : List (Addr × Obj)} (I : Inv X pins σ H s) (h : ∀ p ∈ pins', s.heap.get? p.1 = some p.2 ∧ H p.1 = none ∧ p.1 ≠ X.env.locals ∧ p.1 ∉ X.fs ∧ ∀ v, p.2.data ≠ .cell v) : Inv X pins' σ H s :=
  ⟨I.ok, I.os, I.bare, I.base, I.loc, I.cell, I.free, I.freeC, fun p hp => (List.mem_append.mp hp).elim (fun z => I.pin p (List.mem_append_left _ z)) (h p), I.hok, I.len⟩
theorem nodup_ix {N : List Str} (hN : N.Nodup) {i j : Nat} {x : Str} (a : N[i]? = some x) (b : N[j]? = some x) : i = j := by
  obtain ⟨h1, e1⟩ := List.getElem?_eq_some_iff.mp a
  obtain ⟨h2, e2⟩ := List.getElem?_eq_some_iff.mp b
  exact (List.getElem_inj hN).mp (e1.trans e2.symm)
theorem store_ok2 {M : Model} {A : Around} {E : Value → Shared → Prop} {i : Nat} {x : Str} {v : V} {u : Value} {Q : Unit → Shared → Prop} (I : Inv X pins σ H s) (hN : X.N.Nodup) (hi : X.N[i]? = some x) (hx : Loc X.env.scope x) (r : RelV v u)
    (h : ∀ s', Inv X pins (σ.set i (some v)) H s' → (∃ a, Heap.SameBut a s.heap s'.heap ∧ (a = X.env.locals ∨ X.env.cells.lookup x = some a)) → Q () s') (hf : X.fn x = true ∨ X.env.scope.names.lookup x = some .local := by first | exact .inl rfl | exact .inr rfl | assumption) : wpAny M A (storeName X.env x u) Q E s := by
  obtain ⟨m, hn, hl⟩ := id I.loc
  have hcls : (X.env.scope.kind == .class || (X.env.scope.kind == .module && X.env.locals != X.env.globals)) = false := by rw [I.ok.kind]; rfl
  have hiσ : i < σ.length := by rw [I.len]; exact (List.getElem?_eq_some_iff.mp hi).1
  have cne := I.cne
  have tracked : ∀ {a : Addr} {h' : Heap}, (∃ o, s.heap.get? a = some o ∧ H a = none) → Heap.SameBut a s.heap h' → HOk X.prog X.w H h' := fun {a h'} ha hs b ob e => by
    obtain ⟨_, _, hfree⟩ := ha
    refine (I.hok b ob e).stay (fun c w' hc q => (hs.2 c ?_).trans q) (fun _ q => q) fun _ _ q => q
    rintro rfl
    rcases hc with rfl | hc
    · rw [hfree] at e; cases e
    · rw [hfree] at hc; cases hc
  rcases hx with hk | hk
  · refine wpAny_storeName_local hk hn (fun h' hn' hs => ?_) hcls
    obtain ⟨oL, _, _, hoL, _⟩ := id hn
    refine h _ ⟨I.ok, I.os, I.bare, ⟨fun b o e n hb hx => ?_, fun b o e n hb hx => ?_, I.base.free, fun b o e hx => ?_, I.base.tups, I.base.frzs, I.base.tbls⟩, ⟨_, hn', fun j y v' e1 e2 e3 => ?_⟩, fun y c e => ?_, I.free, I.freeC, fun p hp => ?_, tracked ⟨oL, hoL, I.free⟩ hs, by simpa using I.len⟩ ⟨_, hs, .inl rfl⟩
    · exact (hs.2 b (Nat.ne_of_lt (Nat.lt_of_lt_of_le (Heap.lt_size e) I.ok.above))).trans (I.base.keep b o e n hb hx)
    · obtain ⟨sl, e1⟩ := I.base.slot b o e n hb hx
      exact ⟨sl, (hs.2 b (Nat.ne_of_lt (Nat.lt_of_lt_of_le (Heap.lt_size e) I.ok.above))).trans e1⟩
    · obtain ⟨o', e1⟩ := I.base.there b o e hx
      exact ⟨o', (hs.2 b (Nat.ne_of_lt (Nat.lt_of_lt_of_le (Heap.lt_size e) I.ok.above))).trans e1⟩
    · by_cases hj : j = i
      · subst hj
        rw [hi] at e1; cases e1
        rw [List.getElem?_set_self hiσ] at e2
        cases e2
        exact ⟨u, r, .inl ⟨hk, by simp⟩⟩
      · rw [List.getElem?_set_ne (Ne.symm hj)] at e2
        obtain ⟨u', r', q⟩ := hl j y v' e1 e2 e3
        refine ⟨u', r', ?_⟩
        rcases q with ⟨k, e⟩ | ⟨k, c, e, z⟩
        · refine .inl ⟨k, ?_⟩
          have : y ≠ x := fun e => hj (nodup_ix hN e1 (e ▸ hi))
          simp [this, e]
        · exact .inr ⟨k, c, e, z.sameBut hs (cne y c e)⟩
    · obtain ⟨w', z⟩ := I.cell y c e
      exact ⟨w', z.sameBut hs (cne y c e)⟩
    · obtain ⟨e, n, ne, nf, d⟩ := I.pin p hp
      exact ⟨(hs.2 p.1 ne).trans e, n, ne, nf, d⟩
  · have hfn : X.fn x = true := by
      rcases hf with z | z
      · exact z
      · rw [z] at hk; cases hk
    obtain ⟨c, hc⟩ := I.ok.has x (.inl hk)
    obtain ⟨w', z⟩ := I.cell x c hc
    refine wpAny_storeName_cell I.ok.kind hk hc z (fun h' hc' hs => ?_)
    obtain ⟨oc, hoc, hocd⟩ := id z
    refine h { s with heap := h' } ⟨I.ok, I.os, I.bare, ⟨fun b o e n hb hx => ?_, fun b o e n hb hx => ?_, I.base.free, fun b o e hx => ?_, I.base.tups, I.base.frzs, I.base.tbls⟩, ⟨m, hn.sameBut hs (Ne.symm (cne x c hc)), fun j y v' e1 e2 e3 => ?_⟩, fun y c' e => ?_, I.free, I.freeC, fun p hp => ?_, tracked ⟨oc, hoc, I.freeC x c hc⟩ hs, by simpa using I.len⟩ ⟨c, hs, .inr hc⟩
    · exact (hs.2 b (Nat.ne_of_lt (Nat.lt_of_lt_of_le (Heap.lt_size e) (I.ok.cab x c hfn hc)))).trans (I.base.keep b o e n hb hx)
    · obtain ⟨sl, e1⟩ := I.base.slot b o e n hb hx
      exact ⟨sl, (hs.2 b (Nat.ne_of_lt (Nat.lt_of_lt_of_le (Heap.lt_size e) (I.ok.cab x c hfn hc)))).trans e1⟩
    · obtain ⟨o', e1⟩ := I.base.there b o e hx
      exact ⟨o', (hs.2 b (Nat.ne_of_lt (Nat.lt_of_lt_of_le (Heap.lt_size e) (I.ok.cab x c hfn hc)))).trans e1⟩
    · by_cases hj : j = i
      · subst hj
        rw [hi] at e1; cases e1
        rw [List.getElem?_set_self hiσ] at e2
        cases e2
        exact ⟨u, r, .inr ⟨.inl hk, c, hc, hc'⟩⟩
      · rw [List.getElem?_set_ne (Ne.symm hj)] at e2
        obtain ⟨u', r', q⟩ := hl j y v' e1 e2 e3
        refine ⟨u', r', ?_⟩
        rcases q with q | ⟨k, c', e, z'⟩
        · exact .inl q
        · refine .inr ⟨k, c', e, z'.sameBut hs ?_⟩
          rintro rfl
          exact hj (nodup_ix hN e1 (I.ok.inj _ _ _ e hc ▸ hi))
    · by_cases hcc : c' = c
      · subst hcc; exact ⟨_, hc'⟩
      · obtain ⟨w2, z2⟩ := I.cell y c' e
        exact ⟨w2, z2.sameBut hs hcc⟩
    · obtain ⟨e, n, ne, nf, d⟩ := I.pin p hp
      refine ⟨(hs.2 p.1 ?_).trans e, n, ne, nf, d⟩
      intro q
      rw [q, hoc] at e
      have q' : oc = p.2 := Option.some.inj e
      exact d w' (by rw [← q']; exact hocd)
theorem store_ok {M : Model} {A : Around} {E : Value → Shared → Prop} {i : Nat} {x : Str} {v : V} {u : Value} {Q : Unit → Shared → Prop} (I : Inv X pins σ H s) (hN : X.N.Nodup) (hi : X.N[i]? = some x) (hx : Loc X.env.scope x) (r : RelV v u)
    (h : ∀ s', Inv X pins (σ.set i (some v)) H s' → Q () s') (hf : X.fn x = true ∨ X.env.scope.names.lookup x = some .local := by first | exact .inl rfl | exact .inr rfl | assumption) : wpAny M A (storeName X.env x u) Q E s :=
  store_ok2 I hN hi hx r (fun s' I' _ => h s' I') hf
theorem Inv.call' {s' : Shared} {ch : List Addr} (I : Inv X pins σ H s) (ho : s'.os = s.os) (u : Un (frs X.stack) ch H H' s.heap s'.heap) (hok : HOk X.prog X.w H' s'.heap) (hg : AllBare s'.gens)
    (hch : ∀ b ∈ ch, (b ∈ X.ex ∨ X.s₀.heap.objs.size ≤ b) ∧ b ≠ X.env.locals ∧ (∀ x c, X.env.cells.lookup x = some c → c ≠ b) ∧ ∀ p ∈ X.pn ++ pins, p.1 ≠ b) : Inv X pins σ H' s' := by
  obtain ⟨h', g', d', t', o'⟩ := s'
  have e : o' = s.os := ho
  subst e
  exact I.call (g' := g') (t' := t') (d' := d') u hok hg hch
end
abbrev XK := Value → Option Addr → Hp → Prop
abbrev St := List (Option V)
abbrev VK := V → Hp → Prop
abbrev TE := St → Hp → VK → Prop
abbrev TT := St → Hp → (Bool → Hp → Prop) → Prop
abbrev TA := St → Hp → (List V → Hp → Prop) → Prop
structure Ends where
  nx : St → Hp → Prop
  rt : VK
  bk : St → Hp → Prop := fun _ _ => False
  ct : St → Hp → Prop := fun _ _ => False
abbrev TS := Ends → St → Hp → Prop
def EP (X : Cx) (pins : List (Addr × Obj)) (σ : St) (Q : VK) (u : Value) (s' : Shared) : Prop := ∃ v H', Inv X pins σ H' s' ∧ RelV v u ∧ Q v H'
def TP (X : Cx) (pins : List (Addr × Obj)) (σ : St) (Q : Bool → Hp → Prop) (b : Bool) (s' : Shared) : Prop := ∃ H', Inv X pins σ H' s' ∧ Q b H'
def AP (X : Cx) (pins : List (Addr × Obj)) (σ : St) (Q : List V → Hp → Prop) (us : List Value) (s' : Shared) : Prop := ∃ vs H', Inv X pins σ H' s' ∧ Vals vs us ∧ Q vs H'
def SP (X : Cx) (pins : List (Addr × Obj)) (D : Ends) (f : Flow) (s' : Shared) : Prop :=
  match f with
  | .next => ∃ σ' H', Inv X pins σ' H' s' ∧ D.nx σ' H'
  | .brk => ∃ σ' H', Inv X pins σ' H' s' ∧ D.bk σ' H'
  | .cont => ∃ σ' H', Inv X pins σ' H' s' ∧ D.ct σ' H'
  | .ret u => ∃ v σ' H', Inv X pins σ' H' s' ∧ RelV v u ∧ D.rt v H'
def PE (X : Cx) (e : Expr) (t : TE) : Prop :=
  ∀ (pins : List (Addr × Obj)) (s : Shared) (σ : St) (H : Hp) (Q : VK), Inv X pins σ H s → t σ H Q → wpAny (model X.prog X.w) X.A (eval e X.env) (EP X pins σ Q) X.xe s
def PT (X : Cx) (e : Expr) (t : TT) : Prop :=
  ∀ (pins : List (Addr × Obj)) (s : Shared) (σ : St) (H : Hp) (Q : Bool → Hp → Prop), Inv X pins σ H s → t σ H Q → wpAny (model X.prog X.w) X.A (isTrue e X.env (eval e X.env)) (TP X pins σ Q) X.xe s
def PW (X : Cx) (e : Expr) (t : TT) : Prop :=
  ∀ (whole : Sem Value) (pins : List (Addr × Obj)) (s : Shared) (σ : St) (H : Hp) (Q : Bool → Hp → Prop), Inv X pins σ H s → t σ H Q → wpAny (model X.prog X.w) X.A (isTrue e X.env whole) (TP X pins σ Q) X.xe s
theorem PW.pt {X : Cx} {e : Expr} {t : TT} (h : PW X e t) : PT X e t := h _
def PA (X : Cx) (es : List Expr) (t : TA) : Prop :=
  ∀ (pos : Pos) (pins : List (Addr × Obj)) (s : Shared) (σ : St) (H : Hp) (Q : List V → Hp → Prop), Inv X pins σ H s → t σ H Q → wpAny (model X.prog X.w) X.A (spliced (backTo pos (starEach es X.env))) (AP X pins σ Q) X.xe s
def PS (X : Cx) (st : Stmt) (t : TS) : Prop :=
  ∀ (pins : List (Addr × Obj)) (s : Shared) (σ : St) (H : Hp) (D : Ends), Inv X pins σ H s → t D σ H → wpAny (model X.prog X.w) X.A (exec st X.env) (SP X pins D) X.xe s
def PSs (X : Cx) (st : List Stmt) (t : TS) : Prop :=
  ∀ (pins : List (Addr × Obj)) (s : Shared) (σ : St) (H : Hp) (D : Ends), Inv X pins σ H s → t D σ H → wpAny (model X.prog X.w) X.A (execs st X.env) (SP X pins D) X.xe s
theorem thn {α : Type} {t : Sem α} {Q Q' : α → Shared → Prop} {M : Model} {A : Around} {E : Value → Shared → Prop} {s : Shared} (h : wpAny M A t Q E s) (hQ : ∀ a s, Q a s → Q' a s) : wpAny M A t Q' E s := wpAny_mono h hQ fun _ _ x => x
end L2
namespace L2
open PySem PySem.Spec PyProof.Rows
section
variable {X : Cx}
def tVar (i : Nat) : TE := fun σ H Q => ∃ v, σ[i]? = some (some v) ∧ Q v H
def tC (v : V) : TE := fun _ H Q => Q v H
theorem pe_var {i : Nat} {x : Str} {pos : Pos} (hN : X.N[i]? = some x) (hv : Vis X.env.scope x) (hd : (x == ("__debug__" : Str)) = false := by decide) (hcd : (x == ("__classdict__" : Str)) = false := by decide) : PE X (.Name x pos) (tVar i) := by
  intro pins s σ H Q I h
  obtain ⟨v, e, h⟩ := h
  obtain ⟨m, hn, hl⟩ := I.loc
  obtain ⟨u, r, l⟩ := hl i x v hN e hv
  have fin : EP X pins σ Q u s := ⟨v, H, I, r, h⟩
  rcases l with ⟨hk, hm⟩ | ⟨hk, c, hc, hcell⟩
  · exact wpAny_Name (wpAny_loadName_local I.ok.kind hk hn hm fin) hd
  · rcases hk with hk | hk
    · exact wpAny_Name (wpAny_loadName_cell I.ok.kind hk hc hcell fin) hd
    · exact wpAny_Name (wpAny_loadName_free I.ok.kind hk hc hcell fin hcd) hd
theorem pe_int {i j pos} : PE X (.Constant (.int i) j pos) (tC (.int i)) := fun _ _ _ H _ I h => wpAny_Constant_int ⟨.int i, H, I.tok _, ⟨_, rfl⟩, h⟩
theorem pe_bl {b j pos} : PE X (.Constant (.bool b) j pos) (tC (.bl b)) := fun _ _ _ H _ I h => Constant_bool ⟨.bl b, H, I, rfl, h⟩
theorem pe_str {x j pos} : PE X (.Constant (.str x) j pos) (tC (.str x)) := fun _ _ _ H _ I h => Calls.Constant_str ⟨.str x, H, I.tok _, ⟨_, rfl⟩, h⟩
def Gl (X : Cx) (x : Str) : Prop := X.env.kindOf x = some .globalImplicit
theorem ld_glob {E : Value → Shared → Prop} {pins : List (Addr × Obj)} {s : Shared} {σ : St} {H : Hp} {x : Str} {u : Value} {pos : Pos} {Q : Value → Shared → Prop} (I : Inv X pins σ H s) (hg : Gl X x) (hm : X.mg x = some u) (h : Q u s)
    (hd : (x == ("__debug__" : Str)) = false := by decide) : wpAny (model X.prog X.w) X.A (eval (.Name x pos) X.env) Q E s :=
  Calls.Name_function_global I.ok.kind hg (Calls.loadGlobal_global (by rw [I.ok.glob]; exact I.mod.glob.keeps I.bk) hm h) hd
theorem ld_blt {E : Value → Shared → Prop} {pins : List (Addr × Obj)} {s : Shared} {σ : St} {H : Hp} {x : Str} {u : Value} {pos : Pos} {Q : Value → Shared → Prop} (I : Inv X pins σ H s) (hg : Gl X x) (hm : X.mg x = none) (hv : bootBuiltins x = some u) (h : Q u s)
    (hn : x ≠ "__name__" := by decide) (hd : (x == ("__debug__" : Str)) = false := by decide) : wpAny (model X.prog X.w) X.A (eval (.Name x pos) X.env) Q E s := by
  obtain ⟨mb, h1, h2⟩ := I.mod.blt
  exact Calls.Name_function_global I.ok.kind hg (Calls.loadGlobal_builtin (by rw [I.ok.glob]; exact I.mod.glob.keeps I.bk) hm (by rw [I.ok.blt]; exact h1.keeps I.bk) ((h2 x hn).trans hv) h) hd
theorem pe_glob {x : Str} {v : V} {u : Value} {pos : Pos} (hg : Gl X x) (hm : X.mg x = some u) (r : RelV v u) (hd : (x == ("__debug__" : Str)) = false := by decide) : PE X (.Name x pos) (tC v) :=
  fun _ _ _ H _ I h => ld_glob I hg hm ⟨v, H, I, r, h⟩ hd
theorem pe_bltn {x : Str} {v : V} {u : Value} {pos : Pos} (hg : Gl X x) (hm : X.mg x = none) (hv : bootBuiltins x = some u) (r : RelV v u) (hn : x ≠ "__name__" := by decide) (hd : (x == ("__debug__" : Str)) = false := by decide) : PE X (.Name x pos) (tC v) :=
  fun _ _ _ H _ I h => ld_blt I hg hm hv ⟨v, H, I, r, h⟩ hn hd
variable {a b : Expr} {ta tb : TE} {pos : Pos}
def PC (X : Cx) (op : CmpOp) (a b : Expr) (t : TE) : Prop :=
  ∀ (pins : List (Addr × Obj)) (s : Shared) (σ : St) (H : Hp) (Q : VK), Inv X pins σ H s → t σ H Q →
    wpAny (model X.prog X.w) X.A (eval a X.env) (fun v s₁ => wpAny (model X.prog X.w) X.A (eval b X.env) (fun u s₂ => wpAny (model X.prog X.w) X.A (compareOp op v u) (EP X pins σ Q) X.xe s₂) X.xe s₁) X.xe s
def tB (t : TE) : TT := fun σ H Q => t σ H fun x H1 => ∃ c, x = .bl c ∧ Q c H1
theorem pt_cmp {op : CmpOp} {t : TE} (h : PC X op a b t) (h1 : behindInMarks op b = false := by first | exact nobehind _ (by decide) (by decide) | rfl) : PT X (.Compare a [op] [b] pos) (tB t) := by
  intro pins s σ H Q I hw
  refine wpAny_isTrue_Compare1 (thn (h pins s σ H _ I hw) fun v s1 h1 => thn h1 fun u s2 h2 => thn h2 fun c s3 ⟨x, H1, I1, r1, q1⟩ => ?_) h1
  obtain ⟨d, rfl, q⟩ := q1
  cases r1
  exact wpAny_truthy_bool ⟨H1, I1, q⟩
theorem pt_val {e : Expr} {t : TE} (h : PE X e t) (he : ∀ whole, isTrue e X.env whole = (do let v ← whole; standAt e.pos; holding [v] (truthy v)) := by intro _; rfl) : PT X e (tB t) := by
  intro pins s σ H Q I hw
  refine isTrue_plain (thn (h pins s σ H _ I hw) fun v s1 ⟨x, H1, I1, r1, q1⟩ => ?_) (he _)
  obtain ⟨d, rfl, q⟩ := q1
  cases r1
  exact wpAny_truthy_bool ⟨H1, I1, q⟩
variable {tA tB' : TT} {rest : List Expr}
def tAnd (t u : TT) : TT := fun σ H Q => t σ H fun c H1 => if c = true then u σ H1 Q else Q false H1
def tOr (t u : TT) : TT := fun σ H Q => t σ H fun c H1 => if c = true then Q true H1 else u σ H1 Q
def tNot (t : TT) : TT := fun σ H Q => t σ H fun c H1 => Q (!c) H1
theorem pw_and1 (ha : PT X a tA) : PW X (.BoolOp .And [a] pos) tA := by
  intro wh pins s σ H Q I h
  refine isTrue_and (thn (ha pins s σ H Q I h) fun c s1 e => ?_)
  cases c with
  | true => exact isTrue_and_nil e
  | false => exact e
theorem pw_or1 (ha : PT X a tA) : PW X (.BoolOp .Or [a] pos) tA := by
  intro wh pins s σ H Q I h
  refine isTrue_or (thn (ha pins s σ H Q I h) fun c s1 e => ?_)
  cases c with
  | false => exact isTrue_or_nil e
  | true => exact e
theorem pw_and (ha : PT X a tA) (hb : PW X (.BoolOp .And (b :: rest) pos) tB') : PW X (.BoolOp .And (a :: b :: rest) pos) (tAnd tA tB') := by
  intro wh pins s σ H Q I h
  refine isTrue_and (thn (ha pins s σ H _ I h) fun c s1 ⟨H1, I1, q1⟩ => ?_)
  cases c with
  | true => exact hb wh pins s1 σ H1 Q I1 q1
  | false => exact ⟨H1, I1, q1⟩
theorem pw_or (ha : PT X a tA) (hb : PW X (.BoolOp .Or (b :: rest) pos) tB') : PW X (.BoolOp .Or (a :: b :: rest) pos) (tOr tA tB') := by
  intro wh pins s σ H Q I h
  refine isTrue_or (thn (ha pins s σ H _ I h) fun c s1 ⟨H1, I1, q1⟩ => ?_)
  cases c with
  | true => exact ⟨H1, I1, q1⟩
  | false => exact hb wh pins s1 σ H1 Q I1 q1
theorem pt_not (ha : PT X a tA) : PT X (.UnaryOp .Not a pos) (tNot tA) := by
  intro pins s σ H Q I h
  exact isTrue_not (ha pins s σ H (fun c H1 => Q (!c) H1) I h)
def tAndV (ta tb : TE) : TE := fun σ H Q => ta σ H fun x H1 => ∃ c, x = .bl c ∧ if c = true then tb σ H1 Q else Q (.bl false) H1
def tNotV (ta : TE) : TE := fun σ H Q => ta σ H fun x H1 => ∃ c, x = .bl c ∧ Q (.bl (!c)) H1
theorem pe_one {op} {t : TE} (h : PE X a t) : PE X (.BoolOp op [a] pos) t := fun pins s σ H Q I hw => BoolOp_one (h pins s σ H Q I hw)
theorem pe_and (ha : PE X a ta) (hb : PE X (.BoolOp .And (b :: rest) pos) tb) : PE X (.BoolOp .And (a :: b :: rest) pos) (tAndV ta tb) := by
  intro pins s σ H Q I h
  refine BoolOp_and (thn (ha pins s σ H _ I h) fun v s1 ⟨x, H1, I1, r1, q1⟩ => ?_)
  obtain ⟨c, rfl, q1⟩ := q1
  cases r1
  refine wpAny_truthy_bool ?_
  cases c with
  | true => exact hb pins s1 σ H1 Q I1 q1
  | false => exact ⟨.bl false, H1, I1, rfl, q1⟩
theorem pe_not (ha : PE X a ta) : PE X (.UnaryOp .Not a pos) (tNotV ta) := by
  intro pins s σ H Q I h
  refine UnaryOp_ (thn (ha pins s σ H _ I h) fun v s1 ⟨x, H1, I1, r1, q1⟩ => ?_)
  obtain ⟨c, rfl, q1⟩ := q1
  cases r1
  exact not_of (wpAny_truthy_bool ⟨.bl (!c), H1, I1, rfl, q1⟩)
def tIf (t : TT) (ta tb : TE) : TE := fun σ H Q => t σ H fun c H1 => if c = true then ta σ H1 Q else tb σ H1 Q
theorem pe_ifExp {c : Expr} (hc : PT X c tA) (ha : PE X a ta) (hb : PE X b tb) : PE X (.IfExp c a b pos) (tIf tA ta tb) := by
  intro pins s σ H Q I h
  refine wpAny_IfExp (thn (hc pins s σ H _ I h) fun d s1 ⟨H1, I1, q1⟩ => ?_)
  cases d with
  | true => exact ha pins s1 σ H1 Q I1 q1
  | false => exact hb pins s1 σ H1 Q I1 q1
end
end L2
namespace L2
open PySem PySem.Spec PyProof.Rows
def SqL (K : PySem.W.Frag) (H : Hp) (a : Addr) (xs : List V) : Prop :=
  Rd H a (.lst xs) ∨
    ∃ (o : Obj) (its : Array Value) (n : Nat), K.lookup a = some o ∧ o.cls = .type "list" ∧ o.dict = none ∧ o.data = .seq its n ∧ its.size ≤ sizeLine ∧ Vals xs its.toList
def SqT (K : PySem.W.Frag) (H : Hp) (a : Addr) (xs : List V) : Prop :=
  Rd H a (.tup xs) ∨
    ∃ (o : Obj) (its : Array Value) (n : Nat), K.lookup a = some o ∧ o.cls = .type "tuple" ∧ o.data = .seq its n ∧ its.size ≤ sizeLine ∧ Vals xs its.toList
def absV : Value → Option V
  | .none => some .non
  | .bool b => some (.bl b)
  | .int i _ => some (.int i)
  | .str x _ => some (.str x)
  | .bytes b _ => some (.byt b)
  | .float b _ => some (.flt b)
  | .ref a => some (.ref a)
  | .type n => some (.ty n)
  | _ => none
theorem RelV.abs {x : V} {u : Value} (r : RelV x u) : absV u = some x := by
  cases x with
  | non => cases r; rfl
  | bl _ => cases r; rfl
  | int _ => obtain ⟨t, rfl⟩ := r; rfl
  | str _ => obtain ⟨t, rfl⟩ := r; rfl
  | byt _ => obtain ⟨t, rfl⟩ := r; rfl
  | flt _ => obtain ⟨t, rfl⟩ := r; rfl
  | ref _ => cases r; rfl
  | ty _ => cases r; rfl
theorem RelV.inj {x y : V} {u : Value} (r : RelV x u) (q : RelV y u) : x = y := Option.some.inj (r.abs.symm.trans q.abs)
theorem Vals.inj : ∀ {xs ys : List V} {us : List Value}, Vals xs us → Vals ys us → xs = ys
  | _, _, _, .nil, .nil => rfl
  | _, _, _, .cons r t, .cons r' t' => by rw [r.inj r', Vals.inj t t']
section
variable {X : Cx} {pins : List (Addr × Obj)} {σ : St} {H : Hp} {s : Shared} {a : Addr} {xs ys : List V}
theorem SqL.of {K : PySem.W.Frag} (h : H a = some (.lst xs)) : SqL K H a xs := .inl (.inl h)
theorem SqT.of {K : PySem.W.Frag} (h : H a = some (.tup xs)) : SqT K H a xs := .inl (.inl h)
theorem Inv.list (I : Inv X pins σ H s) (h : SqL X.K H a xs) : ∃ its : List Value, Vals xs its ∧ PlainL s.heap a its.toArray ∧ xs.length ≤ sizeLine := by
  rcases h with h | ⟨o, its, n, hk, hc, hd, hs, hz, r⟩
  · obtain ⟨z, its, n, r, e⟩ := h.ok I.hok
    exact ⟨its, r, ⟨_, n, e, rfl, rfl, rfl⟩, z⟩
  · refine ⟨its.toList, r, ⟨o, n, I.kIn a o hk, hc, hd, by simpa using hs⟩, ?_⟩
    have e := r.length
    simp only [Array.length_toList] at e
    omega
theorem Inv.tuple (I : Inv X pins σ H s) (h : SqT X.K H a xs) : ∃ its : List Value, Vals xs its ∧ IsTup s.heap a its.toArray ∧ xs.length ≤ sizeLine := by
  rcases h with h | ⟨o, its, n, hk, hc, hs, hz, r⟩
  · obtain ⟨z, its, r, p⟩ := h.ok I.hok
    exact ⟨its, r, p, z⟩
  · refine ⟨its.toList, r, ⟨o, I.kIn a o hk, hc, n, by simpa using hs⟩, ?_⟩
    have e := r.length
    simp only [Array.length_toList] at e
    omega
theorem Inv.list_inj (I : Inv X pins σ H s) (h : SqL X.K H a xs) (h' : SqL X.K H a ys) : xs = ys := by
  obtain ⟨its, r, ⟨o, n, e, _, _, d⟩, _⟩ := I.list h
  obtain ⟨its', r', ⟨o', n', e', _, _, d'⟩, _⟩ := I.list h'
  rw [e] at e'; cases e'
  rw [d] at d'
  injection d' with d1 _
  have : its = its' := by simpa using congrArg Array.toList d1
  subst this
  exact r.inj r'
theorem Inv.tuple_inj (I : Inv X pins σ H s) (h : SqT X.K H a xs) (h' : SqT X.K H a ys) : xs = ys := by
  obtain ⟨its, r, ⟨o, e, _, n, d⟩, _⟩ := I.tuple h
  obtain ⟨its', r', ⟨o', e', _, n', d'⟩, _⟩ := I.tuple h'
  rw [e] at e'; cases e'
  rw [d] at d'
  injection d' with d1 _
  have : its = its' := by simpa using congrArg Array.toList d1
  subst this
  exact r.inj r'
end
abbrev Cx.wish (X : Cx) (E : Value → Shared → Prop) : Cx := { X with xe := E }
abbrev Cx.nox (X : Cx) : Cx := X.wish fun _ _ => False
theorem Cx.Ok.wish {X : Cx} (ok : X.Ok) (E : Value → Shared → Prop) : (X.wish E).Ok :=
  ⟨ok.mod, ok.kind, ok.glob, ok.blt, ok.above, ok.inj, ok.has, ok.cab, ok.hd, ok.frames, ok.stk, ok.exf, ok.bs, ok.bsz, ok.noex, ok.exfs, ok.funs, ok.frf⟩
theorem Cx.Ok.unwish {X : Cx} {E : Value → Shared → Prop} (ok : (X.wish E).Ok) : X.Ok :=
  ⟨ok.mod, ok.kind, ok.glob, ok.blt, ok.above, ok.inj, ok.has, ok.cab, ok.hd, ok.frames, ok.stk, ok.exf, ok.bs, ok.bsz, ok.noex, ok.exfs, ok.funs, ok.frf⟩
section
variable {X : Cx} {pins : List (Addr × Obj)} {σ : St} {H : Hp} {s : Shared} {E : Value → Shared → Prop}
theorem Inv.wish (I : Inv X pins σ H s) (E : Value → Shared → Prop) : Inv (X.wish E) pins σ H s := ⟨I.ok.wish E, I.os, I.bare, I.base, I.loc, I.cell, I.free, I.freeC, I.pin, I.hok, I.len⟩
theorem Inv.unwish (I : Inv (X.wish E) pins σ H s) : Inv X pins σ H s := ⟨I.ok.unwish, I.os, I.bare, I.base, I.loc, I.cell, I.free, I.freeC, I.pin, I.hok, I.len⟩
theorem SP.unwish {D : Ends} {f : Flow} {s' : Shared} (h : SP (X.wish E) pins D f s') : SP X pins D f s' := by
  cases f with
  | next => obtain ⟨σ', H', I, q⟩ := h; exact ⟨σ', H', I.unwish, q⟩
  | brk => obtain ⟨σ', H', I, q⟩ := h; exact ⟨σ', H', I.unwish, q⟩
  | cont => obtain ⟨σ', H', I, q⟩ := h; exact ⟨σ', H', I.unwish, q⟩
  | ret u => obtain ⟨v, σ', H', I, r, q⟩ := h; exact ⟨v, σ', H', I.unwish, r, q⟩
theorem PSs.nox {st : List Stmt} {t : TS} (h : PSs X.nox st t) : PSs X st t := fun pins s σ H D I hw =>
  wpAny_mono (h pins s σ H D (I.wish _) hw) (fun _ _ q => q.unwish) fun _ _ z => False.elim z
end
section
variable {X : Cx} {st : Stmt} {rest : List Stmt} {t u : TS} {e : Expr} {te : TE} {pos : Pos}
def tNext : TS := fun D σ H => D.nx σ H
def tSeq (t u : TS) : TS := fun D σ H => t { D with nx := u D } σ H
theorem pss_nil : PSs X [] tNext := fun _ _ σ H _ I h => wpAny_execs_nil ⟨σ, H, I, h⟩
theorem pss_cons (h1 : PS X st t) (h2 : PSs X rest u) : PSs X (st :: rest) (tSeq t u) := by
  intro pins s σ H D I h
  refine wpAny_execs_cons (thn (h1 pins s σ H { D with nx := u D } I h) fun f s1 q => ?_)
  cases f with
  | next =>
    obtain ⟨σ', H', I', q⟩ := q
    exact h2 pins s1 σ' H' D I' q
  | ret v => exact q
  | brk => exact q
  | cont => exact q
theorem pss_one (h1 : PS X st t) : PSs X [st] t := by
  intro pins s σ H D I h
  refine wpAny_execs_cons (thn (h1 pins s σ H D I h) fun f s1 q => ?_)
  cases f with
  | next => exact wpAny_execs_nil q
  | ret v => exact q
  | brk => exact q
  | cont => exact q
theorem Inv.quiet {pins : List (Addr × Obj)} {σ : St} {H : Hp} {s : Shared} (I : Inv X pins σ H s) : interactive X.env = false := by simp [interactive, I.ok.kind]
def tDrop (te : TE) : TS := fun D σ H => te σ H fun _ H1 => D.nx σ H1
theorem ps_expr (he : PE X e te) (hs : swapsWith e none pos.line X.env = pure false := by rfl) : PS X (.Expr e pos) (tDrop te) := by
  intro pins s σ H D I h
  exact wpAny_Expr_any (thn (he pins s σ H _ I h) fun v s1 ⟨x, H1, I1, r1, q1⟩ => ⟨σ, H1, I1, q1⟩) I.quiet hs
def tRet (te : TE) : TS := fun D σ H => te σ H D.rt
theorem ps_ret (he : PE X e te) : PS X (.Return (some e) pos) (tRet te) := by
  intro pins s σ H D I h
  exact wpAny_Return_some (thn (he pins s σ H _ I h) fun v s1 ⟨x, H1, I1, r1, q1⟩ => ⟨x, σ, H1, I1, r1, q1⟩)
def tIfS (c : TT) (t u : TS) : TS := fun D σ H => c σ H fun b H1 => if b = true then t D σ H1 else u D σ H1
theorem ps_if {c : Expr} {a b : List Stmt} {tc : TT} (hc : PT X c tc) (ha : PSs X a t) (hb : PSs X b u) : PS X (.If c a b pos) (tIfS tc t u) := by
  intro pins s σ H D I h
  refine wpAny_If (thn (hc pins s σ H _ I h) fun d s1 ⟨H1, I1, q1⟩ => ?_)
  cases d with
  | true => exact ha pins s1 σ H1 D I1 q1
  | false => exact hb pins s1 σ H1 D I1 q1
end
abbrev TG := V → St → Hp → (St → Hp → Prop) → Prop
abbrev TGs := List V → St → Hp → (St → Hp → Prop) → Prop
def PG (X : Cx) (target : Expr) (t : TG) : Prop :=
  ∀ (pins : List (Addr × Obj)) (s : Shared) (σ : St) (H : Hp) (v : V) (u : Value) (Q : St → Hp → Prop), Inv X pins σ H s → RelV v u → t v σ H Q →
    wpAny (model X.prog X.w) X.A (assign target X.env u) (fun _ s' => ∃ σ' H', Inv X pins σ' H' s' ∧ Q σ' H') X.xe s
def PGs (X : Cx) (ts : List Expr) (t : TGs) : Prop :=
  ∀ (pins : List (Addr × Obj)) (s : Shared) (σ : St) (H : Hp) (vs : List V) (us : List Value) (Q : St → Hp → Prop), Inv X pins σ H s → Vals vs us → t vs σ H Q →
    wpAny (model X.prog X.w) X.A (assignInOrder ((assignEach ts X.env).map (·.2)) us) (fun _ s' => ∃ σ' H', Inv X pins σ' H' s' ∧ Q σ' H') X.xe s
abbrev TSet := V → V → V → Hp → (Hp → Prop) → Prop
def PSet (X : Cx) (t : TSet) : Prop :=
  ∀ (pins : List (Addr × Obj)) (s : Shared) (σ : St) (H : Hp) (o i v : V) (ov iv u : Value) (Q : Hp → Prop), Inv X pins σ H s → RelV o ov → RelV i iv → RelV v u → t o i v H Q →
    wpAny (model X.prog X.w) X.A (setItem ov iv u) (fun _ s' => ∃ H', Inv X pins σ H' s' ∧ Q H') X.xe s
section
variable {X : Cx} {pos : Pos}
def gName (i : Nat) : TG := fun v σ H Q => Q (σ.set i (some v)) H
theorem pg_name {i : Nat} {x : Str} (hN : X.N.Nodup) (hi : X.N[i]? = some x) (hx : Loc X.env.scope x) (hf : X.fn x = true ∨ X.env.scope.names.lookup x = some .local := by first | exact .inl rfl | exact .inr rfl | assumption) : PG X (.Name x pos) (gName i) := by
  intro pins s σ H v u Q I r h
  exact wpAny_assign_Name (store_ok I hN hi hx r (fun s' I' => ⟨_, H, I', h⟩) hf)
def gNil : TGs := fun vs σ H Q => vs = [] ∧ Q σ H
def gCons (t : TG) (u : TGs) : TGs := fun vs σ H Q => ∃ v r, vs = v :: r ∧ t v σ H fun σ' H' => u r σ' H' Q
theorem pgs_nil : PGs X [] gNil := by
  intro pins s σ H vs us Q I r h
  obtain ⟨e, h⟩ := h
  subst e
  cases r
  exact assignInOrder_nil ⟨σ, H, I, h⟩
theorem pgs_cons {e : Expr} {es : List Expr} {t : TG} {u : TGs} (h1 : PG X e t) (h2 : PGs X es u)
    (hs : (assignEach (e :: es) X.env).map (·.2) = assign e X.env :: (assignEach es X.env).map (·.2) := by rfl) : PGs X (e :: es) (gCons t u) := by
  intro pins s σ H vs us Q I r h
  obtain ⟨v, vr, e1, h⟩ := h
  subst e1
  cases r with
  | cons r rr =>
    rw [hs]
    refine assignInOrder_cons (thn (h1 pins s σ H _ _ _ I r h) fun _ s1 ⟨σ1, H1, I1, q1⟩ => ?_)
    exact h2 pins s1 σ1 H1 _ _ Q I1 rr q1
def gTup (K : PySem.W.Frag) (n : Nat) (t : TGs) : TG := fun v σ H Q => ∃ a xs, v = .ref a ∧ SqT K H a xs ∧ xs.length = n ∧ t xs σ H Q
theorem pg_tup {es : List Expr} {k : Nat} {t : TGs} {n : Nat} (hc : X.calm = true) (h : PGs X es t)
    (hn : (assignEach es X.env).length = n := by rfl) (hst : (assignEach es X.env).findIdx? (·.1) = none := by rfl) : PG X (.Tuple es k pos) (gTup X.K n t) := by
  intro pins s σ H v u Q I r hw
  obtain ⟨a, xs, e1, hq, hl, hw⟩ := hw
  subst e1
  cases r
  obtain ⟨its, rv, ht, hz⟩ := I.tuple hq
  refine assign_Tuple_tuple (I.ok.hd hc) ht (by simp [hn, ← hl, rv.length]) hst fun h' hx => ?_
  have I1 : Inv X pins σ H { s with heap := h' } := I.kept (t' := s.toks) fun b o e => hx b o (Nat.ne_of_lt (Heap.lt_size e)) e
  exact h pins _ σ H xs _ Q I1 (by simpa using rv) hw
def gSub (to ti : TE) (t : TSet) : TG := fun v σ H Q => to σ H fun o H1 => ti σ H1 fun i H2 => t o i v H2 fun H3 => Q σ H3
theorem pg_sub {o i : Expr} {to ti : TE} {t : TSet} (ho : PE X o to) (hi : PE X i ti) (hs : PSet X t)
    (ha : ∀ v, assign (.Subscript o i pos) X.env v = (do
      let ov ← holding [v] (eval o X.env)
      let iv ← holding [v, ov] (eval i X.env)
      standAt pos
      holding [v, ov, iv] (setItem ov iv v)
      release [v, ov, iv] []) := by intro _; rfl) : PG X (.Subscript o i pos) (gSub to ti t) := by
  intro pins s σ H v u Q I r h
  rw [ha]
  refine wpAny_bind (wpAny_holding (thn (ho pins s σ H _ I h) fun ov s1 ⟨x, H1, I1, r1, q1⟩ => ?_))
  refine wpAny_bind (wpAny_holding (thn (hi pins s1 σ H1 _ I1 q1) fun iv s2 ⟨y, H2, I2, r2, q2⟩ => ?_))
  refine wpAny_bind (wpAny_standAt (wpAny_bind (wpAny_holding (thn (hs pins s2 σ H2 x y v ov iv u _ I2 r1 r2 r q2) fun _ s3 ⟨H3, I3, q3⟩ => ?_))))
  exact wpAny_release ⟨σ, H3, I3, q3⟩
def tAsg (te : TE) (g : TG) : TS := fun D σ H => te σ H fun x H1 => g x σ H1 D.nx
theorem ps_asg {tg e : Expr} {te : TE} {g : TG} (he : PE X e te) (hg : PG X tg g) (hs : swapsWithSole [tg] e pos.line X.env = pure false := by rfl) (hw : swappedStores [tg] e X.env = pure none := by rfl)
    (h1 : (assignEach [tg] X.env).map (·.2) = [assign tg X.env] := by rfl) : PS X (.Assign [tg] e pos) (tAsg te g) := by
  intro pins s σ H D I h
  refine wpAny_Assign_stores (thn (he pins s σ H _ I h) fun v s1 ⟨x, H1, I1, r1, q1⟩ => ?_) hs hw
  rw [h1]
  exact thn (hg pins s1 σ H1 x v _ I1 r1 q1) fun _ s2 q => q
theorem ps_set {i : Nat} {x : Str} {e : Expr} {te : TE} {pos' : Pos} (hN : X.N.Nodup) (hi : X.N[i]? = some x) (hx : Loc X.env.scope x) (he : PE X e te) (hs : swapsWith e (some (.Name x pos')) pos.line X.env = pure false := by rfl) (hf : X.fn x = true ∨ X.env.scope.names.lookup x = some .local := by first | exact .inl rfl | exact .inr rfl | assumption) :
    PS X (.Assign [.Name x pos'] e pos) (tAsg te (gName i)) := by
  intro pins s σ H D I h
  refine wpAny_Assign_Name (thn (he pins s σ H _ I h) fun v s1 ⟨y, H1, I1, r1, q1⟩ => ?_) hs
  exact store_ok I1 hN hi hx r1 (fun s2 I2 => ⟨_, H1, I2, q1⟩) hf
end
section
variable {X : Cx} {pos : Pos}
end
structure It where
  go : Nat → Hp → Prop
  yld : Nat → Hp → V → Hp → Prop
  stop : Nat → Hp → Prop
def FpOk (X : Cx) (pins : List (Addr × Obj)) (H : Hp) (b : Addr) : Prop :=
  H b = none ∧ b ≠ X.env.locals ∧ b ∉ X.fs ∧ (b ∈ X.ex ∨ X.s₀.heap.objs.size ≤ b) ∧ (∀ x c, X.env.cells.lookup x = some c → c ≠ b) ∧ ∀ p ∈ X.pn ++ pins, p.1 ≠ b
theorem Inv.fpOk {X : Cx} {pins : List (Addr × Obj)} {σ : St} {H H' : Hp} {s : Shared} {b : Addr} (I : Inv X pins σ H s) (hb : s.heap.objs.size ≤ b) (hn : H' b = none) : FpOk X pins H' b := by
  refine ⟨hn, Nat.ne_of_gt (Nat.lt_of_lt_of_le I.lt hb), I.nofs hb, .inr (Nat.le_trans I.sz hb), fun x c e z => ?_, fun p hp z => ?_⟩
  · obtain ⟨v, q⟩ := I.cell x c e
    exact absurd (Nat.lt_of_lt_of_le q.lt (by rw [z]; exact hb)) (Nat.lt_irrefl _)
  · exact absurd (Nat.lt_of_lt_of_le (Heap.lt_size (I.pin p hp).1) (by rw [z]; exact hb)) (Nat.lt_irrefl _)
structure Turn (P : Program) (w : World) (K : PySem.W.Frag) (tg : Expr) (J : It) (fp : List Addr) (it : Addr) (tn : Nat → Heap → Prop) : Prop where
  mem : it ∈ fp
  obj : ∀ i h, tn i h → ∀ b ∈ fp, ∃ o, h.get? b = some o ∧ ∀ v, o.data ≠ .cell v
  keep : ∀ i h h', tn i h → (∀ b ∈ fp, ∀ o, h.get? b = some o → h'.get? b = some o) → tn i h'
  item : ∀ (X : Cx), X.prog = P → X.w = w → X.K = K → X.calm = true → ∀ (i : Nat) (pins : List (Addr × Obj)) (s : Shared) (σ : St) (H : Hp) (E : Value → Shared → Prop), Inv X pins σ H s → (∀ b ∈ fp, FpOk X pins H b) → tn i s.heap → J.go i H →
    wpAny (model P w) X.A (pyNext (.ref it)) (fun r s1 => ∃ u, r = some u ∧
      wpAny (model P w) X.A (letOwnedTupleGo tg (.ref it) u) (fun _ s2 => ∃ x H', Inv X pins σ H' s2 ∧ RelV x u ∧ J.yld i H x H' ∧ tn (i + 1) s2.heap ∧ ∀ b ∈ fp, H' b = none) E s1) E s
  done : ∀ (X : Cx), X.prog = P → X.w = w → X.K = K → X.calm = true → ∀ (i : Nat) (pins : List (Addr × Obj)) (s : Shared) (σ : St) (H : Hp) (E : Value → Shared → Prop), Inv X pins σ H s → (∀ b ∈ fp, FpOk X pins H b) → tn i s.heap → J.stop i H →
    wpAny (model P w) X.A (pyNext (.ref it)) (fun r s1 => r = none ∧ Inv X pins σ H s1) E s
  self : ∀ (A : Around) (i : Nat) (s : Shared) (Q : Value → Shared → Prop) (E : Value → Shared → Prop), tn i s.heap → Q (.ref it) s → wpAny (model P w) A (pyIter (.ref it)) Q E s
abbrev TI := St → Hp → (It → Hp → Prop) → Prop
def PIE (X : Cx) (pins : List (Addr × Obj)) (σ : St) (tg : Expr) (R : It → Hp → Prop) (itv : Value) (s2 : Shared) : Prop :=
  ∃ (it : Addr) (fp : List Addr) (tn : Nat → Heap → Prop) (J : It) (H' : Hp), itv = .ref it ∧ Inv X pins σ H' s2 ∧ Turn X.prog X.w X.K tg J fp it tn ∧ tn 0 s2.heap ∧ (∀ b ∈ fp, FpOk X pins H' b) ∧ R J H'
def PI (X : Cx) (tg iter : Expr) (wi : TI) : Prop :=
  ∀ (pins : List (Addr × Obj)) (s : Shared) (σ : St) (H : Hp) (R : It → Hp → Prop), Inv X pins σ H s → wi σ H R →
    wpAny (model X.prog X.w) X.A (eval iter X.env) (fun v s1 => wpAny (model X.prog X.w) X.A (pyIter v) (PIE X pins σ tg R) X.xe s1) X.xe s
theorem go_of {M : Model} {A : Around} {E : Value → Shared → Prop} {s : Shared} {tg : Expr} {it : Addr} {u : Value} {o : Obj} {n : String} {vs : Array Value} {Q : Unit → Shared → Prop} (ho : s.heap.get? it = some o) (hc : o.cls = .type n) (hd : o.data = .fields vs)
    (hn : ["enumerate", "zip", "dict_itemiterator", "dict_reverseitemiterator", "odict_iterator", "itertools.zip_longest", "itertools.pairwise"].contains n = false) (hQ : Q () s) : wpAny M A (letOwnedTupleGo tg (.ref it) u) Q E s := by
  unfold letOwnedTupleGo
  cases tg <;> first
    | exact wpAny_pure hQ
    | (cases u <;> first
        | exact wpAny_pure hQ
        | (refine wpAny_bind (wpAny_load ho ?_)
           rw [hc, hd]
           show wpAny M A (if (["enumerate", "zip", "dict_itemiterator", "dict_reverseitemiterator", "odict_iterator", "itertools.zip_longest", "itertools.pairwise"].contains n && vs[0]? == some (rawInt _)) = true then _ else _) Q E s
           rw [if_neg (by intro h; rw [hn, Bool.false_and] at h; cases h)]
           exact wpAny_pure hQ))
def Itl (K : PySem.W.Frag) (a : Addr) : It :=
  ⟨fun i H => ∃ xs x, SqL K H a xs ∧ xs[i]? = some x, fun i H x H' => H' = H ∧ ∀ xs, SqL K H a xs → xs[i]? = some x, fun i H => ∃ xs, SqL K H a xs ∧ xs.length ≤ i⟩
def Itt (K : PySem.W.Frag) (a : Addr) : It :=
  ⟨fun i H => ∃ xs x, SqT K H a xs ∧ xs[i]? = some x, fun i H x H' => H' = H ∧ ∀ xs, SqT K H a xs → xs[i]? = some x, fun i H => ∃ xs, SqT K H a xs ∧ xs.length ≤ i⟩
def Itr (lo : Int) (n : Nat) : It := ⟨fun i _ => i < n, fun i H x H' => H' = H ∧ x = .int (lo + i), fun i _ => n ≤ i⟩
theorem turn_list {P : Program} {w : World} {K : PySem.W.Frag} {tg : Expr} (a it : Addr) : Turn P w K tg (Itl K a) [it] it (fun i h => h.IsListIter it a i) where
  mem := by simp
  obj := fun i h st b hb => by
    have e : b = it := by simpa using hb
    subst e
    obtain ⟨o, e, c, d⟩ := st
    exact ⟨o, e, fun v z => by rw [d] at z; cases z⟩
  keep := fun i h h' st k => st.at fun o e => k it (by simp) o e
  item := by
    intro X hP hw hK hc i pins s σ H E I hf st hg
    subst hP hw hK
    obtain ⟨xs, x, hq, hx⟩ := hg
    obtain ⟨its, rv, p, hz⟩ := I.list hq
    obtain ⟨u, hu, ru⟩ := rv.get hx
    obtain ⟨f0, f1, f2, f3, f4, f5⟩ := hf it (by simp)
    refine wpAny_pyNext_list_item st p.isList (x := u) (by simpa using hu) fun h' st' sb => ?_
    have I1 : Inv X pins σ H { s with heap := h' } := I.turned (t' := s.toks) (fun b o hb e => (sb.2 b hb).trans e) f0 f1 f3 f4 f5
    obtain ⟨o, e, c, d⟩ := id st'
    exact ⟨u, rfl, go_of (s := { s with heap := h' }) e c d (by decide) ⟨x, H, I1, ru, ⟨rfl, fun ys hy => by rw [I.list_inj hy hq]; exact hx⟩, st', fun b hb => (hf b hb).1⟩⟩
  done := by
    intro X hP hw hK hc i pins s σ H E I hf st hg
    subst hP hw hK
    obtain ⟨xs, hq, hx⟩ := hg
    obtain ⟨its, rv, p, hz⟩ := I.list hq
    obtain ⟨f0, f1, f2, f3, f4, f5⟩ := hf it (by simp)
    have hl := rv.length
    exact wpAny_pyNext_list_end (I.ok.hd hc) st p.isList (by simp; omega) fun h' eb => ⟨rfl, I.turned (t' := s.toks) (fun b o hb e => eb b o hb e) f0 f1 f3 f4 f5⟩
  self := fun _ _ _ _ _ st h => wpAny_pyIter_listiter st h
theorem turn_tuple {P : Program} {w : World} {K : PySem.W.Frag} {tg : Expr} (a it : Addr) : Turn P w K tg (Itt K a) [it] it (fun i h => h.IsTupleIter it a i) where
  mem := by simp
  obj := fun i h st b hb => by
    have e : b = it := by simpa using hb
    subst e
    obtain ⟨o, e, c, d⟩ := st
    exact ⟨o, e, fun v z => by rw [d] at z; cases z⟩
  keep := fun i h h' st k => st.at fun o e => k it (by simp) o e
  item := by
    intro X hP hw hK hc i pins s σ H E I hf st hg
    subst hP hw hK
    obtain ⟨xs, x, hq, hx⟩ := hg
    obtain ⟨its, rv, p, hz⟩ := I.tuple hq
    obtain ⟨u, hu, ru⟩ := rv.get hx
    obtain ⟨f0, f1, f2, f3, f4, f5⟩ := hf it (by simp)
    refine wpAny_pyNext_tuple_item st (show s.heap.IsTuple a its.toArray from p) (x := u) (by simpa using hu) fun h' st' sb => ?_
    have I1 : Inv X pins σ H { s with heap := h' } := I.turned (t' := s.toks) (fun b o hb e => (sb.2 b hb).trans e) f0 f1 f3 f4 f5
    obtain ⟨o, e, c, d⟩ := id st'
    exact ⟨u, rfl, go_of (s := { s with heap := h' }) e c d (by decide) ⟨x, H, I1, ru, ⟨rfl, fun ys hy => by rw [I.tuple_inj hy hq]; exact hx⟩, st', fun b hb => (hf b hb).1⟩⟩
  done := by
    intro X hP hw hK hc i pins s σ H E I hf st hg
    subst hP hw hK
    obtain ⟨xs, hq, hx⟩ := hg
    obtain ⟨its, rv, p, hz⟩ := I.tuple hq
    obtain ⟨f0, f1, f2, f3, f4, f5⟩ := hf it (by simp)
    have hl := rv.length
    exact wpAny_pyNext_tuple_end (I.ok.hd hc) st (show s.heap.IsTuple a its.toArray from p) (by simp; omega) fun h' eb => ⟨rfl, I.turned (t' := s.toks) (fun b o hb e => eb b o hb e) f0 f1 f3 f4 f5⟩
  self := fun _ _ _ _ _ st h => wpAny_pyIter_tupleiter st h
theorem turn_range {P : Program} {w : World} {K : PySem.W.Frag} {tg : Expr} (it : Addr) (lo : Int) (n : Nat) : Turn P w K tg (Itr lo n) [it] it (fun i h => IsRangeIter h it (lo + (i : Nat) * 1) ((n : Int) - (i : Nat)) 1) where
  mem := by simp
  obj := fun i h st b hb => by
    have e : b = it := by simpa using hb
    subst e
    exact ⟨_, st, fun v z => by
      have z' : Data.fields _ = Data.cell v := z
      cases z'⟩
  keep := fun i h h' st k => k it (by simp) _ st
  item := by
    intro X hP hw hK hc i pins s σ H E I hf st hg
    subst hP hw hK
    obtain ⟨f0, f1, f2, f3, f4, f5⟩ := hf it (by simp)
    have W := Walks.range (prog := X.prog) (w := X.w) (I.ok.hd hc) it lo 1 n
    refine W.item i s _ _ hg st fun v h' tk hv st' kk => ?_
    obtain ⟨t, rfl⟩ := hv
    have I1 : Inv X pins σ H { s with heap := h', toks := tk } := I.turned (fun b o hb e => kk b o (by simpa using hb) e) f0 f1 f3 f4 f5
    refine ⟨_, rfl, go_of (s := { s with heap := h', toks := tk }) (n := "range_iterator") st' rfl rfl (by decide) ⟨.int (lo + i), H, I1, ⟨t, ?_⟩, ⟨rfl, rfl⟩, st', fun b hb => (hf b hb).1⟩⟩
    rw [Int.mul_one]
  done := by
    intro X hP hw hK hc i pins s σ H E I hf st hg
    subst hP hw hK
    obtain ⟨f0, f1, f2, f3, f4, f5⟩ := hf it (by simp)
    exact wpAny_pyNext_range_end (I.ok.hd hc) st (by have : n ≤ i := hg; omega) fun h' eb => ⟨rfl, I.turned (t' := s.toks) (fun b o hb e => eb b o hb e) f0 f1 f3 f4 f5⟩
  self := fun _ _ _ _ _ st h => wpAny_pyIter_rangeiter st h
end L2
namespace L2
open PySem PySem.Spec PyProof.Rows
section
variable {X : Cx} {tg : Expr}
theorem range_it {pins : List (Addr × Obj)} {σ : St} {H : Hp} {s : Shared} {R : It → Hp → Prop} {E : Value → Shared → Prop} {lo hi : Int} {t u v : Tok} {tk : Nat} (I : Inv X pins σ H s) (h1 : -(2 ^ 62) ≤ lo) (h2 : lo < 2 ^ 62) (h3 : -(2 ^ 62) ≤ hi) (h4 : hi < 2 ^ 62)
    (q : R (Itr lo (hi - lo).toNat) H) : wpAny (model X.prog X.w) X.A (pyIter (.ref s.heap.objs.size)) (PIE X pins σ tg R) E { s with heap := s.heap.push { cls := .type "range", data := .fields #[.int lo t, .int hi u, .int 1 v] }, toks := tk } := by
  refine wpAny_pyIter_range (IsRange.new ..) (small_one h1 h2 h3 h4) ?_
  have I1 : Inv X pins σ H { s with heap := s.heap.push { cls := .type "range", data := .fields #[.int lo t, .int hi u, .int 1 v] }, toks := tk } := I.kept fun b o e => Heap.get?_push_of_some _ e
  refine ⟨(s.heap.push { cls := .type "range", data := .fields #[.int lo t, .int hi u, .int 1 v] }).objs.size, [(s.heap.push { cls := .type "range", data := .fields #[.int lo t, .int hi u, .int 1 v] }).objs.size], _, _, H, rfl,
    I1.kept (t' := tk) fun b o e => Heap.get?_push_of_some _ e, turn_range _ lo (hi - lo).toNat, ?_, fun b hb => ?_, q⟩
  · have e1 : lo + ((0 : Nat) : Int) * 1 = lo := by simp
    have e2 : (((hi - lo).toNat : Nat) : Int) - ((0 : Nat) : Int) = Builtin.Range.rangeSize lo hi 1 := by rw [rangeSize_one]; split <;> omega
    show IsRangeIter _ _ (lo + ((0 : Nat) : Int) * 1) ((((hi - lo).toNat : Nat) : Int) - ((0 : Nat) : Int)) 1
    rw [e1, e2]
    exact Heap.get?_push_size _ rfl
  · have e : b = (s.heap.push { cls := .type "range", data := .fields #[.int lo t, .int hi u, .int 1 v] }).objs.size := by simpa using hb
    subst e
    exact I1.fpOk (Nat.le_refl _) (I1.hok.fresh (Nat.le_refl _))
def iRng1 (ta : TA) : TI := fun σ H R => ta σ H fun vs H1 => ∃ j : Int, vs = [.int j] ∧ -(2 ^ 62) ≤ j ∧ j < 2 ^ 62 ∧ R (Itr 0 j.toNat) H1
def iRng2 (ta : TA) : TI := fun σ H R => ta σ H fun vs H1 => ∃ i j : Int, vs = [.int i, .int j] ∧ (-(2 ^ 62) ≤ i ∧ i < 2 ^ 62 ∧ -(2 ^ 62) ≤ j ∧ j < 2 ^ 62) ∧ R (Itr i (j - i).toNat) H1
theorem pi_range1 {a : Expr} {ta : TA} {p pos : Pos} (hg : Gl X "range") (hm : X.mg "range" = none) (ha : PA X [a] ta) (hs : starEach [a] X.env = [(false, eval a X.env)] := by rfl) : PI X tg (.Call (.Name "range" p) [a] [] pos) (iRng1 ta) := by
  intro pins s σ H R I h
  refine Call_ (ld_blt I hg hm boot_range (PyProof.Rows.callWith_type1 (thn (ha pos pins s σ H _ I h) fun us s1 ⟨vs, H1, I1, r1, q1⟩ => ?_) hs rfl))
  obtain ⟨j, e, q1, q2, q⟩ := q1
  subst e
  cases r1 with
  | cons r rr =>
    cases rr
    obtain ⟨t, rfl⟩ := r
    exact call_range_1 (range_it I1 (by omega) (by omega) q1 q2 (by simpa using q))
theorem pi_range2 {a b : Expr} {ta : TA} {p pos : Pos} (hg : Gl X "range") (hm : X.mg "range" = none) (ha : PA X [a, b] ta) (hs : starEach [a, b] X.env = [(false, eval a X.env), (false, eval b X.env)] := by rfl) (hs2 : starEach [b] X.env = [(false, eval b X.env)] := by rfl) :
    PI X tg (.Call (.Name "range" p) [a, b] [] pos) (iRng2 ta) := by
  intro pins s σ H R I h
  refine Call_ (ld_blt I hg hm boot_range (PyProof.Rows.callWith_type1 (thn (ha pos pins s σ H _ I h) fun us s1 ⟨vs, H1, I1, r1, q1⟩ => ?_) (by rw [hs, hs2]) (by rw [hs2]; rfl)))
  obtain ⟨i, j, e, ⟨q1, q2, q3, q4⟩, q⟩ := q1
  subst e
  cases r1 with
  | cons r rr =>
    cases rr with
    | cons r' rr =>
      cases rr
      obtain ⟨t, rfl⟩ := r
      obtain ⟨t', rfl⟩ := r'
      exact call_range_2 (range_it I1 q1 q2 q3 q4 q)
def tFor (wi : TI) (g : TG) (tb : TS) : TS := fun D σ H => wi σ H fun J H1 => ∃ W : Nat → Nat → St → Hp → Prop, (∃ m, W 0 m σ H1) ∧ ∀ i m σ H, W i m σ H →
  (J.stop i H ∧ D.nx σ H) ∨ (J.go i H ∧ ∃ N : St → Hp → Prop, (∀ σ' H', N σ' H' → ∃ m', m' < m ∧ W (i + 1) m' σ' H') ∧ ∀ x H', J.yld i H x H' → g x σ H' fun σ2 H2 => tb { D with nx := N, ct := N, bk := D.nx } σ2 H2)
def pinsAt (fp : List Addr) (h : Heap) : List (Addr × Obj) := fp.filterMap fun b => (h.get? b).map fun o => (b, o)
theorem mem_pinsAt {fp : List Addr} {h : Heap} {b : Addr} {o : Obj} (hb : b ∈ fp) (e : h.get? b = some o) : (b, o) ∈ pinsAt fp h := List.mem_filterMap.mpr ⟨b, hb, by rw [e]; rfl⟩
theorem of_pinsAt {fp : List Addr} {h : Heap} {p : Addr × Obj} (hp : p ∈ pinsAt fp h) : p.1 ∈ fp ∧ h.get? p.1 = some p.2 := by
  obtain ⟨b, hb, e⟩ := List.mem_filterMap.mp hp
  cases q : h.get? b with
  | none => rw [q] at e; cases e
  | some o =>
    rw [q] at e
    have e' : (b, o) = p := Option.some.inj e
    subst e'
    exact ⟨hb, q⟩
theorem Inv.pinned {pins : List (Addr × Obj)} {σ : St} {H : Hp} {s : Shared} {fp : List Addr} (I : Inv X pins σ H s) (hf : ∀ b ∈ fp, FpOk X pins H b) (ho : ∀ b ∈ fp, ∃ o, s.heap.get? b = some o ∧ ∀ v, o.data ≠ .cell v) : Inv X (pins ++ pinsAt fp s.heap) σ H s :=
  I.pins_of fun p hp => (List.mem_append.mp hp).elim (fun z => I.pin p (List.mem_append_right _ z)) fun z => by
    obtain ⟨hb, e⟩ := of_pinsAt z
    obtain ⟨f0, f1, f2, _⟩ := hf p.1 hb
    obtain ⟨o, e', d⟩ := ho p.1 hb
    rw [e] at e'; cases e'
    exact ⟨e, f0, f1, f2, d⟩
theorem Inv.unpinned {pins pl : List (Addr × Obj)} {σ : St} {H : Hp} {s : Shared} (I : Inv X (pins ++ pl) σ H s) : Inv X pins σ H s := I.pins_of fun p hp => I.pin p (List.mem_append_right _ (List.mem_append_left _ hp))
theorem ps_for {iter : Expr} {body : List Stmt} {wi : TI} {g : TG} {tb : TS} {pos : Pos} (hp : PassesOwn (model X.prog X.w) X.A X.env X.xe) (hc : X.calm = true) (hi : PI X tg iter wi) (hg : PG X tg g) (hb : PSs X body tb)
    (hs : ∀ x, foldedSetIterable iter X.env x = pure x := by intro _; rfl) : PS X (.For tg iter body [] pos) (tFor wi g tb) := by
  intro pins s σ H D I h
  refine wpAny_For (thn (hi pins s σ H _ I h) fun v s1 h1 => thn h1 fun itv s2 h2 => ?_) hs
  obtain ⟨it, fp, tn, J, H2, e, I2, T, st2, f2, W, ⟨m0, w0⟩, turn⟩ := h2
  subst e
  -- what stays true of the iterator's objects through the loop
  have stat : ∀ {H' : Hp}, (∀ b ∈ fp, H' b = none) → ∀ b ∈ fp, FpOk X pins H' b := fun hn b hb => ⟨hn b hb, (f2 b hb).2⟩
  refine codeAny_forLoop_any (fun n s' => ∃ i σ' H', Inv X pins σ' H' s' ∧ tn i s'.heap ∧ (∀ b ∈ fp, H' b = none) ∧ W i n σ' H') ?_ m0 ⟨0, σ, H2, I2, st2, fun b hb => (f2 b hb).1, w0⟩
  rintro n s3 ⟨i, σ3, H3, I3, st3, fr3, w3⟩
  rcases turn i n σ3 H3 w3 with ⟨stop, qn⟩ | ⟨go, N, hN, step⟩
  · refine wpAny_passesOwn hp (thn (T.done X rfl rfl rfl hc i pins s3 σ3 H3 X.xe I3 (stat fr3) st3 stop) fun r s4 ⟨hr, I4⟩ => ?_)
    subst hr
    exact wpAny_execs_nil ⟨σ3, H3, I4, qn⟩
  · refine wpAny_passesOwn hp (thn (T.item X rfl rfl rfl hc i pins s3 σ3 H3 X.xe I3 (stat fr3) st3 go) fun r s4 ⟨u, hr, h4⟩ => ?_)
    subst hr
    refine wpAny_passesOwn hp (thn h4 fun _ s5 ⟨x, H5, I5, r5, y5, st5, fr5⟩ => ?_)
    have I5' := I5.pinned (stat fr5) (T.obj _ _ st5)
    refine wpAny_passesOwn hp (thn (hg _ s5 σ3 H5 x u _ I5' r5 (step x H5 y5)) fun _ s6 ⟨σ6, H6, I6, q6⟩ => ?_)
    refine wpAny_passesOwn hp (thn (hb _ s6 σ6 H6 _ I6 q6) fun f s7 q7 => ?_)
    have again : ∀ {σ7 : St} {H7 : Hp}, Inv X (pins ++ pinsAt fp s5.heap) σ7 H7 s7 → N σ7 H7 → ∃ m, m < n ∧ ∃ i σ' H', Inv X pins σ' H' s7 ∧ tn i s7.heap ∧ (∀ b ∈ fp, H' b = none) ∧ W i m σ' H' := fun {σ7 H7} I7 n7 => by
      obtain ⟨m', hm, w7⟩ := hN σ7 H7 n7
      refine ⟨m', hm, i + 1, σ7, H7, I7.unpinned, T.keep _ _ _ st5 fun b hb o e => (I7.pin (b, o) (List.mem_append_right _ (List.mem_append_right _ (mem_pinsAt hb e)))).1, fun b hb => ?_, w7⟩
      obtain ⟨o, e, d⟩ := T.obj _ _ st5 b hb
      exact (I7.pin (b, o) (List.mem_append_right _ (List.mem_append_right _ (mem_pinsAt hb e)))).2.1
    cases f with
    | next => obtain ⟨σ7, H7, I7, n7⟩ := q7; exact again I7 n7
    | cont => obtain ⟨σ7, H7, I7, n7⟩ := q7; exact again I7 n7
    | brk => obtain ⟨σ7, H7, I7, q7⟩ := q7; exact ⟨σ7, H7, I7.unpinned, q7⟩
    | ret v => obtain ⟨x7, σ7, H7, I7, r7, q7⟩ := q7; exact ⟨x7, σ7, H7, I7.unpinned, r7, q7⟩
end
theorem for_list {K : PySem.W.Frag} {a : Addr} {xs : List V} {g : TG} {tb : TS} {D : Ends} {σ : St} {H : Hp} (Pv : Nat → St → Hp → Prop) (h0 : Pv 0 σ H) (hl : ∀ i σ H, i ≤ xs.length → Pv i σ H → SqL K H a xs)
    (hs : ∀ i x σ H, xs[i]? = some x → Pv i σ H → g x σ H fun σ2 H2 => tb { D with nx := Pv (i + 1), ct := Pv (i + 1), bk := D.nx } σ2 H2) (hd : ∀ σ H, Pv xs.length σ H → D.nx σ H) :
    ∃ W : Nat → Nat → St → Hp → Prop, (∃ m, W 0 m σ H) ∧ ∀ i m σ H, W i m σ H →
      ((Itl K a).stop i H ∧ D.nx σ H) ∨ ((Itl K a).go i H ∧ ∃ N : St → Hp → Prop, (∀ σ' H', N σ' H' → ∃ m', m' < m ∧ W (i + 1) m' σ' H') ∧ ∀ x H', (Itl K a).yld i H x H' → g x σ H' fun σ2 H2 => tb { D with nx := N, ct := N, bk := D.nx } σ2 H2) := by
  refine ⟨fun i m σ H => m = xs.length - i ∧ i ≤ xs.length ∧ Pv i σ H, ⟨xs.length, by simp, Nat.zero_le _, h0⟩, ?_⟩
  rintro i m σ H ⟨rfl, hi, p⟩
  have q := hl i σ H hi p
  by_cases hlt : i < xs.length
  · refine .inr ⟨⟨xs, xs[i], q, by simp [hlt]⟩, Pv (i + 1), fun σ' H' p' => ⟨xs.length - (i + 1), by omega, rfl, hlt, p'⟩, fun x H' y => ?_⟩
    obtain ⟨e, y⟩ := y
    subst e
    exact hs i x σ _ (y xs q) p
  · have e : i = xs.length := by omega
    subst e
    exact .inl ⟨⟨xs, q, Nat.le_refl _⟩, hd σ H p⟩
theorem for_tup {K : PySem.W.Frag} {a : Addr} {xs : List V} {g : TG} {tb : TS} {D : Ends} {σ : St} {H : Hp} (Pv : Nat → St → Hp → Prop) (h0 : Pv 0 σ H) (hl : ∀ i σ H, i ≤ xs.length → Pv i σ H → SqT K H a xs)
    (hs : ∀ i x σ H, xs[i]? = some x → Pv i σ H → g x σ H fun σ2 H2 => tb { D with nx := Pv (i + 1), ct := Pv (i + 1), bk := D.nx } σ2 H2) (hd : ∀ σ H, Pv xs.length σ H → D.nx σ H) :
    ∃ W : Nat → Nat → St → Hp → Prop, (∃ m, W 0 m σ H) ∧ ∀ i m σ H, W i m σ H →
      ((Itt K a).stop i H ∧ D.nx σ H) ∨ ((Itt K a).go i H ∧ ∃ N : St → Hp → Prop, (∀ σ' H', N σ' H' → ∃ m', m' < m ∧ W (i + 1) m' σ' H') ∧ ∀ x H', (Itt K a).yld i H x H' → g x σ H' fun σ2 H2 => tb { D with nx := N, ct := N, bk := D.nx } σ2 H2) := by
  refine ⟨fun i m σ H => m = xs.length - i ∧ i ≤ xs.length ∧ Pv i σ H, ⟨xs.length, by simp, Nat.zero_le _, h0⟩, ?_⟩
  rintro i m σ H ⟨rfl, hi, p⟩
  have q := hl i σ H hi p
  by_cases hlt : i < xs.length
  · refine .inr ⟨⟨xs, xs[i], q, by simp [hlt]⟩, Pv (i + 1), fun σ' H' p' => ⟨xs.length - (i + 1), by omega, rfl, hlt, p'⟩, fun x H' y => ?_⟩
    obtain ⟨e, y⟩ := y
    subst e
    exact hs i x σ _ (y xs q) p
  · have e : i = xs.length := by omega
    subst e
    exact .inl ⟨⟨xs, q, Nat.le_refl _⟩, hd σ H p⟩
theorem for_range {lo : Int} {n : Nat} {g : TG} {tb : TS} {D : Ends} {σ : St} {H : Hp} (Pv : Nat → St → Hp → Prop) (h0 : Pv 0 σ H)
    (hs : ∀ i σ H, i < n → Pv i σ H → g (.int (lo + i)) σ H fun σ2 H2 => tb { D with nx := Pv (i + 1), ct := Pv (i + 1), bk := D.nx } σ2 H2) (hd : ∀ σ H, Pv n σ H → D.nx σ H) :
    ∃ W : Nat → Nat → St → Hp → Prop, (∃ m, W 0 m σ H) ∧ ∀ i m σ H, W i m σ H →
      ((Itr lo n).stop i H ∧ D.nx σ H) ∨ ((Itr lo n).go i H ∧ ∃ N : St → Hp → Prop, (∀ σ' H', N σ' H' → ∃ m', m' < m ∧ W (i + 1) m' σ' H') ∧ ∀ x H', (Itr lo n).yld i H x H' → g x σ H' fun σ2 H2 => tb { D with nx := N, ct := N, bk := D.nx } σ2 H2) := by
  refine ⟨fun i m σ H => m = n - i ∧ i ≤ n ∧ Pv i σ H, ⟨n, by simp, Nat.zero_le _, h0⟩, ?_⟩
  rintro i m σ H ⟨rfl, hi, p⟩
  by_cases hlt : i < n
  · refine .inr ⟨hlt, Pv (i + 1), fun σ' H' p' => ⟨n - (i + 1), by omega, rfl, hlt, p'⟩, fun x H' y => ?_⟩
    obtain ⟨e, y⟩ := y
    subst e y
    exact hs i σ _ hlt p
  · have e : i = n := by omega
    subst e
    exact .inl ⟨Nat.le_refl _, hd σ H p⟩
end L2
namespace L2
open PySem PySem.Spec PyProof.Rows
abbrev R2 := V → V → Hp → VK → Prop
def OpR (X : Cx) (f : Value → Value → Sem Value) (r : R2) : Prop :=
  ∀ (pins : List (Addr × Obj)) (s : Shared) (σ : St) (H : Hp) (x y : V) (v u : Value) (Q : VK), Inv X pins σ H s → RelV x v → RelV y u → r x y H Q →
    wpAny (model X.prog X.w) X.A (f v u) (EP X pins σ Q) X.xe s
def UnR (X : Cx) (f : Value → Sem Value) (r : V → Hp → VK → Prop) : Prop :=
  ∀ (pins : List (Addr × Obj)) (s : Shared) (σ : St) (H : Hp) (x : V) (v : Value) (Q : VK), Inv X pins σ H s → RelV x v → r x H Q →
    wpAny (model X.prog X.w) X.A (f v) (EP X pins σ Q) X.xe s
def CallR (X : Cx) (f : Value) (r : List V → Hp → VK → Prop) : Prop :=
  ∀ (pins : List (Addr × Obj)) (s : Shared) (σ : St) (H : Hp) (xs : List V) (us : List Value) (Q : VK), Inv X pins σ H s → Vals xs us → r xs H Q →
    wpAny (model X.prog X.w) X.A (call f us) (EP X pins σ Q) X.xe s
def tOp (r : R2) (ta tb : TE) : TE := fun σ H Q => ta σ H fun x H1 => tb σ H1 fun y H2 => r x y H2 Q
def tUn (r : V → Hp → VK → Prop) (ta : TE) : TE := fun σ H Q => ta σ H fun x H1 => r x H1 Q
def rI (C : Int → Int → Prop) (g : Int → Int → V) : R2 := fun x y H Q => ∃ i j, x = .int i ∧ y = .int j ∧ C i j ∧ Q (g i j) H
def rI0 (g : Int → Int → V) : R2 := fun x y H Q => ∃ i j, x = .int i ∧ y = .int j ∧ Q (g i j) H
def rU (g : Int → V) : V → Hp → VK → Prop := fun x H Q => ∃ i, x = .int i ∧ Q (g i) H
section
variable {X : Cx} {a b c : Expr} {ta tb tc : TE} {pos : Pos}
theorem binT (ha : PE X a ta) (hb : PE X b tb) {pins : List (Addr × Obj)} {s : Shared} {σ : St} {H : Hp} {R : V → V → Hp → Prop} (I : Inv X pins σ H s)
    (h : ta σ H fun x H1 => tb σ H1 fun y H2 => R x y H2) {Q : Value → Shared → Prop} {f : Value → Value → Sem Value}
    (hf : ∀ v u s2 x y H2, Inv X pins σ H2 s2 → RelV x v → RelV y u → R x y H2 → wpAny (model X.prog X.w) X.A (f v u) Q X.xe s2) :
    wpAny (model X.prog X.w) X.A (eval a X.env) (fun v s₁ => wpAny (model X.prog X.w) X.A (eval b X.env) (fun u s₂ => wpAny (model X.prog X.w) X.A (f v u) Q X.xe s₂) X.xe s₁) X.xe s := by
  refine thn (ha pins s σ H _ I h) fun v s1 ⟨x, H1, I1, r1, q1⟩ => ?_
  refine thn (hb pins s1 σ H1 _ I1 q1) fun u s2 ⟨y, H2, I2, r2, q2⟩ => ?_
  exact hf v u s2 x y H2 I2 r1 r2 q2
theorem pe_op {op : Operator} {r : R2} (ho : OpR X (binaryOp op) r) (ha : PE X a ta) (hb : PE X b tb) : PE X (.BinOp a op b pos) (tOp r ta tb) := by
  intro pins s σ H Q I h
  exact wpAny_BinOp (binT ha hb I h fun v u s2 x y H2 I2 rx ry q => ho pins s2 σ H2 x y v u Q I2 rx ry q)
theorem pe_un {op : UnaryOp} {r : V → Hp → VK → Prop} (ho : UnR X (unaryOp op) r) (ha : PE X a ta) : PE X (.UnaryOp op a pos) (tUn r ta) := by
  intro pins s σ H Q I h
  exact UnaryOp_ (thn (ha pins s σ H _ I h) fun v s1 ⟨x, H1, I1, r1, q1⟩ => ho pins s1 σ H1 x v Q I1 r1 q1)
theorem opI {f : Value → Value → Sem Value} {C : Int → Int → Prop} {g : Int → Int → Int}
    (rule : ∀ (i j : Int) (t u : Tok) (s : Shared) (Q : Value → Shared → Prop) (E : Value → Shared → Prop), C i j → Q (.int (g i j) s.toks) { s with toks := s.toks + 1 } → wpAny (model X.prog X.w) X.A (f (.int i t) (.int j u)) Q E s) :
    OpR X f (rI C fun i j => .int (g i j)) := by
  intro pins s σ H x y v u Q I rx ry h
  obtain ⟨i, j, rfl, rfl, hc, q⟩ := h
  obtain ⟨t, rfl⟩ := rx
  obtain ⟨t', rfl⟩ := ry
  exact rule i j t t' s _ _ hc ⟨.int (g i j), H, I.tok _, ⟨_, rfl⟩, q⟩
theorem opI0 {f : Value → Value → Sem Value} {g : Int → Int → Int}
    (rule : ∀ (i j : Int) (t u : Tok) (s : Shared) (Q : Value → Shared → Prop) (E : Value → Shared → Prop), Q (.int (g i j) s.toks) { s with toks := s.toks + 1 } → wpAny (model X.prog X.w) X.A (f (.int i t) (.int j u)) Q E s) :
    OpR X f (rI0 fun i j => .int (g i j)) := by
  intro pins s σ H x y v u Q I rx ry h
  obtain ⟨i, j, rfl, rfl, q⟩ := h
  obtain ⟨t, rfl⟩ := rx
  obtain ⟨t', rfl⟩ := ry
  exact rule i j t t' s _ _ ⟨.int (g i j), H, I.tok _, ⟨_, rfl⟩, q⟩
theorem opB0 {f : Value → Value → Sem Value} {g : Int → Int → Bool}
    (rule : ∀ (i j : Int) (t u : Tok) (s : Shared) (Q : Value → Shared → Prop) (E : Value → Shared → Prop), Q (.bool (g i j)) s → wpAny (model X.prog X.w) X.A (f (.int i t) (.int j u)) Q E s) :
    OpR X f (rI0 fun i j => .bl (g i j)) := by
  intro pins s σ H x y v u Q I rx ry h
  obtain ⟨i, j, rfl, rfl, q⟩ := h
  obtain ⟨t, rfl⟩ := rx
  obtain ⟨t', rfl⟩ := ry
  exact rule i j t t' s _ _ ⟨.bl (g i j), H, I, rfl, q⟩
def CDiv (i j : Int) : Prop := 0 < j ∧ j < 1073741824
def CPow (i j : Int) : Prop := 0 ≤ j ∧ j ≤ 1000000 ∧ i.natAbs < 2 ^ 64
def CMul (i j : Int) : Prop := (-(2 ^ 64) < i ∧ i < 2 ^ 64) ∨ (-(2 ^ 64) < j ∧ j < 2 ^ 64)
theorem CMul.ok {i j : Int} (h : CMul i j) : IntMulOk i j := by
  rcases h with ⟨h1, h2⟩ | ⟨h1, h2⟩
  · exact .of_left (intBits_le_64 h1 h2)
  · exact .of_right (intBits_le_64 h1 h2)
theorem op_add : OpR X (binaryOp .Add) (rI0 fun i j => .int (i + j)) := opI0 fun _ _ _ _ _ _ _ q => add_int q
theorem op_sub : OpR X (binaryOp .Sub) (rI0 fun i j => .int (i - j)) := opI0 fun _ _ _ _ _ _ _ q => sub_int q
theorem op_mul : OpR X (binaryOp .Mult) (rI CMul fun i j => .int (i * j)) := opI fun _ _ _ _ _ _ _ hc q => mul_int q hc.ok
theorem op_fdiv : OpR X (binaryOp .FloorDiv) (rI CDiv fun i j => .int (i / j)) := opI fun i j _ _ _ _ _ hc q => by
  have h1 : (0 : Int) < j := hc.1
  have h2 : j < 1073741824 := hc.2
  exact floordiv_int (by omega) (by rw [Int.fdiv_eq_ediv_of_nonneg i (by omega)]; exact q) (.inl (PyProof.noPylong_small (by omega)))
theorem op_mod : OpR X (binaryOp .Mod) (rI (fun _ j => 0 < j) fun i j => .int (i % j)) := opI fun i j _ _ _ _ _ hc q => by
  have h1 : (0 : Int) < j := hc
  exact mod_int' (by omega) (by rw [Int.fmod_eq_emod_of_nonneg i (by omega)]; exact q)
theorem op_pow : OpR X (binaryOp .Pow) (rI CPow fun i j => .int (i ^ j.toNat)) := opI fun _ _ _ _ _ _ _ hc q => pow_int_small hc.1 hc.2.1 hc.2.2 q
theorem unI {f : Value → Sem Value} {g : Int → Int}
    (rule : ∀ (i : Int) (t : Tok) (s : Shared) (Q : Value → Shared → Prop) (E : Value → Shared → Prop), Q (.int (g i) s.toks) { s with toks := s.toks + 1 } → wpAny (model X.prog X.w) X.A (f (.int i t)) Q E s) :
    UnR X f (rU fun i => .int (g i)) := by
  intro pins s σ H x v Q I rx h
  obtain ⟨i, rfl, q⟩ := h
  obtain ⟨t, rfl⟩ := rx
  exact rule i t s _ _ ⟨.int (g i), H, I.tok _, ⟨_, rfl⟩, q⟩
theorem un_neg : UnR X (unaryOp .USub) (rU fun i => .int (-i)) := unI fun _ _ _ _ _ q => neg_int q
end
def scal : V → V → Bool
  | .non, .non => true | .non, .int _ => true | .int _, .non => true | .non, .bl _ => true | .bl _, .non => true | .non, .str _ => true | .str _, .non => true
  | .int _, .int _ => true | .bl _, .bl _ => true | .str _, .str _ => true | .byt _, .byt _ => true
  | .int _, .str _ => true | .str _, .int _ => true | .bl _, .str _ => true | .str _, .bl _ => true
  | _, _ => false
def rEq : R2 := fun x y H Q => scal x y = true ∧ Q (.bl (decide (x = y))) H
def rNe : R2 := fun x y H Q => scal x y = true ∧ Q (.bl (!decide (x = y))) H
theorem dec_int {i j : Int} : decide (V.int i = V.int j) = (i == j) := by
  rw [Bool.eq_iff_iff]
  simp
theorem dec_bl {i j : Bool} : decide (V.bl i = V.bl j) = (i == j) := by
  rw [Bool.eq_iff_iff]
  simp
theorem dec_str {i j : Str} : decide (V.str i = V.str j) = (i == j) := by
  rw [Bool.eq_iff_iff]
  simp
theorem dec_byt {i j : Array UInt8} : decide (V.byt i = V.byt j) = (i.toList == j.toList) := by
  rw [Bool.eq_iff_iff]
  cases i
  cases j
  simp
section
variable {X : Cx} {a b c : Expr} {ta tb tc : TE} {pos : Pos}
theorem fin_bl {pins : List (Addr × Obj)} {σ : St} {H : Hp} {s : Shared} {Q : VK} {k k' : Bool} (I : Inv X pins σ H s) (q : Q (.bl k) H) (e : k = k') : EP X pins σ Q (.bool k') s := by
  subst e
  exact ⟨.bl k, H, I, rfl, q⟩
theorem op_eq : OpR X (compareOp .Eq) rEq := by
  intro pins s σ H x y v u Q I rx ry h
  obtain ⟨hs, q⟩ := h
  cases x with
  | non =>
    cases rx
    cases y with
    | non => cases ry; exact PySem.EqNone.eq_none_none (fin_bl I q (by simp))
    | bl j => cases ry; exact PySem.EqNone.eq_none_bool (fin_bl I q (by simp))
    | int j => obtain ⟨t', rfl⟩ := ry; exact PySem.EqNone.eq_none_int (fin_bl I q (by simp))
    | str j => obtain ⟨t', rfl⟩ := ry; exact PySem.EqNone.eq_none_str (fin_bl I q (by simp))
    | _ => exact absurd (show false = true from hs) Bool.false_ne_true
  | bl i =>
    cases rx
    cases y with
    | non => cases ry; exact PySem.EqNone.eq_bool_none (fin_bl I q (by simp))
    | bl j => cases ry; exact eq_bool (fin_bl I q dec_bl)
    | str j => obtain ⟨t', rfl⟩ := ry; exact PySem.EqMixed.eq_bool_str (fin_bl I q (by simp))
    | _ => exact absurd (show false = true from hs) Bool.false_ne_true
  | int i =>
    obtain ⟨t, rfl⟩ := rx
    cases y with
    | non => cases ry; exact PySem.EqNone.eq_int_none (fin_bl I q (by simp))
    | int j => obtain ⟨t', rfl⟩ := ry; exact eq_int (fin_bl I q dec_int)
    | str j => obtain ⟨t', rfl⟩ := ry; exact PySem.EqMixed.eq_int_str (fin_bl I q (by simp))
    | _ => exact absurd (show false = true from hs) Bool.false_ne_true
  | str i =>
    obtain ⟨t, rfl⟩ := rx
    cases y with
    | non => cases ry; exact PySem.EqNone.eq_str_none (fin_bl I q (by simp))
    | bl j => cases ry; exact PySem.EqMixed.eq_str_bool (fin_bl I q (by simp))
    | int j => obtain ⟨t', rfl⟩ := ry; exact PySem.EqMixed.eq_str_int (fin_bl I q (by simp))
    | str j => obtain ⟨t', rfl⟩ := ry; exact eq_str (fin_bl I q dec_str)
    | _ => exact absurd (show false = true from hs) Bool.false_ne_true
  | byt i =>
    obtain ⟨t, rfl⟩ := rx
    cases y with
    | byt j => obtain ⟨t', rfl⟩ := ry; exact PySem.W.eq_bytes (fin_bl I q dec_byt)
    | _ => exact absurd (show false = true from hs) Bool.false_ne_true
  | _ => cases y <;> exact absurd (show false = true from hs) Bool.false_ne_true
theorem op_ne : OpR X (compareOp .NotEq) rNe := by
  intro pins s σ H x y v u Q I rx ry h
  obtain ⟨hs, q⟩ := h
  cases x with
  | non =>
    cases rx
    cases y with
    | non => cases ry; exact PySem.EqNone.ne_none_none (fin_bl I q (by simp))
    | bl j => cases ry; exact PySem.EqNone.ne_none_bool (fin_bl I q (by simp))
    | int j => obtain ⟨t', rfl⟩ := ry; exact PySem.EqNone.ne_none_int (fin_bl I q (by simp))
    | str j => obtain ⟨t', rfl⟩ := ry; exact PySem.EqNone.ne_none_str (fin_bl I q (by simp))
    | _ => exact absurd (show false = true from hs) Bool.false_ne_true
  | bl i =>
    cases rx
    cases y with
    | non => cases ry; exact PySem.EqNone.ne_bool_none (fin_bl I q (by simp))
    | bl j => cases ry; exact ne_bool (fin_bl I q (congrArg not dec_bl))
    | str j => obtain ⟨t', rfl⟩ := ry; exact PySem.EqMixed.ne_bool_str (fin_bl I q (by simp))
    | _ => exact absurd (show false = true from hs) Bool.false_ne_true
  | int i =>
    obtain ⟨t, rfl⟩ := rx
    cases y with
    | non => cases ry; exact PySem.EqNone.ne_int_none (fin_bl I q (by simp))
    | int j => obtain ⟨t', rfl⟩ := ry; exact ne_int (fin_bl I q (congrArg not dec_int))
    | str j => obtain ⟨t', rfl⟩ := ry; exact PySem.EqMixed.ne_int_str (fin_bl I q (by simp))
    | _ => exact absurd (show false = true from hs) Bool.false_ne_true
  | str i =>
    obtain ⟨t, rfl⟩ := rx
    cases y with
    | non => cases ry; exact PySem.EqNone.ne_str_none (fin_bl I q (by simp))
    | bl j => cases ry; exact PySem.EqMixed.ne_str_bool (fin_bl I q (by simp))
    | int j => obtain ⟨t', rfl⟩ := ry; exact PySem.EqMixed.ne_str_int (fin_bl I q (by simp))
    | str j => obtain ⟨t', rfl⟩ := ry; exact ne_str (fin_bl I q (congrArg not dec_str))
    | _ => exact absurd (show false = true from hs) Bool.false_ne_true
  | byt i =>
    obtain ⟨t, rfl⟩ := rx
    cases y with
    | byt j => obtain ⟨t', rfl⟩ := ry; exact PySem.W.ne_bytes (fin_bl I q (congrArg not dec_byt))
    | _ => exact absurd (show false = true from hs) Bool.false_ne_true
  | _ => cases y <;> exact absurd (show false = true from hs) Bool.false_ne_true
theorem op_lt : OpR X (compareOp .Lt) (rI0 fun i j => .bl (decide (i < j))) := opB0 fun _ _ _ _ _ _ _ q => lt_int q
theorem op_le : OpR X (compareOp .LtE) (rI0 fun i j => .bl (decide (i ≤ j))) := opB0 fun _ _ _ _ _ _ _ q => le_int q
theorem op_gt : OpR X (compareOp .Gt) (rI0 fun i j => .bl (decide (j < i))) := opB0 fun _ _ _ _ _ _ _ q => gt_int q
theorem op_ge : OpR X (compareOp .GtE) (rI0 fun i j => .bl (decide (j ≤ i))) := opB0 fun _ _ _ _ _ _ _ q => ge_int q
theorem op_lt_str : OpR X (compareOp .Lt) (fun x y H Q => ∃ i j, x = .str i ∧ y = .str j ∧ Q (.bl (decide (i.cps.toList < j.cps.toList))) H) := by
  intro pins s σ H x y v u Q I rx ry h
  obtain ⟨i, j, rfl, rfl, q⟩ := h
  obtain ⟨t, rfl⟩ := rx
  obtain ⟨t', rfl⟩ := ry
  exact lt_str (fin_bl I q rfl)
theorem op_in_str : OpR X (compareOp .In) (fun x y H Q => ∃ i j, x = .str i ∧ y = .str j ∧ Q (.bl (!(Builtin.Str.occurrences j i 0 j.length 1).isEmpty)) H) := by
  intro pins s σ H x y v u Q I rx ry h
  obtain ⟨i, j, rfl, rfl, q⟩ := h
  obtain ⟨t, rfl⟩ := rx
  obtain ⟨t', rfl⟩ := ry
  exact in_str (fin_bl I q rfl)
theorem nomark (b : Expr) {op : CmpOp} (h : op ≠ .In := by decide) (h2 : op ≠ .NotIn := by decide) : behindInMarks op b = false := by
  have e1 : (op == CmpOp.In) = false := by cases op <;> first | rfl | exact absurd rfl h
  have e2 : (op == CmpOp.NotIn) = false := by cases op <;> first | rfl | exact absurd rfl h2
  cases b <;> simp [behindInMarks, e1, e2]
theorem pe_cmpR {op : CmpOp} {r : R2} (ho : OpR X (compareOp op) r) (ha : PE X a ta) (hb : PE X b tb) (hm : behindInMarks op b = false) : PE X (.Compare a [op] [b] pos) (tOp r ta tb) := by
  intro pins s σ H Q I h
  exact wpAny_Compare1 (binT ha hb I h fun v u s2 x y H2 I2 rx ry q => ho pins s2 σ H2 x y v u Q I2 rx ry q) hm
def tTest (t : TE) : TT := fun σ H Q => t σ H fun x H' => ∃ k, x = .bl k ∧ Q k H'
theorem pt_cmpR {op : CmpOp} {r : R2} (ho : OpR X (compareOp op) r) (ha : PE X a ta) (hb : PE X b tb) (hm : behindInMarks op b = false) : PT X (.Compare a [op] [b] pos) (tTest (tOp r ta tb)) := by
  intro pins s σ H Q I h
  refine wpAny_isTrue_Compare1 (thn (ha pins s σ H _ I h) fun v s1 ⟨x, H1, I1, r1, q1⟩ => thn (hb pins s1 σ H1 _ I1 q1) fun u s2 ⟨y, H2, I2, r2, q2⟩ =>
    thn (ho pins s2 σ H2 x y v u _ I2 r1 r2 q2) fun c s3 ⟨z, H3, I3, r3, k, e, q3⟩ => ?_) hm
  subst e
  cases r3
  exact wpAny_truthy_bool ⟨H3, I3, q3⟩
def tChain (r r' : R2) (ta tb tc : TE) : TE := fun σ H Q => ta σ H fun x H1 => tb σ H1 fun y H2 => r x y H2 fun z H3 => ∃ k, z = .bl k ∧
  (if k = true then tc σ H3 fun w' H4 => r' y w' H4 Q else Q (.bl false) H3)
theorem pe_chain {op op' : CmpOp} {r r' : R2} (ho : OpR X (compareOp op) r) (ho' : OpR X (compareOp op') r') (ha : PE X a ta) (hb : PE X b tb) (hc : PE X c tc)
    (hm : lastMarks [op, op'] [b, c] = false := by with_unfolding_all rfl) : PE X (.Compare a [op, op'] [b, c] pos) (tChain r r' ta tb tc) := by
  intro pins s σ H Q I h
  refine Compare_chain (thn (ha pins s σ H _ I h) fun v s1 ⟨x, H1, I1, r1, q1⟩ => chain_link (thn (hb pins s1 σ H1 _ I1 q1) fun u s2 ⟨y, H2, I2, r2, q2⟩ =>
    thn (ho pins s2 σ H2 x y v u _ I2 r1 r2 q2) fun d s3 ⟨z, H3, I3, r3, k, e, q3⟩ => ?_)) hm
  subst e
  cases r3
  refine wpAny_truthy_bool ?_
  cases k with
  | false => exact ite_ff ⟨.bl false, H3, I3, rfl, q3⟩
  | true => exact ite_tt (chain_last (thn (hc pins s3 σ H3 _ I3 q3) fun w' s4 ⟨z', H4, I4, r4, q4⟩ => ho' pins s4 σ H4 y z' u w' Q I4 r2 r4 q4))
theorem pt_chain {op op' : CmpOp} {r r' : R2} (ho : OpR X (compareOp op) r) (ho' : OpR X (compareOp op') r') (ha : PE X a ta) (hb : PE X b tb) (hc : PE X c tc)
    (hm : lastMarks [op, op'] [b, c] = false := by with_unfolding_all rfl) : PT X (.Compare a [op, op'] [b, c] pos) (tTest (tChain r r' ta tb tc)) := by
  intro pins s σ H Q I h
  refine isTrue_chain (thn (ha pins s σ H _ I h) fun v s1 ⟨x, H1, I1, r1, q1⟩ => test_link (thn (hb pins s1 σ H1 _ I1 q1) fun u s2 ⟨y, H2, I2, r2, q2⟩ =>
    thn (ho pins s2 σ H2 x y v u _ I2 r1 r2 q2) fun d s3 ⟨z, H3, I3, r3, k, e, q3⟩ => ?_)) hm
  subst e
  cases r3
  refine wpAny_truthy_bool ?_
  cases k with
  | false =>
    obtain ⟨k', e', q'⟩ := q3
    cases e'
    exact ite_ff ⟨H3, I3, q'⟩
  | true =>
    refine ite_tt (test_last (thn (hc pins s3 σ H3 _ I3 q3) fun w' s4 ⟨z', H4, I4, r4, q4⟩ => thn (ho' pins s4 σ H4 y z' u w' _ I4 r2 r4 q4) fun d' s5 ⟨z2, H5, I5, r5, k2, e2, q5⟩ => ?_))
    subst e2
    cases r5
    exact wpAny_truthy_bool ⟨H5, I5, q5⟩
theorem line63 : (sizeLine : Nat) < 2 ^ 63 := by rw [sizeLine_eq]; decide
theorem op_add_str : OpR X (binaryOp .Add) (fun x y H Q => ∃ i j, x = .str i ∧ y = .str j ∧ i.length + j.length ≤ sizeLine ∧ Q (.str (i ++ j)) H) := by
  intro pins s σ H x y v u Q I rx ry h
  obtain ⟨i, j, rfl, rfl, hz, q⟩ := h
  obtain ⟨t, rfl⟩ := rx
  obtain ⟨t', rfl⟩ := ry
  exact add_str (fun t' tk => ⟨.str (i ++ j), H, I.tok _, ⟨_, rfl⟩, q⟩) hz
theorem vals1 {x : V} {us : List Value} (r : Vals [x] us) : ∃ u, us = [u] ∧ RelV x u := by
  cases r with
  | cons r1 r2 => cases r2; exact ⟨_, rfl, r1⟩
theorem vals2 {x y : V} {us : List Value} (r : Vals [x, y] us) : ∃ u w', us = [u, w'] ∧ RelV x u ∧ RelV y w' := by
  cases r with
  | cons r1 r2 =>
    cases r2 with
    | cons r3 r4 => cases r4; exact ⟨_, _, rfl, r1, r3⟩
theorem call_max2 (hc : X.calm = true) : CallR X (.builtin "max") (fun xs H Q => ∃ i j, xs = [.int i, .int j] ∧ Q (.int (if j > i then j else i)) H) := by
  intro pins s σ H xs us Q I r h
  obtain ⟨i, j, rfl, q⟩ := h
  obtain ⟨u, w', rfl, ⟨t, rfl⟩, ⟨t', rfl⟩⟩ := vals2 r
  refine max_two_ints (I.ok.hd hc) fun h' tk k => ⟨_, H, I.kept k, ?_, q⟩
  by_cases hj : j > i
  · rw [if_pos hj, if_pos hj]; exact ⟨_, rfl⟩
  · rw [if_neg hj, if_neg hj]; exact ⟨_, rfl⟩
theorem call_int1 : CallR X (.type "int") (fun xs H Q => (∃ i, xs = [.int i] ∧ Q (.int i) H) ∨ ∃ k, xs = [.bl k] ∧ Q (.int (if k then 1 else 0)) H) := by
  intro pins s σ H xs us Q I r h
  rcases h with ⟨i, rfl, q⟩ | ⟨k, rfl, q⟩
  · obtain ⟨u, rfl, t, rfl⟩ := vals1 r
    exact call_int_int ⟨.int i, H, I, ⟨_, rfl⟩, q⟩
  · obtain ⟨u, rfl, r1⟩ := vals1 r
    cases r1
    exact call_int_bool ⟨.int (if k then 1 else 0), H, I.tok _, ⟨_, rfl⟩, q⟩
end
end L2
namespace L2
open PySem PySem.Spec PyProof.Rows
structure ObjM (h : Heap) (x dx C : Addr) (mA : Str → Option Value) : Prop where
  obj : h.get? x = some (PySem.W.instObj C dx)
  ns : h.Ns1 dx mA
  ne : dx ≠ x
theorem lookIn_ns {h : Heap} {dx : Addr} {mA : Str → Option Value} (n : h.Ns1 dx mA) : ∃ od, h.get? dx = some od ∧ ∀ name, PySem.W.lookIn name od = some (mA name) := by
  obtain ⟨o, es, ep, ho, hd, hk, _, hm⟩ := n
  refine ⟨o, ho, fun name => ?_⟩
  have e := hm name
  unfold nsFind findBy at e
  rw [← Array.find?_toList] at e
  unfold PySem.W.lookIn
  rw [hd]
  dsimp only
  split
  · rename_i y q
    rw [q] at e
    exact congrArg some e
  · rename_i q
    rw [q] at e
    have a : es.toList.any (·.refKey) = false := by
      rw [List.any_eq_false]
      intro y hy
      obtain ⟨z, t, hkey⟩ := hk y (Array.mem_toList_iff.mp hy)
      simp [DictEntry.refKey, hkey]
    have a' : ¬ es.toList.any (·.refKey) = true := by rw [a]; exact Bool.false_ne_true
    rw [if_neg a']
    exact congrArg some e
theorem ObjM.look {h : Heap} {x dx C : Addr} {mA : Str → Option Value} (I : ObjM h x dx C mA) : ∃ od, PySem.W.InstAt h x (PySem.W.instObj C dx) C (some od) ∧ ∀ name, PySem.W.lookIn name od = some (mA name) :=
  let ⟨od, ho, hl⟩ := lookIn_ns I.ns
  ⟨od, ⟨I.obj, rfl, rfl, ho⟩, hl⟩
section
variable {prog : Program} {w : World} {A : Around} {E : Value → Shared → Prop} {s : Shared} {K : PySem.W.Frag} {x dx C f : Addr} {mA : Str → Option Value} {name : Str} {v : Value}
end
theorem RelO.some_of {v : V} {o : Option Value} (r : RelO (some v) o) : ∃ u, o = some u ∧ RelV v u := by
  cases o with
  | none => exact (show False from r).elim
  | some u => exact ⟨u, rfl, r⟩
theorem handed_of {v : V} {u : Value} (r : RelV v u) : PySem.W.handedIn u = true := by
  cases v with
  | non => cases (show u = Value.none from r); rfl
  | bl b => cases (show u = Value.bool b from r); rfl
  | int i => obtain ⟨t, e⟩ := (show ∃ t, u = Value.int i t from r); cases e; rfl
  | str x => obtain ⟨t, e⟩ := (show ∃ t, u = Value.str x t from r); cases e; rfl
  | byt b => obtain ⟨t, e⟩ := (show ∃ t, u = Value.bytes b t from r); cases e; rfl
  | flt b => obtain ⟨t, e⟩ := (show ∃ t, u = Value.float b t from r); cases e; rfl
  | ref a => cases (show u = Value.ref a from r); rfl
  | ty n => cases (show u = Value.type n from r); rfl
section
variable {P : Program} {w : World} {H H' : Hp} {h h' : Heap} {a C dx : Addr} {fs fs' : List (Str × V)}
theorem ins_get (hok : HOk P w H h) (e : H a = some (.ins C dx fs)) : ∃ mA, ObjM h a dx C mA ∧ (∀ f, RelO (fs.lookup f) (mA f)) ∧ PySem.Within mA (fs.map (·.1)) ∧ fs.length ≤ 1000 ∧ H dx = some (.own a) := by
  obtain ⟨d, z, ne, ob, mA, n, r, q⟩ := (show ObjOk P w H h a (.ins C dx fs) from hok a _ e)
  exact ⟨mA, ⟨ob, n, ne⟩, r, q, z, d⟩
end
structure Cls (K : PySem.W.Frag) (C : Addr) : Prop where
  pg : PySem.W.plainGet K C Str.empty = true
  hd : PySem.W.hasDictIn K C = true
  po : PySem.W.plainOver K C = true
  sa : PySem.W.findIn K (.ref C) "__setattr__" = some (some (.builtin "object.__setattr__"))
theorem Cls.get {K : PySem.W.Frag} {C : Addr} (c : Cls K C) (f : Str) : PySem.W.plainGet K C f = true := c.pg
section
variable {X : Cx} {pins : List (Addr × Obj)} {σ : St} {H : Hp} {s : Shared} {a C dx : Addr} {fs : List (Str × V)} {f : Str} {v : V} {A : Around} {E : Value → Shared → Prop}
theorem attr_of {prog : Program} {w : World} {env : Env} {e : Expr} {f : Str} {pos : Pos} {s : Shared} {Q : Value → Shared → Prop} (hb : attributeBase e f env (eval e env) = eval e env)
    (h : wpAny (model prog w) A (eval e env) (fun o s₁ => wpAny (model prog w) A (getAttr o f true) Q E s₁) E s) : wpAny (model prog w) A (eval (.Attribute e f pos) env) Q E s :=
  Attribute_any_ h (by rw [arm_eval_Attribute, hb])
end
section
variable {X : Cx} {o e value : Expr} {f : Str} {pos pos' tpos : Pos} {ta tv : TE}
end
section
variable {X : Cx} {pins : List (Addr × Obj)} {σ : St} {H : Hp} {s : Shared} {A : Around} {E : Value → Shared → Prop} {Q : Value → Shared → Prop} {c : Value} {b : Bool}
inductive TyOf (K : PySem.W.Frag) (H : Hp) : V → Value → Prop where
  | non : TyOf K H .non (.type "NoneType")
  | bl (x : Bool) : TyOf K H (.bl x) (.type "bool")
  | int (i : Int) : TyOf K H (.int i) (.type "int")
  | str (x : Str) : TyOf K H (.str x) (.type "str")
  | flt (x : UInt64) : TyOf K H (.flt x) (.type "float")
  | lst {a : Addr} {xs : List V} (e : H a = some (.lst xs)) : TyOf K H (.ref a) (.type "list")
  | frz {a : Addr} {o : Obj} {xs : List V} (e : H a = some (.frz o (.lst xs))) : TyOf K H (.ref a) (.type "list")
  | tup {a : Addr} {xs : List V} (e : H a = some (.tup xs)) : TyOf K H (.ref a) (.type "tuple")
  | dK {a : Addr} {kvs : List (Key × V)} (e : H a = some (.dK kvs)) : TyOf K H (.ref a) (.type "dict")
  | dT {a : Addr} {kvs : List (List Key × V)} (e : H a = some (.dT kvs)) : TyOf K H (.ref a) (.type "dict")
  | ins {a C dx : Addr} {fs : List (Str × V)} (e : H a = some (.ins C dx fs)) (cl : Cls K C) (ha : PySem.W.findIn K (.ref C) "__class__" = some (some (.builtin "object.__class__")))
      (hn : PySem.W.specialIn K (.builtin "object.__class__") "__get__" = some (some (.builtin "getset_descriptor.__get__"))) (htk : PySem.W.takesIn K (.builtin "object.__class__") = some true)
      (hm : PySem.W.mroIn K C (.type "object") = some true) : TyOf K H (.ref a) (.ref C)
theorem isinst_ok {x : V} {u t : Value} (I : Inv X pins σ H s) (rx : RelV x u) (ty : TyOf X.K H x t) (e : PySem.W.kitOne X.K t c = some b) (h : ∀ tk, Q (.bool b) { s with toks := tk }) :
    wpAny (model X.prog X.w) A (call (.builtin "isinstance") [u, c]) Q E s := by
  cases ty with
  | non => cases (show u = Value.none from rx); exact PySem.W.kia_one PySem.W.kitx_none I.kIn True.intro e (fun z => nomatch z) h
  | bl y => cases (show u = Value.bool y from rx); exact PySem.W.kia_one PySem.W.kitx_bool I.kIn True.intro e (fun z => nomatch z) h
  | int i => obtain ⟨t, q⟩ := (show ∃ t, u = Value.int i t from rx); cases q; exact PySem.W.kia_one PySem.W.kitx_int I.kIn True.intro e (fun z => nomatch z) h
  | str y => obtain ⟨t, q⟩ := (show ∃ t, u = Value.str y t from rx); cases q; exact PySem.W.kia_one PySem.W.kitx_str I.kIn True.intro e (fun z => nomatch z) h
  | flt y => obtain ⟨t, q⟩ := (show ∃ t, u = Value.float y t from rx); cases q; exact PySem.W.kia_one PySem.W.kitx_float I.kIn True.intro e (fun z => nomatch z) h
  | @lst a xs ea =>
    cases (show u = Value.ref a from rx)
    obtain ⟨_, _, n, _, h1⟩ := (show ObjOk X.prog X.w H s.heap a (.lst xs) from I.hok a _ ea)
    exact PySem.W.kia_one PySem.W.kitx_list I.kIn ⟨_, h1, rfl⟩ e (fun z => nomatch z) h
  | @frz a ob xs ea =>
    cases (show u = Value.ref a from rx)
    obtain ⟨_, _, _, n, _, h1⟩ := (show ObjOk X.prog X.w H s.heap a (.frz ob (.lst xs)) from I.hok a _ ea)
    exact PySem.W.kia_one PySem.W.kitx_list I.kIn ⟨_, h1, rfl⟩ e (fun z => nomatch z) h
  | @tup a xs ea =>
    cases (show u = Value.ref a from rx)
    obtain ⟨_, _, _, p⟩ := (show ObjOk X.prog X.w H s.heap a (.tup xs) from I.hok a _ ea)
    obtain ⟨o, h1, h2, _⟩ := p
    exact PySem.W.kia_one PySem.W.kitx_tuple I.kIn ⟨o, h1, h2⟩ e (fun z => nomatch z) h
  | @dK a kvs ea =>
    cases (show u = Value.ref a from rx)
    obtain ⟨_, _, vs, _, p⟩ := (show ObjOk X.prog X.w H s.heap a (.dK kvs) from I.hok a _ ea)
    obtain ⟨o, es, ep, h1, h2, _⟩ := p
    exact PySem.W.kia_one PySem.W.kitx_dict I.kIn ⟨o, h1, h2.1⟩ e (fun z => nomatch z) h
  | @dT a kvs ea =>
    cases (show u = Value.ref a from rx)
    obtain ⟨_, _, xs, _, o, es, ep, h1, h2, _⟩ := (show ObjOk X.prog X.w H s.heap a (.dT kvs) from I.hok a _ ea)
    exact PySem.W.kia_one PySem.W.kitx_dict I.kIn ⟨o, h1, h2.1⟩ e (fun z => nomatch z) h
  | @ins a C dx fs ea cl ha hn htk hm =>
    cases (show u = Value.ref a from rx)
    obtain ⟨mA, O, _⟩ := ins_get I.hok ea
    obtain ⟨od, J, _⟩ := O.look
    exact PySem.W.kia_one (PySem.W.kitx_own (cl.get _) cl.hd ha hn htk hm) I.kIn J e (fun z => nomatch z) h
end
end L2
namespace L2
open PySem PySem.Spec PyProof.Rows
structure Room (k : Nat) (A : Around) : Prop where
  hd : A.handled = none
  dp : A.depth + 3 * k + 5 < recursionLimit
  un : A.units + 16 * k + 200 < cLine
  gd : A.guards = some []
theorem Room.mono {j k : Nat} {A : Around} (r : Room k A) (h : j ≤ k) : Room j A := ⟨r.hd, by have := r.dp; omega, by have := r.un; omega, r.gd⟩
theorem Room.deeper {k : Nat} {A : Around} (r : Room (k + 1) A) (env : Env) : Room k (A.deeper env) :=
  ⟨r.hd, by have := r.dp; show A.depth + 1 + 3 * k + 5 < _; omega, by have := r.un; show A.units + 3 + 16 * k + 200 < _; omega, r.gd⟩
theorem make_depth {A : Around} {C : Addr} {us : List Value} {kw : List (Str × Value)} : (A.under (.builtin "type.__call__" ⟨.ref C :: us, kw⟩)).depth = A.depth + 1 := by
  first | rfl | simp [Around.under, Code.weight, Code.isCreation, Code.isGuard, Code.isCaller, Code.frames, Code.isFrame, guardIds]
theorem make_units {A : Around} {C : Addr} {us : List Value} {kw : List (Str × Value)} : (A.under (.builtin "type.__call__" ⟨.ref C :: us, kw⟩)).units = A.units + 1 := by
  first | rfl | simp [Around.under, Code.cUnits, Code.frames, Code.isFrame]
theorem Room.make {k : Nat} {A : Around} (r : Room (k + 1) A) (C : Addr) (us : List Value) (kw : List (Str × Value)) : Room k (A.under (.builtin "type.__call__" ⟨.ref C :: us, kw⟩)) :=
  ⟨r.hd, by have := r.dp; rw [make_depth]; omega, by have := r.un; rw [make_units]; omega, by first | exact r.gd | (simpa [Around.under, Code.isGuard, guardIds] using r.gd)⟩
theorem Room.depth {k : Nat} {A : Around} (r : Room k A) : A.depth < recursionLimit := by have := r.dp; omega
theorem Room.units {k : Nat} {A : Around} (r : Room k A) : A.units + 64 < cLine := by have := r.un; omega
def tNil : TA := fun _ H Q => Q [] H
def tCons (ta : TE) (tr : TA) : TA := fun σ H Q => ta σ H fun x H1 => tr σ H1 fun xs H2 => Q (x :: xs) H2
section
variable {X : Cx} {e : Expr} {es : List Expr} {te : TE} {t : TA} {pos : Pos}
theorem pa_nil : PA X [] tNil := fun _ _ _ _ H Q I h => Calls.spliced_nil ⟨[], H, I, .nil, h⟩
theorem pa_cons (ha : PE X e te) (hr : PA X es t) (hs : starEach (e :: es) X.env = (false, eval e X.env) :: starEach es X.env := by rfl) : PA X (e :: es) (tCons te t) := by
  intro pos pins s σ H Q I h
  rw [hs]
  show wpAny _ _ (spliced ((false, eval e X.env) :: backTo pos (starEach es X.env))) _ _ s
  refine Calls.spliced_cons (thn (ha pins s σ H _ I h) fun u s1 ⟨x, H1, I1, r1, q1⟩ => ?_)
  exact thn (hr pos pins s1 σ H1 _ I1 q1) fun us s2 ⟨xs, H2, I2, r2, q2⟩ => ⟨x :: xs, H2, I2, .cons r1 r2, q2⟩
def tTup (t : TA) : TE := fun σ H Q => t σ H fun xs H1 => xs.length ≤ sizeLine ∧ ∀ p, H1 p = none → Q (.ref p) (upd H1 p (.tup xs))
def tLst (t : TA) : TE := fun σ H Q => t σ H fun xs H1 => xs.length ≤ sizeLine ∧ ∀ p, H1 p = none → Q (.ref p) (upd H1 p (.lst xs))
theorem pe_tup {x1} (h : PA X es t) : PE X (.Tuple es x1 pos) (tTup t) := by
  intro pins s σ H Q I hq
  refine wpAny_Tuple_spliced (thn (h pos pins s σ H _ I hq) fun us s1 ⟨xs, H1, I1, r, z, q⟩ => ⟨by rw [← r.length]; exact z, ?_⟩)
  have hf : H1 s1.heap.objs.size = none := I1.hok.fresh (Nat.le_refl _)
  refine ⟨.ref s1.heap.objs.size, upd H1 s1.heap.objs.size (.tup xs), I1.laid (t' := s1.toks) (fun b u e => Heap.get?_push_of_some _ e) (Nat.le_refl _) ?_, rfl, q _ hf⟩
  exact ⟨z, us, r, ⟨_, Heap.get?_push_size _ rfl, rfl, _, rfl⟩⟩
theorem pe_lst (h : PA X es t) : PE X (.List es pos) (tLst t) := by
  intro pins s σ H Q I hq
  refine wpAny_List_spliced (thn (h pos pins s σ H _ I hq) fun us s1 ⟨xs, H1, I1, r, z, q⟩ => ⟨by rw [← r.length]; exact z, ?_⟩)
  have hf : H1 s1.heap.objs.size = none := I1.hok.fresh (Nat.le_refl _)
  refine ⟨.ref s1.heap.objs.size, upd H1 s1.heap.objs.size (.lst xs), I1.laid (t' := s1.toks) (fun b u e => Heap.get?_push_of_some _ e) (Nat.le_refl _) ?_, rfl, q _ hf⟩
  exact ⟨z, us, 0, r, Heap.get?_push_size _ rfl⟩
end
abbrev Sp := List V → Hp → VK → XK → Prop
abbrev CXT := List Env → Hp → Shared → XK → Value → Shared → Prop
structure Env0 (P : Program) (w : World) (K : PySem.W.Frag) (mg : Str → Option Value) (base : Heap) (A : Around) (outer : List Env) (s : Shared) (H : Hp) : Prop where
  frames : A.frames = some outer
  mod : Mod K mg base
  bs : ∀ b o, base.get? b = some o → s.heap.get? b = some o ∧ H b = none
  bsz : base.objs.size ≤ s.heap.objs.size
  funs : s.heap.FunFrames base outer
  frf : ∀ b ∈ frs outer, H b = none
  hok : HOk P w H s.heap
  bare : AllBare s.gens
def CE (outer : List Env) (P : Program) (w : World) (H : Hp) (s : Shared) (Q : VK) (u : Value) (s' : Shared) : Prop :=
  ∃ v H', s'.os = s.os ∧ AllBare s'.gens ∧ Un (frs outer) [] H H' s.heap s'.heap ∧ HOk P w H' s'.heap ∧ RelV v u ∧ Q v H'
def CR (CX : CXT) (outer : List Env) (P : Program) (w : World) (H : Hp) (s : Shared) (Q : VK) (E : XK) (r : Result) (s' : Shared) : Prop :=
  match r with
  | .ok (.ret u) => CE outer P w H s Q u s'
  | .ok _ => False
  | .error e => CX outer H s E e s'
structure FnOk (P : Program) (w : World) (K : PySem.W.Frag) (mg : Str → Option Value) (base : Heap) (CX : CXT) (k : Nat) (f : Addr) (fd : FuncData) (ps : List Str) (sp : Sp) : Prop where
  len : ∀ vs H Q E, sp vs H Q E → vs.length = ps.length
  run : ∀ (A : Around) (outer : List Env) (s : Shared) (H : Hp) (args : Args) (us : List Value) (vs : List V) (Q : VK) (E : XK), Room k A → Env0 P w K mg base A outer s H → BindsTo s fd args (ps.zip us) → Vals vs us → sp vs H Q E →
    codeAny (model P w) A (.call (.ref f) args) (CR CX outer P w H s Q E) s
theorem Env0.make {P : Program} {w : World} {K : PySem.W.Frag} {mg : Str → Option Value} {base : Heap} {A : Around} {outer : List Env} {s : Shared} {H : Hp} (e : Env0 P w K mg base A outer s H) (C : Addr) (us : List Value) (kw : List (Str × Value)) :
    Env0 P w K mg base (A.under (.builtin "type.__call__" ⟨.ref C :: us, kw⟩)) outer s H := ⟨by first | exact e.frames | (simpa [Around.under, Code.envs, Code.isFrame, pushEnvs] using e.frames), e.mod, e.bs, e.bsz, e.funs, e.frf, e.hok, e.bare⟩
section
variable {X : Cx} {pins : List (Addr × Obj)} {σ : St} {H : Hp} {s s' : Shared}
theorem Inv.env0 (I : Inv X pins σ H s) : Env0 X.prog X.w X.K X.mg X.base X.A X.stack s H :=
  ⟨I.ok.frames, I.ok.mod, I.bs, Nat.le_trans I.ok.bsz I.sz, I.stack, I.stkFree, I.hok, I.bare⟩
theorem Inv.after {Q : VK} {u : Value} (I : Inv X pins σ H s) (h : CE X.stack X.prog X.w H s Q u s') : EP X pins σ Q u s' := by
  obtain ⟨v, H', os, bare, un, hok, r, q⟩ := h
  obtain ⟨hh, g, d, t, os'⟩ := s'
  obtain rfl : os' = s.os := os
  exact ⟨v, H', I.call (h' := hh) (g' := g) (d' := d) (t' := t) (ch := []) un hok bare (fun b z => absurd z (by simp)), r, q⟩
end
def tCall (sp : Sp) (dvs : List V) (E : XK) (t : TA) : TE := fun σ H Q => t σ H fun vs H1 => sp (vs ++ dvs) H1 Q E
def Binds (K : PySem.W.Frag) (fd : FuncData) (ps : List Str) (ds : List Value) : Prop :=
  ∀ (s : Shared) (us : List Value), K.In s.heap → (us ++ ds).length = ps.length → BindsTo s fd ⟨us, []⟩ (ps.zip (us ++ ds))
theorem Binds.all {K : PySem.W.Frag} {fd : FuncData} {ps : List Str} (h : ∀ us : List Value, us.length = ps.length → bindArgs fd ⟨us, []⟩ = pure (ps.zip us)) : Binds K fd ps [] := fun s us _ hl => by
  rw [List.append_nil] at hl ⊢
  exact .of_eq (h us hl)
def Passes (CX : CXT) (X : Cx) (E : XK) : Prop := ∀ (pins : List (Addr × Obj)) (σ : St) (H : Hp) (s : Shared) (e : Value) (s' : Shared), Inv X pins σ H s → CX X.stack H s E e s' → X.xe e s'
section
variable {X : Cx} {CX : CXT} {k : Nat} {f C : Addr} {fd : FuncData} {ps : List Str} {sp : Sp} {dvs : List V} {ds : List Value} {E : XK} {x m : Str} {p pos apos : Pos} {e o : Expr} {es : List Expr} {ta : TE} {t : TA}
theorem run_fn {pins : List (Addr × Obj)} {σ : St} {H : Hp} {s : Shared} {Q : VK} {us : List Value} {vs : List V} (F : FnOk X.prog X.w X.K X.mg X.base CX k f fd ps sp) (hr : Room k X.A) (hb : Binds X.K fd ps ds) (hd : Vals dvs ds) (hx : Passes CX X E)
    (I : Inv X pins σ H s) (r : Vals vs us) (h : sp (vs ++ dvs) H Q E) : wpAny (model X.prog X.w) X.A (call (.ref f) us) (EP X pins σ Q) X.xe s := by
  have r2 : Vals (vs ++ dvs) (us ++ ds) := r.append hd
  have hl : (us ++ ds).length = ps.length := by rw [← r2.length]; exact F.len _ _ _ _ h
  refine wpAny_call (codeAny_mono (F.run X.A X.stack s H ⟨us, []⟩ (us ++ ds) (vs ++ dvs) Q E hr I.env0 (hb s us I.kIn hl) r2 h) fun r s' hq => ?_)
  cases r with
  | error e => exact hx pins σ H s e s' I hq
  | ok fl =>
    cases fl with
    | ret u => exact I.after hq
    | next => exact False.elim hq
    | brk => exact False.elim hq
    | cont => exact False.elim hq
theorem pe_call (F : FnOk X.prog X.w X.K X.mg X.base CX k f fd ps sp) (hr : Room k X.A) (hg : Gl X x) (hm : X.mg x = some (.ref f)) (hk : PySem.W.keepIn X.K (.ref f) = true) (hb : Binds X.K fd ps ds) (hd : Vals dvs ds) (hx : Passes CX X E)
    (ha : PA X (e :: es) t) (hdb : (x == ("__debug__" : Str)) = false := by decide) (he : starEach (e :: es) X.env = (false, eval e X.env) :: starEach es X.env := by rfl) (hpl : (backTo pos (starEach es X.env)).any (·.1) = false := by rfl) :
    PE X (.Call (.Name x p) (e :: es) [] pos) (tCall sp dvs E t) := by
  intro pins s σ H Q I h
  refine wpAny_Call_Name_kw (ld_glob I hg hm ?_ hdb)
  refine PySem.W.callWith_K (h₀ := X.base) I.ok.mod.kin hk (thn (ha pos pins s σ H _ I h) fun us s1 ⟨vs, H1, I1, r, q⟩ => ⟨I1.kIn, ?_⟩) he hpl
  exact run_fn F hr hb hd hx I1 r q
end
section
variable {X : Cx} {CX : CXT} {k : Nat} {f C : Addr} {fd : FuncData} {ps ks : List Str} {sp : Sp} {E : XK} {x m : Str} {p pos apos kpos : Pos} {e o : Expr} {es : List Expr} {kws : List Keyword} {te ta : TE} {t tk : TA} {nm : Option Str}
variable {g : List Value → List Value → List Value} {gV : List V → List V → List V}
end
structure FnScope (N P : List Str) (sc : Scope) : Prop where
  kind : sc.kind = .function
  co : sc.isCoroutine = false
  gen : sc.isGenerator = false
  nd : N.Nodup
  pre : N.take P.length = P
  par : ∀ x ∈ P, sc.names.lookup x = some .local ∨ sc.names.lookup x = some .cell
  nofree : ∀ y ∈ sc.names, y.2 ≠ .free
theorem bindL_out {kindOf : Str → Option NameKind} {x : Str} : ∀ {binds : List (Str × Value)} {m : Str → Option Value}, (∀ v, (x, v) ∉ binds) → bindL kindOf binds m x = m x
  | [], _, _ => rfl
  | (n, v) :: r, m, h => by
    unfold bindL
    rw [bindL_out fun w hw => h w (List.mem_cons_of_mem _ hw)]
    split
    · have : x ≠ n := by rintro rfl; exact h v List.mem_cons_self
      simp [this]
    · rfl
theorem bindC_out {kindOf : Str → Option NameKind} {x : Str} : ∀ {binds : List (Str × Value)} {m : Str → Option Value}, (∀ v, (x, v) ∉ binds) → bindC kindOf binds m x = m x
  | [], _, _ => rfl
  | (n, v) :: r, m, h => by
    unfold bindC
    rw [bindC_out fun w hw => h w (List.mem_cons_of_mem _ hw)]
    split
    · rfl
    · have : x ≠ n := by rintro rfl; exact h v List.mem_cons_self
      simp [this]
theorem bindL_get {kindOf : Str → Option NameKind} {x : Str} {v : Value} : ∀ {P : List Str} {vs : List Value} {i : Nat} {m : Str → Option Value}, P.Nodup → P[i]? = some x → vs[i]? = some v → kindOf x = some .local →
    bindL kindOf (P.zip vs) m x = some v
  | [], _, _, _, _, h, _, _ => by simp at h
  | _ :: _, [], _, _, _, _, h, _ => by simp at h
  | p :: P, w :: vs, 0, m, nd, h1, h2, hk => by
    simp at h1 h2; subst h1; subst h2
    show bindL kindOf ((p, w) :: P.zip vs) m p = _
    unfold bindL
    rw [bindL_out fun v hv => (List.nodup_cons.mp nd).1 (List.of_mem_zip hv).1, if_pos hk]
    simp
  | p :: P, w :: vs, i + 1, m, nd, h1, h2, hk => by
    show bindL kindOf ((p, w) :: P.zip vs) m x = _
    unfold bindL
    exact bindL_get (i := i) (List.nodup_cons.mp nd).2 (by simpa using h1) (by simpa using h2) hk
theorem bindC_get {kindOf : Str → Option NameKind} {x : Str} {v : Value} : ∀ {P : List Str} {vs : List Value} {i : Nat} {m : Str → Option Value}, P.Nodup → P[i]? = some x → vs[i]? = some v → kindOf x ≠ some .local →
    bindC kindOf (P.zip vs) m x = some v
  | [], _, _, _, _, h, _, _ => by simp at h
  | _ :: _, [], _, _, _, _, h, _ => by simp at h
  | p :: P, w :: vs, 0, m, nd, h1, h2, hk => by
    simp at h1 h2; subst h1; subst h2
    show bindC kindOf ((p, w) :: P.zip vs) m p = _
    unfold bindC
    rw [bindC_out fun v hv => (List.nodup_cons.mp nd).1 (List.of_mem_zip hv).1, if_neg hk]
    simp
  | p :: P, w :: vs, i + 1, m, nd, h1, h2, hk => by
    show bindC kindOf ((p, w) :: P.zip vs) m x = _
    unfold bindC
    exact bindC_get (i := i) (List.nodup_cons.mp nd).2 (by simpa using h1) (by simpa using h2) hk
def start (N : List Str) (vs : List V) : St := vs.map some ++ List.replicate (N.length - vs.length) none
def cxOf (CX : CXT) (P : Program) (w : World) (K : PySem.W.Frag) (mg : Str → Option Value) (base : Heap) (N : List Str) (qual : Str) (scope : Scope) (f : Addr) (cd : Value) (A : Around) (outer : List Env) (s : Shared) (H : Hp) (E : XK) : Cx where
  prog := P
  w := w
  K := K
  mg := mg
  base := base
  A := A.deeper (envOfC qual scope s.heap.objs.size f cd)
  N := N
  s₀ := s
  H₀ := H
  env := envOfC qual scope s.heap.objs.size f cd
  outer := outer
  stack := envOfC qual scope s.heap.objs.size f cd :: outer
  ex := []
  calm := true
  fn := fun _ => true
  pn := []
  xe := fun e s' => wpAny (model P w) (A.deeper (envOfC qual scope s.heap.objs.size f cd)) (leaving (envOfC qual scope s.heap.objs.size f cd) e) (fun _ s'' => CX outer H s E e s'') (fun e' s'' => CX outer H s E e' s'') s'
theorem cell_has {sc : Scope} {n : Nat} {x : Str} (h : sc.names.lookup x = some .cell) : ∃ c, (cellsFrom n sc.names []).lookup x = some c := by
  have q := PySem.W.cellsFrom_some sc.names n [] (.inl h)
  exact Option.isSome_iff_exists.mp q
theorem inv_start {CX : CXT} {P : Program} {w : World} {K : PySem.W.Frag} {mg : Str → Option Value} {base : Heap} {N ps : List Str} {qual : Str} {scope : Scope} {f : Addr} {cd : Value} {A : Around} {outer : List Env} {s s1 : Shared} {H : Hp} {E : XK} {us : List Value} {vs : List V}
    (S : FnScope N ps scope) (hd : A.handled = none) (e0 : Env0 P w K mg base A outer s H) (hl : vs.length = ps.length) (r : Vals vs us)
    (x : InCallC s s.heap.objs.size (bindL (envOfC qual scope s.heap.objs.size f cd).kindOf (ps.zip us) fun _ => none) (cellsFrom (s.heap.objs.size + 1) scope.names []) (bindC (envOfC qual scope s.heap.objs.size f cd).kindOf (ps.zip us) fun _ => none) s1) :
    Inv (cxOf CX P w K mg base N qual scope f cd A outer s H E) [] (start N vs) H s1 := by
  have hpl : ps.length ≤ N.length := by have := congrArg List.length S.pre; rw [List.length_take] at this; omega
  obtain ⟨h1, tk, rfl, hk⟩ := x.done
  have noA : ∀ b : Addr, b ∉ (cxOf CX P w K mg base N qual scope f cd A outer s H E).ex := fun b z => absurd (show b ∈ ([] : List Addr) from z) (by simp)
  refine ⟨⟨e0.mod, S.kind, rfl, rfl, Nat.le_refl _, fun y z c h1 h2 => ?_, fun y hy => ?_, fun y c _ h => ?_, fun _ => hd, Around.frames_deeper e0.frames, .inr ⟨rfl, rfl⟩, fun b z => absurd z (noA b), e0.bs, e0.bsz, fun b _ _ => noA b, fun b z => absurd z (noA b), e0.funs, e0.frf⟩,
    rfl, e0.bare, Un.kept hk, ⟨_, x.toInCall.ns, fun i y v h1 h2 h3 => ?_⟩, fun y c h => ⟨_, x.cell y c h⟩, e0.hok.fresh (Nat.le_refl _), fun y c h => ?_, fun p hp => absurd (show p ∈ ([] : List (Addr × Obj)) from hp) (by simp), e0.hok.kept hk, ?_⟩
  · exact name_of_addr x.apart (PySem.mem_of_lookup h1) (PySem.mem_of_lookup h2)
  · have hy : scope.names.lookup y = some .cell ∨ scope.names.lookup y = some .free := hy
    rcases hy with hy | hy
    · exact cell_has hy
    · exact absurd rfl (S.nofree _ (PySem.mem_of_lookup hy))
  · exact Nat.le_of_lt (x.above y c (PySem.mem_of_lookup h))
  · have hi : i < vs.length := by
      unfold start at h2
      by_cases hi : i < vs.length
      · exact hi
      · rw [List.getElem?_append_right (by simpa using hi)] at h2
        rw [List.getElem?_replicate] at h2
        split at h2 <;> cases h2
    have ha : vs[i]? = some v := by
      unfold start at h2
      rw [List.getElem?_append_left (by simpa using hi), List.getElem?_map] at h2
      cases e : vs[i]? with
      | none => rw [e] at h2; cases h2
      | some a => rw [e] at h2; cases h2; rfl
    obtain ⟨u, hu, rv⟩ := r.get ha
    have hp : ps[i]? = some y := by
      rw [← S.pre, List.getElem?_take_of_lt (by omega)]; exact h1
    have ndP : ps.Nodup := by rw [← S.pre]; exact S.nd.sublist (List.take_sublist _ _)
    refine ⟨u, rv, ?_⟩
    rcases S.par y (List.mem_of_getElem? hp) with k | k
    · exact .inl ⟨k, bindL_get ndP hp hu k⟩
    · obtain ⟨c, e⟩ := cell_has (n := s.heap.objs.size + 1) k
      refine .inr ⟨.inl k, c, e, ?_⟩
      have q := x.cell y c e
      rw [bindC_get ndP hp hu (by show scope.names.lookup y ≠ _; rw [k]; decide)] at q
      exact q
  · exact e0.hok.fresh (Nat.le_of_lt (x.above y c (PySem.mem_of_lookup h)))
  · unfold start
    show _ = N.length
    rw [List.length_append, List.length_map, List.length_replicate]
    omega
theorem fn_of {CX : CXT} {P : Program} {w : World} {K : PySem.W.Frag} {mg : Str → Option Value} {base : Heap} {k : Nat} {f : Addr} {name qual : Str} {params : Arguments} {body : List Stmt} {scope : Scope} {dV kV doc pm cdv ct oc : Value} {an od : Option Addr}
    {osl : Array (Option Value)} {N ps : List Str} {sp : Sp} (lk : K.lookup f = some ⟨oc, od, .func (PySem.W.fnOf name qual params body scope dV kV doc pm an cdv ct), osl⟩) (hcd : PySem.W.codeIn K cdv qual = true) (S : FnScope N ps scope)
    (len : ∀ vs H Q E, sp vs H Q E → vs.length = ps.length)
    (hbody : ∀ (A : Around) (outer : List Env) (s : Shared) (H : Hp) (vs : List V) (Q : VK) (E : XK), Room k (A.deeper (envOfC qual scope s.heap.objs.size f cdv)) → sp vs H Q E →
      ∃ t, PSs (cxOf CX P w K mg base N qual scope f cdv A outer s H E) body t ∧ t { nx := fun _ H' => Q .non H', rt := Q } (start N vs) H) :
    FnOk P w K mg base CX (k + 1) f (PySem.W.fnOf name qual params body scope dV kV doc pm an cdv ct) ps sp := by
  refine ⟨len, fun A outer s H args us vs Q E hr e0 hb r hsp => ?_⟩
  have hl := len _ _ _ _ hsp
  have KX : K.In s.heap := e0.mod.kin.keeps fun b o e => (e0.bs b o e).1
  have lim : s.heap.NoLimit := e0.mod.nolimit.keeps fun b o e => (e0.bs b o e).1
  have hkind : ∀ y ∈ ps.zip us, scope.names.lookup y.1 = some .local ∨ (scope.names.lookup y.1 = some .cell ∧ ((cellsFrom (s.heap.objs.size + 1) scope.names []).lookup y.1).isSome = true) := fun ⟨n, v⟩ hy => by
    rcases S.par n (List.of_mem_zip hy).1 with q | q
    · exact .inl q
    · exact .inr ⟨q, PySem.W.cellsFrom_some _ _ _ (.inl q)⟩
  refine codeAny_call_function hr.depth (KX _ _ lk) rfl S.co S.gen rfl (PySem.W.codeRec_of KX hcd) (hb _ _ _ _ ?_)
  refine wpAny_newFunctionEnv_cells S.kind hkind fun env he s1 x => ?_
  subst he
  refine ⟨lim.keeps x.toInCall.keep, codeAny_func ?_⟩
  obtain ⟨t, ht, hq⟩ := hbody A outer s H vs Q E (hr.deeper _) hsp
  have I : Inv (cxOf CX P w K mg base N qual scope f cdv A outer s H E) [] (start N vs) H s1 := inv_start S hr.hd e0 hl r x
  refine wpAny_mono (ht [] s1 (start N vs) H _ I hq) (fun fl s' hs => ?_) fun e s' hs => hs
  have fin : ∀ {σ' : St} {H' : Hp} {v : V} {u : Value}, Inv (cxOf CX P w K mg base N qual scope f cdv A outer s H E) [] σ' H' s' → RelV v u → Q v H' → CE outer P w H s Q u s' :=
    fun {σ' H' v u} J rv q => ⟨v, H', J.os, J.bare, J.base, J.hok, rv, q⟩
  cases fl with
  | ret u =>
    obtain ⟨v, σ', H', J, rv, q⟩ := hs
    exact fin J rv q
  | next =>
    obtain ⟨σ', H', J, q⟩ := hs
    exact fin (v := V.non) (u := Value.none) J rfl q
  | brk =>
    obtain ⟨_, _, _, q⟩ := hs
    exact False.elim q
  | cont =>
    obtain ⟨_, _, _, q⟩ := hs
    exact False.elim q
end L2
namespace L2
open PySem PySem.Spec PyProof.Rows
section
variable {X : Cx} {x : Str} {p pos : Pos} {e : Expr} {es : List Expr} {t : TA} {id T : String} {r : List V → Hp → VK → Prop}
def tCB (r : List V → Hp → VK → Prop) (t : TA) : TE := fun σ H Q => t σ H fun vs H1 => r vs H1 Q
theorem pe_callB (hc : CallR X (.builtin id) r) (hg : Gl X x) (hm : X.mg x = none) (hv : bootBuiltins x = some (.builtin id)) (ha : PA X (e :: es) t) (hn : x ≠ "__name__" := by decide) (hdb : (x == ("__debug__" : Str)) = false := by decide)
    (he : starEach (e :: es) X.env = (false, eval e X.env) :: starEach es X.env := by rfl) (hpl : (backTo pos (starEach es X.env)).any (·.1) = false := by rfl) : PE X (.Call (.Name x p) (e :: es) [] pos) (tCB r t) := by
  intro pins s σ H Q I h
  refine wpAny_Call_Name_kw (ld_blt I hg hm hv ?_ hn hdb)
  exact PyProof.Rows.callWith_builtin1 (thn (ha pos pins s σ H _ I h) fun us s1 ⟨vs, H1, I1, r1, q1⟩ => hc pins s1 σ H1 vs us Q I1 r1 q1) he hpl
theorem pe_callTy (hc : CallR X (.type T) r) (hg : Gl X x) (hm : X.mg x = none) (hv : bootBuiltins x = some (.type T)) (ha : PA X (e :: es) t) (hn : x ≠ "__name__" := by decide) (hdb : (x == ("__debug__" : Str)) = false := by decide)
    (he : starEach (e :: es) X.env = (false, eval e X.env) :: starEach es X.env := by rfl) (hpl : (backTo pos (starEach es X.env)).any (·.1) = false := by rfl) : PE X (.Call (.Name x p) (e :: es) [] pos) (tCB r t) := by
  intro pins s σ H Q I h
  refine wpAny_Call_Name_kw (ld_blt I hg hm hv ?_ hn hdb)
  exact PyProof.Rows.callWith_type1 (thn (ha pos pins s σ H _ I h) fun us s1 ⟨vs, H1, I1, r1, q1⟩ => hc pins s1 σ H1 vs us Q I1 r1 q1) he hpl
end
end L2
namespace HT
open PySem PyProof.Rows
section
open PySem.SeqAt
open PySem.AutoSeq1 (wpAny_loadPart')
open PySem.MeetsSeq PySem.MeetsSeq2 PySem.MeetsSeq3
end
section
variable {prog : Program} {w : World} {A : Around} {E : Value → Shared → Prop} {s : Shared}
theorem cat_tup {t b : Addr} {vs ws : List Value} {Q : Value → Shared → Prop} (ht : IsTup s.heap t vs.toArray) (hb : IsTup s.heap b ws.toArray) (hv : vs ≠ [])
    (h1 : ws = [] → Q (.ref t) s) (h2 : ws ≠ [] → Q (.ref s.heap.objs.size) { s with heap := s.heap.push { cls := .type "tuple", data := .seq (vs ++ ws).toArray } })
    (hsz : vs.length + ws.length ≤ sizeLine) : wpAny (model prog w) A (binaryOp .Add (.ref t) (.ref b)) Q E s := by
  obtain ⟨⟨cls, dd, data, sl⟩, ho, hc, n, hd⟩ := id ht
  obtain ⟨⟨cls2, dd2, data2, sl2⟩, ho2, hc2, n2, hd2⟩ := id hb
  simp only at hc hd hc2 hd2
  subst hc hd hc2 hd2
  have e : vs.toArray ++ ws.toArray = (vs ++ ws).toArray := by simp
  by_cases hw : ws = []
  · exact concat_meets ⟨_, ho, rfl⟩ ⟨_, ho2, rfl⟩ noFill_tuple_add seq_tuple_add PySem.F.slot_tuple_add PySem.F.entry_tuple_add (PySem.F.args_tuple_add_2 _ _)
      (tuple_addW1 t b vs.toArray ws.toArray n n2 dd dd2 sl sl2 (by simpa using hv) (by simp [hw])) ⟨ho, ho2, h1 hw⟩
  · refine concat_meets ⟨_, ho, rfl⟩ ⟨_, ho2, rfl⟩ noFill_tuple_add seq_tuple_add PySem.F.slot_tuple_add PySem.F.entry_tuple_add (PySem.F.args_tuple_add_2 _ _)
      (tuple_addW2 t b vs.toArray ws.toArray n n2 dd dd2 sl sl2 (by simpa using hv) (by simpa using hw) (by rw [List.size_toArray, List.size_toArray]; exact hsz)) ⟨ho, ho2, ?_⟩
    rw [e]
    exact h2 hw
def sIx (n d : Nat) : Option Int → Nat
  | none => d
  | some v => if v < 0 then (v + (n : Int)).toNat else min v.toNat n
theorem sIx_le (n d : Nat) (hd : d ≤ n) (o : Option Int) : sIx n d o ≤ n := by
  cases o with
  | none => exact hd
  | some v =>
    show (if v < 0 then (v + (n : Int)).toNat else min v.toNat n) ≤ n
    by_cases hv : v < 0
    · rw [if_pos hv]; omega
    · rw [if_neg hv]; exact Nat.min_le_right _ _
theorem clip_eq (v : Int) (n d : Nat) : (if v < 0 then max (v + (n : Int)) 0 else min v (n : Int)) = ((sIx n d (some v) : Nat) : Int) := by
  show (if v < 0 then max (v + (n : Int)) 0 else min v (n : Int)) = (((if v < 0 then (v + (n : Int)).toNat else min v.toNat n) : Nat) : Int)
  by_cases hv : v < 0
  · simp only [if_pos hv]; omega
  · simp only [if_neg hv]; omega
theorem adjust_gen (lo hi : Option Int) (n : Nat) : Builtin.Slice.sliceAdjust lo hi 1 (n : Int) = (((sIx n 0 lo : Nat) : Int), ((sIx n n hi : Nat) : Int)) := by
  have h1 : ¬ ((1 : Int) < 0) := by omega
  unfold Builtin.Slice.sliceAdjust
  simp only [h1, if_false]
  refine Prod.ext ?_ ?_
  · cases lo with
    | none => rfl
    | some v => exact clip_eq v n 0
  · cases hi with
    | none => rfl
    | some v => exact clip_eq v n n
theorem places_gen (i j : Nat) : Builtin.Slice.slicePlaces (i : Int) (j : Int) 1 = j - i := by
  unfold Builtin.Slice.slicePlaces
  have h1 : (1 : Int) > 0 := by omega
  simp only [h1, if_true, Int.ediv_one]
  split <;> omega
theorem slicePart_ {v : Value} {o : Option Int} {Q : Option Int → Shared → Prop} (p : IsPart v o) (h : Q o s) : wpAny (model prog w) A (Builtin.Slice.slicePartIndex v) Q E s := by
  cases p with
  | none => exact slicePart_none h
  | int i t => exact slicePart_int h
theorem sliceApplied_gen {sl : Addr} {vl vu : Value} {lo hi : Option Int} {n : Nat} {Q : Int × Int × Nat → Shared → Prop} (hs : s.heap.IsSliceOf sl vl vu .none) (pl : IsPart vl lo) (pu : IsPart vu hi)
    (h : Q (((sIx n 0 lo : Nat) : Int), 1, sIx n n hi - sIx n 0 lo) s) : wpAny (model prog w) A (Builtin.Slice.sliceApplied (.ref sl) (pure (n : Int))) Q E s := by
  obtain ⟨os, hos, hcs, hds⟩ := id hs
  unfold Builtin.Slice.sliceApplied Builtin.Slice.sliceFields
  refine wpAny_bind (wpAny_bind (wpAny_field hos hds (x := vl) rfl (wpAny_bind (wpAny_field hos hds (x := vu) rfl (wpAny_bind (wpAny_field hos hds (x := .none) rfl (wpAny_pure ?_)))))))
  refine wpAny_bind (slicePart_none ?_)
  show wpAny _ _ (if ((1 : Int) == 0) = true then _ else _) _ _ s
  rw [if_neg (by decide)]
  refine wpAny_bind (slicePart_ pl (wpAny_bind (slicePart_ pu (wpAny_bind (wpAny_pure ?_)))))
  show wpAny _ _ (match Builtin.Slice.sliceAdjust lo hi 1 (n : Int) with | (lo, hi) => pure (lo, (1 : Int), Builtin.Slice.slicePlaces lo hi 1)) _ _ s
  rw [adjust_gen lo hi n]
  show wpAny _ _ (pure (((sIx n 0 lo : Nat) : Int), (1 : Int), Builtin.Slice.slicePlaces ((sIx n 0 lo : Nat) : Int) ((sIx n n hi : Nat) : Int) 1)) _ _ s
  rw [places_gen]
  exact wpAny_pure h
theorem pick_gen (xs : Array Value) (i k : Nat) : ((List.range k).filterMap fun (m : Nat) => xs[((i : Int) + (m : Int) * 1).toNat]?).toArray = ((xs.toList.drop i).take k).toArray := by
  have e : (fun (m : Nat) => xs[((i : Int) + (m : Int) * 1).toNat]?) = fun m => xs[i + m]? := by
    funext m
    have : ((i : Int) + (m : Int) * 1).toNat = i + m := by omega
    rw [this]
  rw [e]
  have := pick_run xs i k
  rw [List.filterMap_map] at this
  have e2 : ((fun x => xs[x]?) ∘ fun x => i + x) = fun m => xs[i + m]? := rfl
  rw [e2] at this
  rw [this]
theorem getItem_tuple_cut {t sl : Addr} {items : Array Value} {vl vu : Value} {lo hi : Option Int} {Q : Value → Shared → Prop} (ht : IsTup s.heap t items) (hs : s.heap.IsSliceOf sl vl vu .none) (pl : IsPart vl lo) (pu : IsPart vu hi)
    (hw : ¬ (sIx items.size 0 lo = 0 ∧ sIx items.size items.size hi = items.size))
    (h : Q (.ref s.heap.objs.size) { s with heap := s.heap.push { cls := .type "tuple", data := .seq ((items.toList.drop (sIx items.size 0 lo)).take (sIx items.size items.size hi - sIx items.size 0 lo)).toArray } })
    (hsz : items.size ≤ sizeLine) : wpAny (model prog w) A (getItem (.ref t) (.ref sl)) Q E s := by
  have htake : sizeOk (.seq ((items.toList.drop (sIx items.size 0 lo)).take (sIx items.size items.size hi - sIx items.size 0 lo)).toArray) := by
    show ((items.toList.drop (sIx items.size 0 lo)).take (sIx items.size items.size hi - sIx items.size 0 lo)).toArray.size ≤ sizeLine
    rw [List.size_toArray, List.length_take, List.length_drop, Array.length_toList]
    omega
  have hj : sIx items.size items.size hi ≤ items.size := sIx_le _ _ (Nat.le_refl _) hi
  obtain ⟨os, hos, hcs, hds⟩ := id hs
  have hTs : s.TypeIs (.ref sl) "slice" := ⟨os, hos, hcs⟩
  unfold getItem
  try with_reducible refine wpAny_holding ?_
  first | refine wpAny_bind (wpAny_pure ?_) | skip
  refine wpAny_bind (wpAny_sequenceKey ht.typeIs (by decide) ?_)
  refine wpAny_bind (wpAny_callSpecial?_slot (name := Str.ofString "__getitem__") ht.typeIs PyProof.Rows.slot_tuple_getitem
    (wpAny_call_entry PyProof.Rows.slot_tuple_getitem ht.typeIs entry_tuple_getitem ?_ (args_tuple_getitem _ _)))
  show wpAny _ _ (Builtin.Tuple.tupleItemsOf (.ref t) >>= _) _ _ s
  refine wpAny_bind (tupleItemsOf_ ht ?_)
  refine wpAny_bind (wpAny_typeOf hTs ?_)
  rw [if_pos (by decide)]
  refine wpAny_bind (sliceApplied_gen hs pl pu ?_)
  have hno : ¬ ((((sIx items.size 0 lo : Nat) : Int) == 0 && (1 : Int) == 1 && (sIx items.size items.size hi - sIx items.size 0 lo) == items.size) = true) := by
    intro q
    rw [Bool.and_eq_true, Bool.and_eq_true] at q
    have q1 : ((sIx items.size 0 lo : Nat) : Int) = 0 := eq_of_beq q.1.1
    have q2 : sIx items.size items.size hi - sIx items.size 0 lo = items.size := eq_of_beq q.2
    exact hw ⟨by omega, by omega⟩
  show wpAny _ _ (if (((sIx items.size 0 lo : Nat) : Int) == 0 && (1 : Int) == 1 && (sIx items.size items.size hi - sIx items.size 0 lo) == items.size) = true then _ else _) _ _ s
  rw [if_neg hno, pick_gen]
  first
    | exact wpAny_bind (m := Builtin.Tuple.tupleExact _) (wpAny_newObj_type (wpAny_pure ⟨_, rfl, wpAny_pure h⟩) htake)
    | exact wpAny_bind (m := Builtin.Tuple.tupleExact _) (wpAny_newObj_type (wpAny_bind (wpAny_pure (wpAny_pure ⟨_, rfl, wpAny_pure h⟩))) htake)
    | exact wpAny_bind (wpAny_bind (m := Builtin.Tuple.tupleExact _) (wpAny_newObj_type (wpAny_pure (wpAny_pure ⟨_, rfl, wpAny_pure h⟩)) htake))
    | exact wpAny_bind (wpAny_bind (m := Builtin.Tuple.tupleExact _) (wpAny_newObj_type (wpAny_pure ⟨_, rfl, wpAny_pure h⟩) htake))
end
end HT
namespace L2
open PySem PySem.Spec PyProof.Rows
abbrev TO := St → Hp → (Option Int → Hp → Prop) → Prop
def PO (X : Cx) (e : Option Expr) (t : TO) : Prop :=
  ∀ (pins : List (Addr × Obj)) (s : Shared) (σ : St) (H : Hp) (Q : Option Int → Hp → Prop), Inv X pins σ H s → t σ H Q →
    wpAny (model X.prog X.w) X.A (evalPart e X.env) (fun u s' => ∃ o H', Inv X pins σ H' s' ∧ IsPart u o ∧ Q o H') X.xe s
def tNoPart : TO := fun _ H Q => Q none H
def tPart (t : TE) : TO := fun σ H Q => t σ H fun x H1 => ∃ i, x = .int i ∧ Q (some i) H1
section
variable {X : Cx} {e : Expr} {te : TE} {lo hi : Option Expr} {tl th : TO} {pos p2 : Pos}
theorem po_none : PO X none tNoPart := by
  intro pins s σ H Q I h
  rw [evalPart_none]
  exact wpAny_pure ⟨none, H, I, .none, h⟩
theorem po_some (h : PE X e te) : PO X (some e) (tPart te) := by
  intro pins s σ H Q I hw
  rw [evalPart_some]
  refine thn (h pins s σ H _ I hw) fun u s1 ⟨x, H1, I1, r1, q1⟩ => ?_
  obtain ⟨i, rfl, q⟩ := q1
  obtain ⟨t, rfl⟩ := r1
  exact ⟨some i, H1, I1, .int i t, q⟩
def SlR (X : Cx) (r : V → Option Int → Option Int → Hp → VK → Prop) : Prop :=
  ∀ (pins : List (Addr × Obj)) (s : Shared) (σ : St) (H : Hp) (x : V) (v vl vu : Value) (lo hi : Option Int) (sl : Addr) (Q : VK), Inv X pins σ H s → RelV x v → s.heap.IsSliceOf sl vl vu .none → IsPart vl lo → IsPart vu hi → r x lo hi H Q →
    ∃ T id, typeLookup (.type T) "__getitem__" = pure (some (.builtin id)) ∧ s.TypeIs v T ∧ wpAny (model X.prog X.w) X.A (getItem v (.ref sl)) (EP X pins σ Q) X.xe s
theorem SlR.or {r r' : V → Option Int → Option Int → Hp → VK → Prop} (h : SlR X r) (h' : SlR X r') : SlR X (fun x lo hi H Q => r x lo hi H Q ∨ r' x lo hi H Q) := by
  intro pins s σ H x v vl vu lo hi sl Q I rx hs pl pu q
  rcases q with q | q
  · exact h pins s σ H x v vl vu lo hi sl Q I rx hs pl pu q
  · exact h' pins s σ H x v vl vu lo hi sl Q I rx hs pl pu q
def tSl (r : V → Option Int → Option Int → Hp → VK → Prop) (te : TE) (tl th : TO) : TE := fun σ H Q => te σ H fun x H1 => tl σ H1 fun l H2 => th σ H2 fun u H3 => r x l u H3 Q
theorem pe_slice {r : V → Option Int → Option Int → Hp → VK → Prop} (hr : SlR X r) (he : PE X e te) (hl : PO X lo tl) (hu : PO X hi th) : PE X (.Subscript e (.Slice lo hi none p2) pos) (tSl r te tl th) := by
  intro pins s σ H Q I h
  refine Subscript_ (thn (he pins s σ H _ I h) fun v s1 ⟨x, H1, I1, r1, q1⟩ => ?_)
  refine wpAny_Slice (thn (hl pins s1 σ H1 _ I1 q1) fun vl s2 ⟨l, H2, I2, pl, q2⟩ => thn (hu pins s2 σ H2 _ I2 q2) fun vu s3 ⟨u, H3, I3, pu, q3⟩ => ?_)
  rw [evalPart_none]
  refine wpAny_pure ?_
  have I4 : Inv X pins σ H3 { s3 with heap := s3.heap.push { cls := .type "slice", data := .fields #[vl, vu, .none] } } := I3.kept (t' := s3.toks) fun b ob q => Heap.get?_push_of_some _ q
  obtain ⟨T, id, hT, ht, hg⟩ := hr pins { s3 with heap := s3.heap.push { cls := .type "slice", data := .fields #[vl, vu, .none] } } σ H3 x v vl vu l u s3.heap.objs.size Q I4 r1 (Heap.IsSliceOf.new ..) pl pu q3
  show wpAny (model X.prog X.w) X.A (subscriptTail e (.Slice lo hi none p2) v (.ref s3.heap.objs.size)) (EP X pins σ Q) X.xe { s3 with heap := s3.heap.push { cls := .type "slice", data := .fields #[vl, vu, .none] } }
  exact tail_any (ops := [.ref s3.heap.objs.size, v]) ht hT hg (by with_unfolding_all rfl)
def cutV (xs : List V) (lo hi : Option Int) : List V := (xs.drop (HT.sIx xs.length 0 lo)).take (HT.sIx xs.length xs.length hi - HT.sIx xs.length 0 lo)
theorem cutV_length (xs : List V) (lo hi : Option Int) : (cutV xs lo hi).length ≤ xs.length := by
  unfold cutV
  rw [List.length_take, List.length_drop]
  omega
def rSlT (K : PySem.W.Frag) : V → Option Int → Option Int → Hp → VK → Prop := fun x lo hi H Q => ∃ a xs, x = .ref a ∧ SqT K H a xs ∧
  ¬ (HT.sIx xs.length 0 lo = 0 ∧ HT.sIx xs.length xs.length hi = xs.length) ∧ ∀ p, H p = none → Q (.ref p) (upd H p (.tup (cutV xs lo hi)))
theorem sl_tup : SlR X (rSlT X.K) := by
  intro pins s σ H x v vl vu lo hi sl Q I rx hs pl pu h
  obtain ⟨a, xs, rfl, hx, hw, q⟩ := h
  cases rx
  obtain ⟨its, r, ht, hz⟩ := I.tuple hx
  have hlen : its.toArray.size = xs.length := by rw [List.size_toArray]; exact r.length.symm
  refine ⟨"tuple", _, PyProof.Rows.slot_tuple_getitem.lookup, ht.typeIs, ?_⟩
  refine HT.getItem_tuple_cut ht hs pl pu (by rw [hlen]; exact hw) ?_ (by rw [hlen]; exact hz)
  rw [hlen]
  refine ⟨.ref s.heap.objs.size, _, I.laid (t' := s.toks) (o := .tup (cutV xs lo hi)) (fun b ob q => Heap.get?_push_of_some _ q) (Nat.le_refl _) ?_, rfl, q _ (I.hok.fresh (Nat.le_refl _))⟩
  exact ⟨Nat.le_trans (cutV_length xs lo hi) hz, _, (r.drop (HT.sIx xs.length 0 lo)).take (HT.sIx xs.length xs.length hi - HT.sIx xs.length 0 lo), IsTup.new _ _⟩
def rCatT (K : PySem.W.Frag) : R2 := fun x y H Q => ∃ a b xs ys, x = .ref a ∧ y = .ref b ∧ SqT K H a xs ∧ SqT K H b ys ∧ xs ≠ [] ∧ xs.length + ys.length ≤ sizeLine ∧
  (ys = [] → Q (.ref a) H) ∧ (ys ≠ [] → ∀ p, H p = none → Q (.ref p) (upd H p (.tup (xs ++ ys))))
theorem Vals.nil_iff {xs : List V} {us : List Value} (r : Vals xs us) : us = [] ↔ xs = [] := by
  cases r with
  | nil => simp
  | cons _ _ => simp
theorem op_catT : OpR X (binaryOp .Add) (rCatT X.K) := by
  intro pins s σ H x y v u Q I rx ry h
  obtain ⟨a, b, xs, ys, rfl, rfl, ha, hb, hx, hz, q1, q2⟩ := h
  cases rx
  cases ry
  obtain ⟨its, r1, p1, _⟩ := I.tuple ha
  obtain ⟨its2, r2, p2, _⟩ := I.tuple hb
  refine HT.cat_tup p1 p2 (fun z => hx (r1.nil_iff.mp z)) (fun z => ⟨.ref a, H, I, rfl, q1 (r2.nil_iff.mp z)⟩) (fun z => ?_) (by rw [← r1.length, ← r2.length]; exact hz)
  refine ⟨.ref s.heap.objs.size, _, I.laid (t' := s.toks) (o := .tup (xs ++ ys)) (fun b ob q => Heap.get?_push_of_some _ q) (Nat.le_refl _) ?_, rfl, q2 (fun w => z (r2.nil_iff.mpr w)) _ (I.hok.fresh (Nat.le_refl _))⟩
  exact ⟨by rw [List.length_append]; exact hz, _, r1.append r2, IsTup.new _ _⟩
end
end L2
namespace L2
open PySem PySem.Spec PyProof.Rows
def ixN (n : Nat) (i : Int) : Option Nat := if 0 ≤ i then (if i < n then some i.toNat else none) else if -(n : Int) ≤ i then some (i + n).toNat else none
def atI {α : Type} (xs : List α) (i : Int) : Option α := (ixN xs.length i).bind fun j => xs[j]?
theorem ixN_seq {n : Nat} {i : Int} {j : Nat} (h : ixN n i = some j) : seqIndex? i n = some j ∧ j < n ∧ -(n : Int) ≤ i ∧ i < n := by
  unfold ixN at h
  by_cases h0 : 0 ≤ i
  · rw [if_pos h0] at h
    by_cases h1 : i < n
    · rw [if_pos h1] at h
      have e : i.toNat = j := Option.some.inj h
      exact ⟨by rw [seqIndex_of h0 h1, e], by omega, by omega, h1⟩
    · rw [if_neg h1] at h; cases h
  · rw [if_neg h0] at h
    by_cases h1 : -(n : Int) ≤ i
    · rw [if_pos h1] at h
      have e : (i + n).toNat = j := Option.some.inj h
      exact ⟨by rw [seqIndex_neg (by omega) h1, e], by omega, h1, by omega⟩
    · rw [if_neg h1] at h; cases h
theorem atI_get {α : Type} {xs : List α} {i : Int} {v : α} (h : atI xs i = some v) : ∃ j, seqIndex? i xs.length = some j ∧ xs[j]? = some v ∧ j < xs.length ∧ -(xs.length : Int) ≤ i ∧ i < xs.length := by
  unfold atI at h
  cases e : ixN xs.length i with
  | none => rw [e] at h; cases h
  | some j =>
    rw [e] at h
    obtain ⟨h1, h2, h3, h4⟩ := ixN_seq e
    exact ⟨j, h1, h, h2, h3, h4⟩
theorem atI_nat {α : Type} {xs : List α} {j : Nat} {v : α} (h : xs[j]? = some v) : atI xs (j : Int) = some v := by
  have hj : j < xs.length := (List.getElem?_eq_some_iff.mp h).1
  have e : ixN xs.length (j : Int) = some j := by
    unfold ixN
    rw [if_pos (by omega), if_pos (by omega)]; simp
  unfold atI; rw [e]; exact h
def PlainIx (b : Expr) : Prop := ∀ o i, subscripted b false o i = operate [o, i] (getItem o i)
def IxR (X : Cx) (r : R2) : Prop :=
  ∀ (value slice : Expr) (pins : List (Addr × Obj)) (s : Shared) (σ : St) (H : Hp) (x y : V) (v u : Value) (Q : VK), Inv X pins σ H s → RelV x v → RelV y u → r x y H Q →
    subscripted slice false v u = operate [v, u] (getItem v u) → wpAny (model X.prog X.w) X.A (subscriptTail value slice v u) (EP X pins σ Q) X.xe s
def MtR (X : Cx) (id : String) (r : V → List V → Hp → VK → Prop) : Prop :=
  ∀ (pins : List (Addr × Obj)) (s : Shared) (σ : St) (H : Hp) (x : V) (xs : List V) (v : Value) (us : List Value) (Q : VK), Inv X pins σ H s → RelV x v → Vals xs us → r x xs H Q →
    wpAny (model X.prog X.w) X.A (call (.builtin id) (v :: us)) (EP X pins σ Q) X.xe s
section
variable {X : Cx} {a b : Expr} {ta tb : TE} {pos : Pos}
theorem pe_ix {r : R2} (hr : IxR X r) (ha : PE X a ta) (hb : PE X b tb) (hs : PlainIx b) : PE X (.Subscript a b pos) (tOp r ta tb) := by
  intro pins s σ H Q I h
  exact Subscript_ (binT ha hb I h fun v u s2 x y H2 I2 rx ry q => hr a b pins s2 σ H2 x y v u Q I2 rx ry q (hs _ _))
def rIxL (K : PySem.W.Frag) : R2 := fun x y H Q => ∃ p xs i v, x = .ref p ∧ y = .int i ∧ SqL K H p xs ∧ atI xs i = some v ∧ Q v H
def rIxT (K : PySem.W.Frag) : R2 := fun x y H Q => ∃ p xs i v, x = .ref p ∧ y = .int i ∧ SqT K H p xs ∧ atI xs i = some v ∧ Q v H
def rIxS : R2 := fun x y H Q => ∃ z i c, x = .str z ∧ y = .int i ∧ z.length ≤ sizeLine ∧ atI z.cps.toList i = some c ∧ Q (.str ⟨#[c]⟩) H
theorem ix_list : IxR X (rIxL X.K) := by
  intro value slice pins s σ H x y v u Q I rx ry h hs
  obtain ⟨p, xs, i, z, rfl, rfl, hq, he, q⟩ := h
  cases rx
  obtain ⟨t, rfl⟩ := ry
  obtain ⟨its, r, pl, hz⟩ := I.list hq
  obtain ⟨j, h1, h2, h3, h4, h5⟩ := atI_get he
  obtain ⟨w, ew, rw'⟩ := r.get h2
  have hl := r.length
  have hn := line63
  have fin : EP X pins σ Q w s := ⟨z, H, I, rw', q⟩
  by_cases h0 : 0 ≤ i
  · have hj : i.toNat = j := by
      rw [seqIndex_of h0 h5] at h1
      exact Option.some.inj h1
    exact item_listR pl.isList h0 (by omega) (by rw [hj]; simpa using ew) fin hs
  · have hj : (i + (its.toArray.size : Int)).toNat = j := by
      rw [seqIndex_neg (by omega) h4] at h1
      rw [List.size_toArray, ← hl]
      exact Option.some.inj h1
    exact subscriptTail_builtinR (x := w) pl.isList.typeIs slot_list_getitem.lookup
      (wpAny_getItem_list_neg (Q := fun r s' => r = w ∧ EP X pins σ Q r s') pl.isList (by omega) (by rw [List.size_toArray] <;> omega) (by omega) (by rw [hj]; simpa using ew) ⟨rfl, fin⟩) hs
theorem ix_tup : IxR X (rIxT X.K) := by
  intro value slice pins s σ H x y v u Q I rx ry h hs
  obtain ⟨p, xs, i, z, rfl, rfl, hq, he, q⟩ := h
  cases rx
  obtain ⟨t, rfl⟩ := ry
  obtain ⟨its, r, pl, hz⟩ := I.tuple hq
  obtain ⟨j, h1, h2, h3, h4, h5⟩ := atI_get he
  obtain ⟨w, ew, rw'⟩ := r.get h2
  have hl := r.length
  have hn := line63
  have fin : EP X pins σ Q w s := ⟨z, H, I, rw', q⟩
  exact subscriptTail_builtinR (x := w) pl.typeIs slot_tuple_getitem.lookup
    (getItem_tuple (j := j) (Q := fun r s' => r = w ∧ EP X pins σ Q r s') pl (by omega) (by omega) (by rw [List.size_toArray, ← hl]; exact h1) (by simpa using ew) ⟨rfl, fin⟩) hs
theorem ix_str : IxR X rIxS := by
  intro value slice pins s σ H x y v u Q I rx ry h hs
  obtain ⟨z, i, c, rfl, rfl, hz, he, q⟩ := h
  obtain ⟨t, rfl⟩ := rx
  obtain ⟨t', rfl⟩ := ry
  obtain ⟨j, h1, h2, h3, h4, h5⟩ := atI_get he
  have hl : z.cps.toList.length = z.length := by simp [Str.length]
  rw [hl] at h1 h4 h5
  have hn := line63
  exact tail_any (typeIs_str s z t) slot_str_getitem.lookup (getItem_str (c := c) (by
    have e1 : decide (i < -(2 ^ 63 : Int)) = false := decide_eq_false (by omega)
    have e2 : decide (i ≥ 2 ^ 63) = false := decide_eq_false (by omega)
    rw [e1, e2, Bool.or_false]) (by rw [h1]; simpa using h2) ⟨.str ⟨#[c]⟩, H, I.tok _, ⟨_, rfl⟩, q⟩) hs
theorem mapSeq_set (its : List Value) (n j : Nat) (u : Value) : Obj.mapSeq (·.setIfInBounds j u) { cls := .type "list", data := .seq its.toArray n } = { cls := .type "list", data := .seq (its.set j u).toArray n } := by
  simp [Obj.mapSeq]
theorem Inv.lst {pins : List (Addr × Obj)} {σ : St} {H : Hp} {s : Shared} {p : Addr} {xs : List V} (I : Inv X pins σ H s) (h : H p = some (.lst xs)) :
    ∃ (its : List Value) (n : Nat), Vals xs its ∧ s.heap.get? p = some { cls := .type "list", data := .seq its.toArray n } ∧ xs.length ≤ sizeLine := by
  obtain ⟨z, its, n, r, e⟩ := I.hok p _ h
  exact ⟨its, n, r, e, z⟩
theorem Inv.lstUpd {pins : List (Addr × Obj)} {σ : St} {H : Hp} {s : Shared} {p : Addr} {xs ys : List V} {its its' : List Value} {n n' : Nat} {f : Obj → Obj} (I : Inv X pins σ H s) (h : H p = some (.lst xs))
    (ho : s.heap.get? p = some { cls := .type "list", data := .seq its.toArray n }) (hf : f { cls := .type "list", data := .seq its.toArray n } = { cls := .type "list", data := .seq its'.toArray n' }) (r : Vals ys its') (hz : ys.length ≤ sizeLine) (t : Nat) :
    Inv X pins σ (upd H p (.lst ys)) { s with heap := s.heap.update p f, toks := t } := by
  have e : (s.heap.update p f).get? p = some { cls := .type "list", data := .seq its'.toArray n' } := by
    rw [Heap.get?_update_self f ho (by rw [hf] <;> rfl), hf]
  refine I.write (x := p) (e := p) (by rw [h]; trivial) (.inl rfl) (fun b u hb q => (Heap.get?_update_other _ _ (Ne.symm hb)).trans q) ⟨_, e⟩ ?_
  exact ⟨hz, its', n', r, e⟩
def rSetL : V → V → V → Hp → (Hp → Prop) → Prop := fun o i v H Q => ∃ p xs k j, o = .ref p ∧ i = .int k ∧ H p = some (.lst xs) ∧ ixN xs.length k = some j ∧ Q (upd H p (.lst (xs.set j v)))
theorem set_list : PSet X rSetL := by
  intro pins s σ H o i v ov iv u Q I ro ri rv h
  obtain ⟨p, xs, k, j, rfl, rfl, hp, hj, q⟩ := h
  cases ro
  obtain ⟨t, rfl⟩ := ri
  obtain ⟨its, n, r, ho, hz⟩ := I.lst hp
  obtain ⟨h1, h2, h3, h4⟩ := ixN_seq hj
  have hl := r.length
  have hn := line63
  have I' : Inv X pins σ (upd H p (.lst (xs.set j v))) { s with heap := s.heap.update p (Obj.mapSeq (·.setIfInBounds j u)) } :=
    I.lstUpd hp ho (mapSeq_set its n j u) (r.set rv j) (by rw [List.length_set]; exact hz) s.toks
  by_cases h0 : 0 ≤ k
  · have hk : k.toNat = j := by
      rw [seqIndex_of h0 h4] at h1
      exact Option.some.inj h1
    exact PySem.W.ki_setAt ho h0 (by omega) (by rw [List.size_toArray, ← hl]; exact h4) (by rw [hk]; exact ⟨_, I', q⟩)
  · have hk : (k + (its.toArray.size : Int)).toNat = j := by
      rw [seqIndex_neg (by omega) h3] at h1
      rw [List.size_toArray, ← hl]
      exact Option.some.inj h1
    exact PySem.W.ki_setBack ho (by omega) (by rw [List.size_toArray, ← hl]; exact h3) (by omega) (by rw [hk]; exact ⟨_, I', q⟩)
theorem slice_bounds (lo hi : Option Int) (n : Nat) : (sliceBounds lo hi none n).1 = ((HT.sIx n 0 lo : Nat) : Int) ∧ (sliceBounds lo hi none n).2.1 = ((HT.sIx n n hi : Nat) : Int) ∧ (sliceBounds lo hi none n).2.2 = 1 := by
  refine ⟨?_, ?_, rfl⟩
  · cases lo with
    | none => simp [sliceBounds, HT.sIx]
    | some i =>
      simp only [sliceBounds, HT.sIx, Option.getD_none, show (1 : Int) > 0 by decide, if_true]
      by_cases h : i < 0
      · simp only [h, if_true] <;> omega
      · simp only [h, if_false] <;> omega
  · cases hi with
    | none => simp [sliceBounds, HT.sIx]
    | some i =>
      simp only [sliceBounds, HT.sIx, Option.getD_none, show (1 : Int) > 0 by decide, if_true]
      by_cases h : i < 0
      · simp only [h, if_true] <;> omega
      · simp only [h, if_false] <;> omega
theorem slicePick_cut (its : List Value) (lo hi : Option Int) : slicePick its.toArray lo hi none = ((its.drop (HT.sIx its.length 0 lo)).take (HT.sIx its.length its.length hi - HT.sIx its.length 0 lo)).toArray := by
  obtain ⟨h1, h2, h3⟩ := slice_bounds lo hi its.toArray.size
  unfold slicePick
  rw [h1, h2, h3]
  simp only [sliceRange_one, pick_run, List.size_toArray] <;> rfl
def rSlL (K : PySem.W.Frag) : V → Option Int → Option Int → Hp → VK → Prop := fun x lo hi H Q => ∃ a xs, x = .ref a ∧ SqL K H a xs ∧ ∀ p, H p = none → Q (.ref p) (upd H p (.lst (cutV xs lo hi)))
theorem sl_list : SlR X (rSlL X.K) := by
  intro pins s σ H x v vl vu lo hi sl Q I rx hs pl pu h
  obtain ⟨a, xs, rfl, hx, q⟩ := h
  cases rx
  obtain ⟨its, r, ht, hz⟩ := I.list hx
  have hlen := r.length
  refine ⟨"list", _, slot_list_getitem.lookup, ht.isList.typeIs, ?_⟩
  refine wpAny_getItem_list_slice ht.isList hs pl pu .none (by simp) ?_ (by rw [List.size_toArray] <;> omega)
  rw [slicePick_cut, ← hlen]
  refine ⟨.ref s.heap.objs.size, _, I.laid (t' := s.toks) (o := .lst (cutV xs lo hi)) (fun b ob q => Heap.get?_push_of_some _ q) (Nat.le_refl _) ?_, rfl, q _ (I.hok.fresh (Nat.le_refl _))⟩
  exact ⟨Nat.le_trans (cutV_length xs lo hi) hz, _, 0, (r.drop (HT.sIx xs.length 0 lo)).take (HT.sIx xs.length xs.length hi - HT.sIx xs.length 0 lo), Heap.get?_push_size _ rfl⟩
def flatV : V → Bool
  | .non => true
  | .bl _ => true
  | .int _ => true
  | .str _ => true
  | _ => false
def eqV : V → V → Bool
  | .non, .non => true
  | .bl a, .bl b => a == b
  | .bl a, .int b => (if a then 1 else 0) == b
  | .int a, .bl b => a == (if b then 1 else 0)
  | .int a, .int b => a == b
  | .str a, .str b => a == b
  | _, _ => false
theorem eqAt_V {A : Around} {s : Shared} {y x : V} {u v : Value} (ry : RelV y u) (rx : RelV x v) (fy : flatV y = true) (fx : flatV x = true) : SeqAt.EqAt A s u v (eqV y x) := by
  cases y with
  | non =>
    cases ry
    cases x with
    | non => cases rx; exact SeqAt.EqAt.same _
    | bl b => cases rx; exact SeqAt.EqAt.none_bool b
    | int b => obtain ⟨t, rfl⟩ := rx; exact SeqAt.EqAt.none_int b t
    | str b => obtain ⟨t, rfl⟩ := rx; exact SeqAt.EqAt.none_str b t
    | _ => exact absurd (show false = true from fx) Bool.false_ne_true
  | bl a =>
    cases ry
    cases x with
    | non => cases rx; exact SeqAt.EqAt.bool_none a
    | bl b => cases rx; exact SeqAt.EqAt.bool_bool a b
    | int b => obtain ⟨t, rfl⟩ := rx; exact SeqAt.EqAt.bool_int a b t
    | str b => obtain ⟨t, rfl⟩ := rx; exact SeqAt.EqAt.bool_str a b t
    | _ => exact absurd (show false = true from fx) Bool.false_ne_true
  | int a =>
    obtain ⟨t', rfl⟩ := ry
    cases x with
    | non => cases rx; exact SeqAt.EqAt.int_none a t'
    | bl b => cases rx; exact SeqAt.EqAt.int_bool a t' b
    | int b => obtain ⟨t, rfl⟩ := rx; exact SeqAt.EqAt.int_int a t' b t
    | str b => obtain ⟨t, rfl⟩ := rx; exact SeqAt.EqAt.int_str a t' b t
    | _ => exact absurd (show false = true from fx) Bool.false_ne_true
  | str a =>
    obtain ⟨t', rfl⟩ := ry
    cases x with
    | non => cases rx; exact SeqAt.EqAt.str_none a t'
    | bl b => cases rx; exact SeqAt.EqAt.str_bool a t' b
    | int b => obtain ⟨t, rfl⟩ := rx; exact SeqAt.EqAt.str_int a t' b t
    | str b => obtain ⟨t, rfl⟩ := rx; exact SeqAt.EqAt.str_str a t' b t
    | _ => exact absurd (show false = true from fx) Bool.false_ne_true
  | _ => exact absurd (show false = true from fy) Bool.false_ne_true
def eqU (x : V) (u : Value) : Bool := match u with
  | .none => eqV .non x
  | .bool b => eqV (.bl b) x
  | .int i _ => eqV (.int i) x
  | .str z _ => eqV (.str z) x
  | _ => false
theorem eqU_of {x y : V} {u : Value} (r : RelV y u) (f : flatV y = true) : eqU x u = eqV y x := by
  cases y with
  | non => cases r; rfl
  | bl b => cases r; rfl
  | int i => obtain ⟨t, rfl⟩ := r; rfl
  | str z => obtain ⟨t, rfl⟩ := r; rfl
  | _ => exact absurd (show false = true from f) Bool.false_ne_true
theorem any_eqU {x : V} : ∀ {xs : List V} {us : List Value}, Vals xs us → xs.all flatV = true → us.any (eqU x) = xs.any fun y => eqV y x
  | _, _, .nil, _ => rfl
  | y :: xs, u :: us, .cons r t, f => by
    rw [List.all_cons, Bool.and_eq_true] at f
    rw [List.any_cons, List.any_cons, eqU_of r f.1, any_eqU t f.2]
theorem mem_eqAt {A : Around} {s : Shared} {x : V} {v : Value} (rx : RelV x v) (fx : flatV x = true) : ∀ {xs : List V} {us : List Value}, Vals xs us → xs.all flatV = true → ∀ u ∈ us, SeqAt.EqAt A s u v (eqU x u)
  | _, _, .nil, _ => fun u hu => by cases hu
  | y :: xs, u :: us, .cons r t, f => fun u' hu => by
    rw [List.all_cons, Bool.and_eq_true] at f
    rcases List.mem_cons.mp hu with rfl | hu
    · rw [eqU_of r f.1]; exact eqAt_V r rx f.1 fx
    · exact mem_eqAt rx fx t f.2 u' hu
def inV (x : V) (xs : List V) : Bool := xs.any fun y => eqV y x
def rIn (K : PySem.W.Frag) (neg : Bool) : R2 := fun x y H Q => ∃ p xs, y = .ref p ∧ (SqL K H p xs ∨ SqT K H p xs) ∧ flatV x = true ∧ xs.all flatV = true ∧ Q (.bl (if neg then !inV x xs else inV x xs)) H
theorem op_in_seq : OpR X (compareOp .In) (rIn X.K false) := by
  intro pins s σ H x y v u Q I rx ry h
  obtain ⟨p, xs, rfl, hq, fx, fs, q⟩ := h
  cases ry
  rcases hq with hq | hq
  · obtain ⟨its, r, pl, hz⟩ := I.list hq
    refine SeqAt.in_listAt (eqU x) pl.isList (fun w hw => mem_eqAt rx fx r fs w (by simpa using hw)) ⟨.bl _, H, I, rfl, ?_⟩
    rw [show its.toArray.any (eqU x) = its.any (eqU x) by simp, any_eqU r fs]
    exact q
  · obtain ⟨its, r, pl, hz⟩ := I.tuple hq
    refine SeqAt.in_tupleAt (eqU x) pl (fun w hw => mem_eqAt rx fx r fs w (by simpa using hw)) ⟨.bl _, H, I, rfl, ?_⟩
    rw [show its.toArray.any (eqU x) = its.any (eqU x) by simp, any_eqU r fs]
    exact q
theorem op_notIn_seq : OpR X (compareOp .NotIn) (rIn X.K true) := by
  intro pins s σ H x y v u Q I rx ry h
  obtain ⟨p, xs, rfl, hq, fx, fs, q⟩ := h
  cases ry
  rcases hq with hq | hq
  · obtain ⟨its, r, pl, hz⟩ := I.list hq
    refine SeqAt.notIn_listAt (eqU x) pl.isList (fun w hw => mem_eqAt rx fx r fs w (by simpa using hw)) ⟨.bl _, H, I, rfl, ?_⟩
    rw [show its.toArray.any (eqU x) = its.any (eqU x) by simp, any_eqU r fs]
    exact q
  · obtain ⟨its, r, pl, hz⟩ := I.tuple hq
    refine SeqAt.notIn_tupleAt (eqU x) pl (fun w hw => mem_eqAt rx fx r fs w (by simpa using hw)) ⟨.bl _, H, I, rfl, ?_⟩
    rw [show its.toArray.any (eqU x) = its.any (eqU x) by simp, any_eqU r fs]
    exact q
theorem op_notIn_str : OpR X (compareOp .NotIn) (fun x y H Q => ∃ i j, x = .str i ∧ y = .str j ∧ Q (.bl (!(!(Builtin.Str.occurrences j i 0 j.length 1).isEmpty))) H) := by
  intro pins s σ H x y v u Q I rx ry h
  obtain ⟨i, j, rfl, rfl, q⟩ := h
  obtain ⟨t, rfl⟩ := rx
  obtain ⟨t', rfl⟩ := ry
  exact notIn_str ⟨.bl _, H, I, rfl, q⟩
theorem call_len_seq : CallR X (.builtin "len") (fun xs H Q => ∃ p ys, xs = [.ref p] ∧ (SqL X.K H p ys ∨ SqT X.K H p ys) ∧ Q (.int ys.length) H) := by
  intro pins s σ H xs us Q I r h
  obtain ⟨p, ys, rfl, hq, q⟩ := h
  obtain ⟨u, rfl, rx⟩ := vals1 r
  cases rx
  have hn := line63
  rcases hq with hq | hq
  · obtain ⟨its, r', pl, hz⟩ := I.list hq
    have hlen := r'.length
    exact Calls.call_len_list pl.isList (by simp only [List.size_toArray] <;> omega) ⟨.int ys.length, H, I.tok _, ⟨s.toks + 1, by rw [List.size_toArray, hlen]⟩, q⟩
  · obtain ⟨its, r', pl, hz⟩ := I.tuple hq
    have hlen := r'.length
    exact len_tuple pl (by simp only [List.size_toArray] <;> omega) ⟨.int ys.length, H, I.tok _, ⟨s.toks + 1, by rw [List.size_toArray, hlen]⟩, q⟩
theorem call_len_str : CallR X (.builtin "len") (fun xs H Q => ∃ z, xs = [.str z] ∧ z.length ≤ sizeLine ∧ Q (.int z.length) H) := by
  intro pins s σ H xs us Q I r h
  obtain ⟨z, rfl, hz, q⟩ := h
  obtain ⟨u, rfl, t, rfl⟩ := vals1 r
  have hn := line63
  exact len_str (by omega) ⟨.int z.length, H, I.tok _, ⟨_, rfl⟩, q⟩
theorem call_list_of : CallR X (.type "list") (fun xs H Q => ∃ p ys, xs = [.ref p] ∧ (SqL X.K H p ys ∨ SqT X.K H p ys) ∧ ∀ l, H l = none → Q (.ref l) (upd H l (.lst ys))) := by
  intro pins s σ H xs us Q I r h
  obtain ⟨p, ys, rfl, hq, q⟩ := h
  obtain ⟨u, rfl, rx⟩ := vals1 r
  cases rx
  have fin : ∀ (its : List Value), Vals ys its → ys.length ≤ sizeLine → ∀ (h' : Heap) (c' : Nat), (∀ b o', s.heap.get? b = some o' → h'.get? b = some o') →
      h'.get? s.heap.objs.size = some { cls := .type "list", dict := none, data := .seq its.toArray c', slots := #[] } → EP X pins σ Q (.ref s.heap.objs.size) { s with heap := h' } := fun its r' hz h' c' kp e =>
    ⟨.ref s.heap.objs.size, _, I.laid (t' := s.toks) kp (Nat.le_refl _) (show ObjOk X.prog X.w _ h' _ (.lst ys) from ⟨hz, its, c', r', e⟩), rfl, q _ (I.hok.fresh (Nat.le_refl _))⟩
  rcases hq with hq | hq
  · obtain ⟨its, r', pl, hz⟩ := I.list hq
    have hlen := r'.length
    obtain ⟨o, ho, hc, n, hd⟩ := pl.isList
    exact call_list_seq p (.inl rfl) ho hc hd (fun h' c' kp e => fin its r' hz h' c' kp e) (by simp only [List.size_toArray] <;> omega)
  · obtain ⟨its, r', pl, hz⟩ := I.tuple hq
    have hlen := r'.length
    obtain ⟨o, ho, hc, n, hd⟩ := pl
    exact call_list_seq p (.inr rfl) ho hc hd (fun h' c' kp e => fin its r' hz h' c' kp e) (by simp only [List.size_toArray] <;> omega)
theorem call_tuple_of : CallR X (.type "tuple") (fun xs H Q => ∃ p ys, xs = [.ref p] ∧ ((SqL X.K H p ys ∧ ∀ l, H l = none → Q (.ref l) (upd H l (.tup ys))) ∨ (SqT X.K H p ys ∧ Q (.ref p) H))) := by
  intro pins s σ H xs us Q I r h
  obtain ⟨p, ys, rfl, h⟩ := h
  obtain ⟨u, rfl, rx⟩ := vals1 r
  cases rx
  rcases h with ⟨hq, q⟩ | ⟨hq, q⟩
  · obtain ⟨its, r', pl, hz⟩ := I.list hq
    have hlen := r'.length
    refine call_tuple_list pl.isList (fun h' kp => ?_) (by simp only [List.size_toArray] <;> omega)
    have I1 : Inv X pins σ H { s with heap := h' } := I.kept (t' := s.toks) kp
    have I2 : Inv X pins σ (upd H h'.objs.size (.tup ys)) { s with heap := h'.push { cls := .type "tuple", data := .seq its.toArray } } :=
      I1.laid (t' := s.toks) (fun b o e => Heap.get?_push_of_some _ e) (Nat.le_refl _) (show ObjOk X.prog X.w _ _ _ (.tup ys) from ⟨hz, its, r', IsTup.new _ _⟩)
    exact ⟨.ref h'.objs.size, _, I2, rfl, q _ (I1.hok.fresh (Nat.le_refl _))⟩
  · obtain ⟨its, r', pl, hz⟩ := I.tuple hq
    exact call_tuple_same pl ⟨.ref p, H, I, rfl, q⟩
def tyV (K : PySem.W.Frag) (T : String) (x : V) (H : Hp) : Prop := match x with
  | .str _ => T = "str"
  | .int _ => T = "int"
  | .ref p => (T = "list" ∧ ∃ xs, SqL K H p xs) ∨ (T = "tuple" ∧ ∃ o, K.lookup p = some o ∧ o.cls = .type "tuple" ∧ o.dict = none) ∨
      (T = "dict" ∧ ((∃ kvs, H p = some (.dK kvs)) ∨ ∃ kvs, H p = some (.dT kvs))) ∨ (T = "set" ∧ ∃ S n, H p = some (.set S n))
  | _ => False
theorem tyV_is {pins : List (Addr × Obj)} {σ : St} {H : Hp} {s : Shared} {T : String} {x : V} {v : Value} (I : Inv X pins σ H s) (r : RelV x v) (ty : tyV X.K T x H) :
    s.TypeIs v T ∧ ∀ a, v = .ref a → ∃ ob, s.heap.get? a = some ob ∧ ob.dict = none := by
  cases x with
  | str z =>
    obtain ⟨t, rfl⟩ := r
    cases (show T = "str" from ty)
    exact ⟨typeIs_str s z t, fun _ e => nomatch e⟩
  | int i =>
    obtain ⟨t, rfl⟩ := r
    cases (show T = "int" from ty)
    exact ⟨typeIs_int s i t, fun _ e => nomatch e⟩
  | ref p =>
    cases r
    rcases ty with ⟨rfl, xs, hq⟩ | ⟨rfl, o, hk, hc, hd⟩ | ⟨rfl, hk⟩ | ⟨rfl, S, n, hk⟩
    · obtain ⟨its, _, pl, _⟩ := I.list hq
      refine ⟨pl.isList.typeIs, fun a e => ?_⟩
      cases e
      obtain ⟨o, n, e, c, hd, _⟩ := pl
      exact ⟨o, e, hd⟩
    · refine ⟨⟨o, I.kIn p o hk, hc⟩, fun a e => ?_⟩
      cases e
      exact ⟨o, I.kIn _ o hk, hd⟩
    · have z : ∃ o, s.heap.get? p = some o ∧ o.ExactDict := by
        rcases hk with ⟨kvs, hk⟩ | ⟨kvs, hk⟩
        · obtain ⟨_, _, _, _, o, _, _, e, ex, _⟩ := I.hok p _ hk
          exact ⟨o, e, ex⟩
        · obtain ⟨_, _, _, _, o, _, _, e, ex, _⟩ := I.hok p _ hk
          exact ⟨o, e, ex⟩
      obtain ⟨o, e, ex⟩ := z
      refine ⟨⟨o, e, ex.1⟩, fun a e2 => ?_⟩
      cases e2
      exact ⟨o, e, ex.2.1⟩
    · obtain ⟨o, _, _, _, e, ex, _⟩ := I.hok p _ hk
      refine ⟨⟨o, e, ex.1⟩, fun a e2 => ?_⟩
      cases e2
      exact ⟨o, e, ex.2.1⟩
  | _ => exact False.elim ty
def tBM0 (K : PySem.W.Frag) (T : String) (r : V → List V → Hp → VK → Prop) (to : TE) : TE := fun σ H Q => to σ H fun x H1 => tyV K T x H1 ∧ r x [] H1 Q
def tBM (K : PySem.W.Frag) (T : String) (r : V → List V → Hp → VK → Prop) (to : TE) (t : TA) : TE := fun σ H Q => to σ H fun x H1 => tyV K T x H1 ∧ t σ H1 fun xs H2 => r x xs H2 Q
variable {o e : Expr} {es : List Expr} {to : TE} {t : TA} {name : Str} {apos cpos : Pos} {T id : String} {r : V → List V → Hp → VK → Prop}
theorem pe_bm0 (pa : PlainAttrs T) (slot : Slot T name id) (hty : typeOf (.builtin id) = pure (.type "method_descriptor")) (hm : MtR X id r) (ho : PE X o to)
    (hbase : attributeBase o name X.env (eval o X.env) = eval o X.env := by rfl) (hline : (apos.endLine == cpos.line) = true := by rfl) : PE X (.Call (.Attribute o name apos) [] [] cpos) (tBM0 X.K T r to) := by
  intro pins s σ H Q I h
  refine wpAny_Call_method0_late hbase hline (thn (ho pins s σ H _ I h) fun v s1 ⟨x, H1, I1, r1, ty, q1⟩ => ?_)
  obtain ⟨h1, h2⟩ := tyV_is I1 r1 ty
  exact ⟨T, id, pa, slot, hty, h1, h2, Calls.callWith_builtin rfl (PySem.evalArgs_none (hm pins s1 σ H1 x [] v [] Q I1 r1 .nil q1))⟩
theorem pe_bm (pa : PlainAttrs T) (slot : Slot T name id) (hty : typeOf (.builtin id) = pure (.type "method_descriptor")) (hm : MtR X id r) (ho : PE X o to) (ha : PA X (e :: es) t)
    (hbase : attributeBase o name X.env (eval o X.env) = eval o X.env := by rfl)
    (hfew : ((backTo cpos (starEach (e :: es) X.env)).all (fun x => !x.1) && (backToKw cpos (keywordEach [] X.env)).all (fun x => x.1.isSome)
      && decide ((e :: es).length + ([] : List Keyword).length + (if ([] : List Keyword).isEmpty then 0 else 1) < 30)) = true := by rfl)
    (hline : (apos.endLine == cpos.line) = true := by rfl) (hs : starEach (e :: es) X.env = (false, eval e X.env) :: starEach es X.env := by rfl) (hplain : (backTo cpos (starEach es X.env)).any (·.1) = false := by rfl) :
    PE X (.Call (.Attribute o name apos) (e :: es) [] cpos) (tBM X.K T r to t) := by
  intro pins s σ H Q I h
  refine wpAny_Call_method_late hbase hfew hline rfl (thn (ho pins s σ H _ I h) fun v s1 ⟨x, H1, I1, r1, ty, q1⟩ => ?_)
  obtain ⟨h1, h2⟩ := tyV_is I1 r1 ty
  refine ⟨T, id, pa, slot, hty, h1, h2, ?_⟩
  have hA := ha cpos pins s1 σ H1 _ I1 q1
  rw [hs] at hA ⊢
  refine Calls.callWith_builtin (by show (false || (backTo cpos (starEach es X.env)).any (·.1)) = false; rw [hplain] <;> rfl) (Calls.evalArgs_plain ?_)
  exact thn hA fun us s2 ⟨vs, H2, I2, r2, q2⟩ => hm pins s2 σ H2 x vs v us Q I2 r1 r2 q2
/- xs.append(e), list.index on a module's tuple .. are MtR facts of 06m -/
end
end L2
namespace L2
open PySem PySem.Spec PyProof.Rows
def MtM (X : Cx) (id : String) (r : V → List V → Hp → VK → Prop) : Prop :=
  ∀ (pins : List (Addr × Obj)) (s : Shared) (σ : St) (H : Hp) (x : V) (xs : List V) (v : Value) (us : List Value) (Q : VK), Inv X pins σ H s → RelV x v → Vals xs us → r x xs H Q →
    wpAny (model X.prog X.w) X.A (call (.builtin id) (v :: us)) (EP X pins σ Q) X.xe s
theorem Vals.one : ∀ {x : V} {us : List Value}, Vals [x] us → ∃ u, us = [u] ∧ RelV x u
  | _, _, .cons r .nil => ⟨_, rfl, r⟩
theorem Vals.eraseIdx : ∀ {xs : List V} {us : List Value} (i : Nat), Vals xs us → Vals (xs.eraseIdx i) (us.eraseIdx i)
  | _, _, _, .nil => .nil
  | _, _, 0, .cons _ t => t
  | _, _, i + 1, .cons r t => .cons r (Vals.eraseIdx i t)
theorem Vals.rep {xs : List V} {us : List Value} (h : Vals xs us) : ∀ k : Nat, Vals (List.replicate k xs).flatten (List.replicate k us).flatten
  | 0 => .nil
  | k + 1 => by
    rw [List.replicate_succ, List.replicate_succ, List.flatten_cons, List.flatten_cons]
    exact Vals.append h (Vals.rep h k)
theorem len_erase {α : Type} : ∀ (l : List α) (i : Nat), (l.eraseIdx i).length ≤ l.length
  | [], _ => Nat.le_refl _
  | _ :: _, 0 => Nat.le_succ _
  | _ :: r, i + 1 => Nat.succ_le_succ (len_erase r i)
theorem foldl_rep (its : List Value) : ∀ (k : Nat) (acc : List Value),
    List.foldl (fun x1 x2 => x1 ++ x2) acc.toArray (List.replicate k its.toArray) = (acc ++ (List.replicate k its).flatten).toArray
  | 0, acc => by simp
  | k + 1, acc => by
    have e : acc.toArray ++ its.toArray = (acc ++ its).toArray := by simp
    have e2 : (acc ++ its) ++ (List.replicate k its).flatten = acc ++ (List.replicate (k + 1) its).flatten := by
      rw [List.replicate_succ, List.flatten_cons, List.append_assoc]
    rw [← e2, ← foldl_rep its k (acc ++ its), ← e, List.replicate_succ, List.foldl_cons]
section
variable {X : Cx} {pins : List (Addr × Obj)} {σ : St} {H : Hp} {s : Shared} {l b : Addr} {xs ys zs : List V}
theorem Inv.lset {its its' : List Value} {n : Nat} {f : Array Value → Array Value} {t' : Nat} (I : Inv X pins σ H s) (hH : H l = some (.lst xs))
    (e : s.heap.get? l = some { cls := .type "list", data := .seq its.toArray n }) (hf : f its.toArray = its'.toArray) (hv : Vals ys its') (hz : ys.length ≤ sizeLine) :
    Inv X pins σ (upd H l (.lst ys)) { s with heap := s.heap.update l (Obj.mapSeq f), toks := t' } := by
  have q := PySem.IsL.update e f
  rw [hf] at q
  refine I.write (x := l) (e := l) (by rw [hH]; exact trivial) (.inl rfl) (fun b' u hb hu => (Heap.get?_update_other s.heap (Obj.mapSeq f) (Ne.symm hb)).trans hu) ⟨_, q⟩ ?_
  exact ⟨hz, its', _, hv, q⟩
theorem Inv.lnew {its : List Value} {t' : Nat} (I : Inv X pins σ H s) (hv : Vals ys its) (hz : ys.length ≤ sizeLine) :
    Inv X pins σ (upd H s.heap.objs.size (.lst ys)) { s with heap := s.heap.push { cls := .type "list", data := .seq its.toArray }, toks := t' } :=
  I.laid (fun _ _ q => Heap.get?_push_of_some _ q) (Nat.le_refl _) ⟨hz, its, 0, hv, Heap.get?_push_size _ rfl⟩
theorem Inv.fresh (I : Inv X pins σ H s) : H s.heap.objs.size = none := I.hok.fresh (Nat.le_refl _)
theorem Inv.lstM (I : Inv X pins σ H s) (hH : H l = some (.lst xs)) : xs.length ≤ sizeLine ∧ ∃ (its : List Value) (n : Nat), Vals xs its ∧ xs.length = its.length ∧ s.heap.get? l = some { cls := .type "list", data := .seq its.toArray n } := by
  obtain ⟨z, its, n, r, e⟩ := I.hok l _ hH
  exact ⟨z, its, n, r, r.length, e⟩
theorem notLongL {n : Nat} (h : n ≤ sizeLine) : Builtin.List.listTooLong n = false := by
  unfold Builtin.List.listTooLong
  exact decide_eq_false (by omega)
end
section
variable {X : Cx}
def rAppend : V → List V → Hp → VK → Prop := fun x vs H Q => ∃ l xs y, x = .ref l ∧ vs = [y] ∧ H l = some (.lst xs) ∧ xs.length < sizeLine ∧ Q .non (upd H l (.lst (xs ++ [y])))
theorem mt_append : MtM X "list.append" rAppend := by
  intro pins s σ H x vs v us Q I rx rv h
  obtain ⟨l, xs, y, rfl, rfl, hH, hz, q⟩ := h
  cases rx
  obtain ⟨u, rfl, ru⟩ := rv.one
  obtain ⟨z, its, n, r, hl, e⟩ := I.lstM hH
  refine call_meets F.slot_list_append ⟨_, e, rfl⟩ F.entry_list_append (F.args_list_append_2 _ _) (PySem.list_append l its.toArray n u (by rw [List.size_toArray]; omega)) ⟨e, ?_⟩
  refine ⟨.non, _, I.lset (its' := its ++ [u]) hH e (by simp) (r.append (.cons ru .nil)) ?_, rfl, q⟩
  rw [List.length_append, List.length_singleton]
  omega
def rPopAt : V → List V → Hp → VK → Prop := fun x vs H Q => ∃ l xs i k y, x = .ref l ∧ vs = [.int i] ∧ H l = some (.lst xs) ∧ -(2 ^ 63) ≤ i ∧ i < 2 ^ 63 ∧ seqIndex? i xs.length = some k ∧ xs[k]? = some y ∧ Q y (upd H l (.lst (xs.eraseIdx k)))
theorem mt_popAt : MtM X "list.pop" rPopAt := by
  intro pins s σ H x vs v us Q I rx rv h
  obtain ⟨l, xs, i, k, y, rfl, rfl, hH, h1, h2, hk, hy, q⟩ := h
  cases rx
  obtain ⟨u, rfl, ru⟩ := rv.one
  obtain ⟨t, rfl⟩ := ru
  obtain ⟨z, its, n, r, hl, e⟩ := I.lstM hH
  obtain ⟨w, hw, rw'⟩ := r.get hy
  refine call_meets F.slot_list_pop ⟨_, e, rfl⟩ F.entry_list_pop (F.args_list_pop_2 _ _)
    (MeetsSeq.list_pop_at l its.toArray n i t k w (fitsIndex_both h1 h2) (by rw [List.size_toArray, ← hl]; exact hk) (by rw [← Array.getElem?_toList]; exact hw) (by rw [List.size_toArray]; omega)) ⟨e, ?_⟩
  refine ⟨y, _, I.lset (its' := its.eraseIdx k) hH e ?_ (r.eraseIdx k) ?_, rw', q⟩
  · show its.toArray.eraseIdxIfInBounds k = (its.eraseIdx k).toArray
    rw [List.eraseIdxIfInBounds_toArray]
  · have := len_erase xs k
    omega
def rCat : R2 := fun x y H Q => ∃ l b xs zs, x = .ref l ∧ y = .ref b ∧ H l = some (.lst xs) ∧ H b = some (.lst zs) ∧ xs.length + zs.length ≤ sizeLine ∧ ∀ p, H p = none → Q (.ref p) (upd H p (.lst (xs ++ zs)))
theorem op_cat : OpR X (binaryOp .Add) rCat := by
  intro pins s σ H x y v u Q I rx ry h
  obtain ⟨l, b, xs, zs, rfl, rfl, hH, hB, hz, q⟩ := h
  cases rx
  cases ry
  obtain ⟨z, its, n, r, hl, e⟩ := I.lstM hH
  obtain ⟨z2, its2, n2, r2, hl2, e2⟩ := I.lstM hB
  refine PySem.P.add_list e e2 ?_ (by rw [List.size_toArray, List.size_toArray]; omega)
  have ea : its.toArray ++ its2.toArray = (its ++ its2).toArray := by simp
  rw [ea]
  exact ⟨.ref _, _, I.lnew (t' := s.toks) (r.append r2) (by rw [List.length_append]; omega), rfl, q _ I.fresh⟩
def rRep : R2 := fun x y H Q => ∃ l k xs, x = .ref l ∧ y = .int k ∧ H l = some (.lst xs) ∧ -(2 ^ 63) ≤ k ∧ k < 2 ^ 63 ∧ xs.length * k.toNat ≤ sizeLine ∧
  ∀ p, H p = none → Q (.ref p) (upd H p (.lst (List.replicate k.toNat xs).flatten))
theorem len_rep {α : Type} (xs : List α) (k : Nat) : (List.replicate k xs).flatten.length = k * xs.length := by
  induction k with
  | zero => simp
  | succ k ih => rw [List.replicate_succ, List.flatten_cons, List.length_append, ih, Nat.succ_mul, Nat.add_comm]
theorem op_rep : OpR X (binaryOp .Mult) rRep := by
  intro pins s σ H x y v u Q I rx ry h
  obtain ⟨l, k, xs, rfl, rfl, hH, h1, h2, hz, q⟩ := h
  cases rx
  obtain ⟨t, rfl⟩ := ry
  obtain ⟨z, its, n, r, hl, e⟩ := I.lstM hH
  have hlen : its.toArray.size * k.toNat ≤ sizeLine := by rw [List.size_toArray, ← hl]; exact hz
  have hcap : ¬ its.toArray.size * k.toNat > (2 ^ 63 - 1) / 8 := by
    have : (sizeLine : Nat) ≤ (2 ^ 63 - 1) / 8 := by decide
    omega
  have hfit : ¬ (!Builtin.List.listFitsIndex k) = true := by
    rw [fitsIndex_both h1 h2]
    exact Bool.false_ne_true
  have hlong : ¬ Builtin.List.listTooLong (its.toArray.size * k.toNat) = true := by
    rw [notLongL hlen]
    exact Bool.false_ne_true
  have hnew : List.foldl (fun x1 x2 => x1 ++ x2) #[] (List.replicate (if its.toArray.isEmpty = true then 0 else k.toNat) its.toArray) = (List.replicate k.toNat its).flatten.toArray := by
    have f0 : ∀ m : Nat, List.foldl (fun x1 x2 => x1 ++ x2) #[] (List.replicate m its.toArray) = (List.replicate m its).flatten.toArray := fun m => by
      have := foldl_rep its m []
      rw [List.nil_append] at this
      exact this
    rw [f0]
    cases its with
    | nil => simp
    | cons a r' => rw [if_neg (by simp)]
  refine wpAny_binaryOp_repeat_ref (T := "list") (U := "int") (by decide) ⟨_, e, rfl⟩ (fun s' => typeIs_int s' k t) noFill_list_mul F.fills_int_mul F.slot_int_rmul repeat_list F.slot_int_index.lookup
    (call_meets F.slot_int_rmul (typeIs_int s k t) F.entry_int_rmul (F.args_int_rmul_2 _ _) (int___rmul___int_list k t l its.toArray n)
      ⟨e, rfl, ⟨_, e, rfl⟩, call_meets F.slot_list_mul ⟨_, e, rfl⟩ F.entry_list_mul (F.args_list_mul_2 _ _) (AutoListH.list___mul___list_int_3 l its.toArray n k t hfit hcap hlong) ⟨e, ?_⟩⟩)
  rw [hnew]
  exact ⟨.ref _, _, I.lnew (t' := s.toks) (r.rep k.toNat) (by rw [len_rep, Nat.mul_comm]; exact hz), rfl, q _ I.fresh⟩
end
section
variable {prog : Program} {w : World} {A : Around} {E : Value → Shared → Prop} {s : Shared}
end
section
variable {X : Cx}
end
end L2
namespace Att
open PySem PySem.W PySem.Calls PyProof.Rows
theorem ints_of_wellAll {P : Params} {h : Heap} : ∀ (ns : List Int) (vs : List Value), WellAll P h vs (ns.map WData.int) → IntsAre vs ns := by
  intro ns
  induction ns with
  | nil =>
    intro vs w
    rw [List.map_nil] at w
    cases w
    exact .nil
  | cons n ns ih =>
    intro vs w
    rw [List.map_cons] at w
    cases w with
    | cons a b =>
      cases a
      exact .cons _ _ (ih _ b)
theorem script_of {l : OpenLaw} {n : Nat} (hn : l.most = some n) {P : Params} {h : Heap} {args : List WData} {vals : List Value}
    (hpre : l.row.toRowW.claim.pre args = true) (hwl : WellAll P h vals args) :
    ∃ a vs ns, vals = [Value.ref a] ∧ args = [WData.list (ns.map WData.int)] ∧ h.get? a = some { cls := .type "list", data := .seq vs.toArray } ∧ IntsAre vs ns ∧ ns.length ≤ n := by
  have hsh : WShape.hasAll [] args [.list .int] = true := (pre_splitW hpre).1
  have hc : l.pre.holds [] { args := args } = true := (pre_splitW hpre).2
  obtain ⟨d, r, rfl, h1, h2⟩ := hasAllW_cons hsh
  obtain rfl := hasAllW_nil h2
  obtain ⟨xs, rfl, h3⟩ := hasW_list h1
  obtain ⟨ns, rfl⟩ := items_int h3
  have hlen : ns.length ≤ n := by
    unfold OpenLaw.pre at hc
    have h4 : (WTm.not (.lt (.lit (.int (n : Int))) (.len (.arg 0)))).holds [] { args := [.list (ns.map .int)] } = true := by
      have h4 := (holds_andW hc).1
      rw [hn] at h4
      exact h4
    have h5 := condW_of h4 (w_not (w_lt w_lit (w_len_list (w_arg rfl))))
    rw [List.length_map] at h5
    refine Nat.le_of_not_lt fun q => ?_
    have q' : (n : Int) < ((ns.length : Nat) : Int) := by omega
    first
      | (rw [decide_eq_true q'] at h5; exact absurd h5 (by decide))
      | (simp at h5; omega)
  cases hwl with
  | cons w1 w2 =>
    cases w2
    cases w1 with
    | list ho hall => exact ⟨_, _, ns, rfl, rfl, ho, ints_of_wellAll ns _ hall, hlen⟩
theorem post_true (l : OpenLaw) (args : List WData) : l.row.toRowW.claim.post args (.bool true) args = true :=
  postW_of (r := l.row.toRowW) (X := (true == true))
    (show WShape.has [] (.bool true) .bool = true by first | rfl | decide | simp [WShape.has, WShape.arms, WShape.armsAll])
    (show (WTm.eq .res (.lit (.bool true))).value [] { args := args, res := some (.bool true), after := args } = some (.bool (true == true)) from w_eq_bool (w_res rfl) w_lit) rfl
theorem attach_call {l : OpenLaw} {n : Nat} {q : Program} {loose : List Str} {XP : (Str → Option Value) → Heap → Prop} {YP : World → Heap → Prop} {d : DefRec}
    (hn : l.most = some n) (hdf : d.params.defaults = [])
    (call : ∀ (w : World) (s₀ s₁ : Shared) (mg mb : Str → Option Value) (fa : Addr) (o : Obj) (pm cd doc : Value) (a : Addr) (vs : List Value) (ns : List Int),
      Ground q loose [] XP w s₀ mg mb s₁.heap → YP w s₁.heap →
      s₁.heap.get? fa = some o → o.data = .func (docDef d.name d.params d.body d.scope pm cd doc) → s₁.heap.CodeRec cd d.name → mg d.name = some (.ref fa) →
      s₁.heap.get? a = some { cls := .type "list", data := .seq vs.toArray } → IntsAre vs ns → ns.length ≤ n → s₁.gens = #[] →
      codeAny (model l.prog w) callerA (.call (.ref fa) ⟨[.ref a], []⟩) (fun r s' => r = .ok (.ret (.bool true)) ∧ OldK s₁.heap s'.heap ∧ s'.os = s₁.os ∧ AllBare s'.gens) s₁) :
    WalkO q loose XP YP l.row.toRowW d [] (fun f vs => PySem.call f vs) := by
  intro w s₀ s₁ mg mb G Y fa o pm cd doc dV kV ho hd hcd hD hmg hg args vals as hpre hlay hrd hwl hlo
  obtain rfl : dV = .none := Dflts.none hD hdf
  obtain rfl : kV = .none := Dflts.noKw hD
  obtain ⟨a, vs, ns, rfl, rfl, hobj, hints, hlen⟩ := script_of hn hpre hwl
  refine enter_call (codeAny_mono (call w s₀ s₁ mg mb fa o pm cd doc a vs ns G Y ho (fd_plain hd) hcd hmg hobj hints hlen hg) fun r s' hq => ?_)
  obtain ⟨rfl, h2, h3, h4⟩ := hq
  exact ⟨.inl ⟨.bool true, .bool true, [], rfl, fun _ => rfl, .bool true, post_true l _, fun _ => ⟨List.Pairwise.nil, fun _ hm => (nomatch hm)⟩⟩, h2, h3, h4⟩
section
variable {prog : Program} {w : World} {A : Around} {E : Value → Shared → Prop} {s : Shared} {K : Frag}
end
end Att
namespace L2
open PySem PySem.Spec PyProof.Rows
theorem vals_ints : ∀ {vs : List Value} {ns : List Int}, IntsAre vs ns → Vals (ns.map V.int) vs
  | _, _, .nil => .nil
  | _, _, .cons n t h => .cons ⟨t, rfl⟩ (vals_ints h)
end L2
namespace L2
open PySem PySem.Spec PyProof.Rows
end L2
/- THE LAST THEOREM (shape; LID, My.* are yours):
   My.Adr: a structure of the addresses that your layer names (classes, functions); My.Txt K t: a structure (Prop) of the equations over K;
   My.txt_mk : {K} {implicit addresses ..} (e1 : nsIn K mainGlobals "law" = some (some (.ref f))) (e2 : K.lookup f = some ⟨oc, od, .func (fnOf "law" "law" params body scope dV kV doc pm an cdv ct), sl⟩) (e3 : codeIn K cdv "law" = true) .. : ∃ t, My.Txt K t
(the tactic k_is has no namespace: write k_is) -/
namespace L2
open PySem PySem.Spec PyProof.Rows
def defArgs (s : Stmt) : Arguments := match s with
  | .FunctionDef _ a _ _ _ _ _ _ _ _ => a
  | _ => { posonlyargs := [], args := [], vararg := none, kwonlyargs := [], kw_defaults := [], kwarg := none, defaults := [] }
def defBody (s : Stmt) : List Stmt := match s with
  | .FunctionDef _ _ b _ _ _ _ _ _ _ => b
  | _ => []
def defScope (s : Stmt) : Scope := match s with
  | .FunctionDef _ _ _ _ _ _ sc _ _ _ => sc
  | _ => { kind := .function, names := [], isGenerator := false, isCoroutine := false }
abbrev CX0 : CXT := fun _ _ _ _ _ _ => False
abbrev E0 : XK := fun _ _ _ => False
theorem pass0 {X : Cx} : Passes CX0 X E0 := fun _ _ _ _ _ _ _ h => h.elim
structure Fun (K : PySem.W.Frag) (x qual : Str) (st : Stmt) (f : Addr) (fd : FuncData) : Prop where
  ex : ∃ (oc : Value) (od : Option Addr) (kV doc pm : Value) (an : Option Addr) (cdv ct : Value) (osl : Array (Option Value)),
    fd = PySem.W.fnOf x qual (defArgs st) (defBody st) (defScope st) .none kV doc pm an cdv ct ∧ K.lookup f = some ⟨oc, od, .func fd, osl⟩ ∧ PySem.W.codeIn K cdv qual = true
  kp : PySem.W.keepIn K (.ref f) = true
section
variable {P : Program} {w : World} {K : PySem.W.Frag} {mg : Str → Option Value} {base : Heap}
theorem Fun.ok {x qual : Str} {st : Stmt} {f : Addr} {fd : FuncData} {N ps : List Str} {k : Nat} {sp : Sp} (F : Fun K x qual st f fd) (S : FnScope N ps (defScope st)) (len : ∀ vs H Q E, sp vs H Q E → vs.length = ps.length)
    (hbody : ∀ (cdv : Value) (A : Around) (outer : List Env) (s : Shared) (H : Hp) (vs : List V) (Q : VK) (E : XK), Room k (A.deeper (envOfC qual (defScope st) s.heap.objs.size f cdv)) → sp vs H Q E →
      ∃ t, PSs (cxOf CX0 P w K mg base N qual (defScope st) f cdv A outer s H E).nox (defBody st) t ∧ t { nx := fun _ H' => Q .non H', rt := Q } (start N vs) H) : FnOk P w K mg base CX0 (k + 1) f fd ps sp := by
  obtain ⟨oc, od, kV, doc, pm, an, cdv, ct, osl, rfl, lk, hcd⟩ := F.ex
  refine fn_of lk hcd S len fun A outer s H vs Q E hr hsp => ?_
  obtain ⟨t, h, q⟩ := hbody cdv A outer s H vs Q E hr hsp
  exact ⟨t, h.nox, q⟩
theorem Fun.binds {x qual : Str} {st : Stmt} {f : Addr} {fd : FuncData} {ps : List Str} (F : Fun K x qual st f fd)
    (h : ∀ (kV doc pm : Value) (an : Option Addr) (cdv ct : Value) (us : List Value), us.length = ps.length → bindArgs (PySem.W.fnOf x qual (defArgs st) (defBody st) (defScope st) .none kV doc pm an cdv ct) ⟨us, []⟩ = pure (ps.zip us)) : Binds K fd ps [] := by
  obtain ⟨oc, od, kV, doc, pm, an, cdv, ct, osl, rfl, lk, hcd⟩ := F.ex
  exact .all (h kV doc pm an cdv ct)
theorem fun_mk {x qual : Str} {st : Stmt} {f : Addr} {oc : Value} {od an : Option Addr} {osl : Array (Option Value)} {kV doc pm cdv ct : Value} (l : K.lookup f = some ⟨oc, od, .func (PySem.W.fnOf x qual (defArgs st) (defBody st) (defScope st) .none kV doc pm an cdv ct), osl⟩)
    (c : PySem.W.codeIn K cdv qual = true) (k : PySem.W.keepIn K (.ref f) = true) : Fun K x qual st f (PySem.W.fnOf x qual (defArgs st) (defBody st) (defScope st) .none kV doc pm an cdv ct) := ⟨⟨oc, od, kV, doc, pm, an, cdv, ct, osl, rfl, l, c⟩, k⟩
end
section
variable {X : Cx}
theorem pv (i : Nat) {x : Str} {pos : Pos} (hN : X.N[i]? = some x := by rfl) (hv : Vis X.env.scope x := by first | exact Or.inl rfl | exact Or.inr (Or.inl rfl) | exact Or.inr (Or.inr rfl)) (hd : (x == ("__debug__" : Str)) = false := by decide)
    (hcd : (x == ("__classdict__" : Str)) = false := by decide) : PE X (.Name x pos) (tVar i) := pe_var hN hv hd hcd
end
theorem ite2 {c A B : Prop} [Decidable c] (h1 : c → A) (h2 : ¬ c → B) : if c then A else B := by
  by_cases h : c
  · rw [if_pos h]
    exact h1 h
  · rw [if_neg h]
    exact h2 h
end L2
namespace L2
open PySem PySem.Spec PyProof.Rows
section
variable {κ : Type} [DecidableEq κ]
def valV (kvs : List (κ × V)) (k : κ) : Option V := (kvs.find? fun kv => decide (kv.1 = k)).map (·.2)
theorem valV_pos {p : κ × V} {r : List (κ × V)} {k : κ} (e : p.1 = k) : valV (p :: r) k = some p.2 := by simp [valV, List.find?_cons, e]
theorem valV_neg {p : κ × V} {r : List (κ × V)} {k : κ} (e : ¬ p.1 = k) : valV (p :: r) k = valV r k := by simp [valV, List.find?_cons, e]
theorem RelO.isSome_eq {o : Option V} {u : Option Value} (r : RelO o u) : o.isSome = u.isSome := by
  cases o with
  | none => cases u with
    | none => rfl
    | some _ => exact (show False from r).elim
  | some _ => cases u with
    | none => exact (show False from r).elim
    | some _ => rfl
theorem KV.val {kvs : List (κ × V)} {vs : List (κ × Value)} (r : KV kvs vs) (k : κ) : RelO (valV kvs k) (valueAt vs k) := by
  unfold KV at r
  induction r with
  | nil => exact True.intro
  | @cons p q ps qs h t ih =>
    obtain ⟨h1, h2⟩ := h
    by_cases e : p.1 = k
    · have e' : q.1 = k := h1.symm.trans e
      have b : valueAt (q :: qs) k = some q.2 := by simp [valueAt, List.find?_cons, e']
      rw [valV_pos e, b]; exact h2
    · have e' : ¬ q.1 = k := fun z => e (h1.trans z)
      have b : valueAt (q :: qs) k = valueAt qs k := by simp [valueAt, List.find?_cons, e']
      rw [valV_neg e, b]; exact ih
end
theorem kV_is {P : Program} {w : World} {k : Key} {u : Value} (r : RelV (kV k) u) : (mixKind P w).is k u = true := by
  cases k with
  | inl i => obtain ⟨t, e⟩ := (show ∃ t, u = Value.int i t from r); subst e; exact mixKind_int P w i t
  | inr x => obtain ⟨t, e⟩ := (show ∃ t, u = Value.str x t from r); subst e; exact mixKind_str P w x t
section
variable {P : Program} {w : World} {H : Hp} {h : Heap} {a : Addr}
end
section
variable {X : Cx} {pins : List (Addr × Obj)} {σ : St} {H : Hp} {s : Shared} {a : Addr} {y v : V} {u r : Value} {o : Option V} {A : Around} {E : Value → Shared → Prop}
end
section
variable {X : Cx} {pins : List (Addr × Obj)} {σ : St} {H : Hp} {s : Shared} {a : Addr} {kvs : List (Key × V)} {k : Key} {u : Value} {A : Around} {E : Value → Shared → Prop}
end
def NoSl (i : Expr) : Prop := ∀ ov iv, subscripted i false ov iv = operate [ov, iv] (getItem ov iv)
theorem subD_of {prog : Program} {w : World} {A : Around} {E : Value → Shared → Prop} {s : Shared} {env : Env} {value slice : Expr} {pos : Pos} {T id : String} {Q : Value → Shared → Prop}
    (hl : typeLookup (.type T) "__getitem__" = pure (some (.builtin id))) (hs : NoSl slice)
    (h : wpAny (model prog w) A (eval value env) (fun o s₁ => wpAny (model prog w) A (eval slice env) (fun i s₂ => s₂.TypeIs o T ∧ wpAny (model prog w) A (getItem o i) Q E s₂) E s₁) E s) :
    wpAny (model prog w) A (eval (.Subscript value slice pos) env) Q E s := by
  refine Subscript_ (wpAny_mono h (fun o s₁ h₁ => wpAny_mono h₁ (fun i s₂ h₂ => ?_) fun _ _ x => x) fun _ _ x => x)
  obtain ⟨hT, h₂⟩ := h₂
  unfold subscriptTail
  refine wpAny_bind ?_
  rw [getitemInPython_of_ne hT.not_modules]
  refine wpAny_bind (wpAny_specialOf hT hl ?_)
  have fin : wpAny (model prog w) A (subscripted slice false o i) (fun r s₃ => wpAny (model prog w) A (letTemporaryGo value o r >>= fun _ => pure r) Q E s₃) E s₂ := by
    rw [hs o i]
    exact wpAny_operating (wpAny_mono h₂ (fun r s₃ h₃ => wpAny_bind (wpAny_letTemporaryGo (wpAny_pure h₃))) fun _ _ x => x)
  first
    | exact wpAny_pure (wpAny_bind fin)
    | exact wpAny_bind (wpAny_pure (wpAny_bind fin))
    | exact wpAny_bind fin
section
variable {X : Cx} {o i e value : Expr} {pos pos' tpos : Pos} {td ty tv : TE}
end
section
variable {X : Cx} {pos : Pos}
end
section
variable {X : Cx} {pins : List (Addr × Obj)} {σ : St} {H : Hp} {s : Shared} {a : Addr} {y d : V} {u r : Value} {o : Option V} {A : Around} {E : Value → Shared → Prop}
end
section
variable {X : Cx} {o e f : Expr} {apos cpos : Pos} {td ty tx : TE}
end
section
variable {X : Cx} {pins : List (Addr × Obj)} {σ : St} {H : Hp} {s : Shared} {a : Addr} {kvs : List (Key × V)} {A : Around} {E : Value → Shared → Prop}
end
section
variable {X : Cx} {pins : List (Addr × Obj)} {σ : St} {H : Hp} {s : Shared} {a : Addr} {y : V} {u : Value} {A : Around} {E : Value → Shared → Prop}
end
end L2
namespace L2
open PySem PySem.Spec PyProof.Rows
section
variable {κ : Type} [DecidableEq κ]
end
end L2
set_option Elab.async false
set_option linter.all false
set_option maxRecDepth 100000
set_option maxHeartbeats 4000000
namespace L2
open PySem PySem.Spec PyProof.Rows
structure Kp (S : List Addr) (H H' : Hp) : Prop where
  old : ∀ a o, H a = some o → a ∉ S → H' a = some o
  tup : ∀ a xs, H a = some (.tup xs) → H' a = some (.tup xs)
  dom : ∀ a o, H a = some o → ∃ o', H' a = some o'
theorem Kp.refl (S : List Addr) (H : Hp) : Kp S H H := ⟨fun _ _ e _ => e, fun _ _ e => e, fun _ o e => ⟨o, e⟩⟩
theorem Kp.trans {S : List Addr} {H H1 H2 : Hp} (a : Kp S H H1) (b : Kp S H1 H2) : Kp S H H2 :=
  ⟨fun c o e n => b.old c o (a.old c o e n) n, fun c xs e => b.tup c xs (a.tup c xs e), fun c o e => let ⟨o', e'⟩ := a.dom c o e; b.dom c o' e'⟩
theorem Kp.mono {S S' : List Addr} {H H1 : Hp} (a : Kp S H H1) (h : ∀ x ∈ S, x ∈ S') : Kp S' H H1 := ⟨fun c o e n => a.old c o e fun z => n (h c z), a.tup, a.dom⟩
theorem Kp.free {S : List Addr} {H H1 : Hp} (k : Kp S H H1) {p : Addr} (h : H1 p = none) : H p = none := by
  cases e : H p with
  | none => rfl
  | some o => obtain ⟨o', e'⟩ := k.dom p o e; rw [h] at e'; cases e'
theorem Kp.trans' {S S' : List Addr} {H H1 H2 : Hp} (a : Kp S H H1) (b : Kp S' H1 H2) (h : ∀ x ∈ S', x ∈ S ∨ H x = none) : Kp S H H2 :=
  ⟨fun c o e n => b.old c o (a.old c o e n) fun z => by
    rcases h c z with q | q
    · exact n q
    · (rw [q] at e; exact nomatch e), fun c xs e => b.tup c xs (a.tup c xs e), fun c o e => let ⟨o', e'⟩ := a.dom c o e; b.dom c o' e'⟩
theorem Kp.new {S : List Addr} {H H1 : Hp} (k : Kp S H H1) {p : Addr} {o : HO} (h : H1 p = none) : Kp S H (upd H1 p o) :=
  ⟨fun c u e n => by rw [upd_ne (ne_of_none (k.old c u e n) h)]; exact k.old c u e n, fun c xs e => by rw [upd_ne (ne_of_none (k.tup c xs e) h)]; exact k.tup c xs e,
    fun c u e => by
      obtain ⟨o', e'⟩ := k.dom c u e
      exact ⟨o', by rw [upd_ne (ne_of_none e' h)]; exact e'⟩⟩
theorem Kp.set {S : List Addr} {H H1 : Hp} (k : Kp S H H1) {b : Addr} {xs : List V} {o : HO} (hb : H1 b = some (.lst xs)) (h : b ∈ S ∨ H b = none) : Kp S H (upd H1 b o) :=
  ⟨fun c u e n => by
    have : c ≠ b := by
      rintro rfl
      rcases h with h | h
      · exact n h
      · rw [h] at e; cases e
    rw [upd_ne this]; exact k.old c u e n,
   fun c ys e => by
    have e1 := k.tup c ys e
    rw [upd_ne (ne_of e1 hb (by intro z; cases z))]; exact e1,
   fun c u e => by
    obtain ⟨o', e'⟩ := k.dom c u e
    by_cases q : c = b
    · subst q; exact ⟨o, upd_same⟩
    · exact ⟨o', by rw [upd_ne q]; exact e'⟩⟩
def lstOf : Option HO → Option (List V)
  | some (.lst xs) => some xs
  | _ => none
def tupOf : Option HO → Option (List V)
  | some (.tup xs) => some xs
  | _ => none
def seqOf : Option HO → Option (List V)
  | some (.lst xs) => some xs
  | some (.tup xs) => some xs
  | _ => none
theorem lstOf_lst (xs : List V) : lstOf (some (.lst xs)) = some xs := rfl
theorem tupOf_tup (xs : List V) : tupOf (some (.tup xs)) = some xs := rfl
theorem seqOf_lst (xs : List V) : seqOf (some (.lst xs)) = some xs := rfl
theorem seqOf_tup (xs : List V) : seqOf (some (.tup xs)) = some xs := rfl
theorem of_lstOf {o : Option HO} {xs : List V} (h : lstOf o = some xs) : o = some (.lst xs) := by
  unfold lstOf at h
  split at h
  · cases h; rfl
  · cases h
theorem of_tupOf {o : Option HO} {xs : List V} (h : tupOf o = some xs) : o = some (.tup xs) := by
  unfold tupOf at h
  split at h
  · cases h; rfl
  · cases h
theorem of_seqOf {o : Option HO} {xs : List V} (h : seqOf o = some xs) : o = some (.lst xs) ∨ o = some (.tup xs) := by
  unfold seqOf at h
  split at h
  · cases h; exact .inl rfl
  · cases h; exact .inr rfl
  · cases h
section
variable {X : Cx}
def rLtU : R2 := fun x y H Q => match x, y with
  | .int i, .int j => Q (.bl (decide (i < j))) H
  | .str i, .str j => Q (.bl (decide (i.cps.toList < j.cps.toList))) H
  | _, _ => False
theorem op_ltU : OpR X (compareOp .Lt) rLtU := by
  intro pins s σ H x y v u Q I rx ry h
  cases x with
  | int i => cases y with
    | int j => exact op_lt pins s σ H _ _ v u Q I rx ry ⟨i, j, rfl, rfl, h⟩
    | _ => exact False.elim h
  | str i => cases y with
    | str j => exact op_lt_str pins s σ H _ _ v u Q I rx ry ⟨i, j, rfl, rfl, h⟩
    | _ => exact False.elim h
  | _ => exact False.elim h
def rLeU : R2 := fun x y H Q => match x, y with
  | .int i, .int j => Q (.bl (decide (i ≤ j))) H
  | .str i, .str j => Q (.bl (!decide (j.cps.toList < i.cps.toList))) H
  | _, _ => False
theorem op_leU : OpR X (compareOp .LtE) rLeU := by
  intro pins s σ H x y v u Q I rx ry h
  cases x with
  | int i => cases y with
    | int j => exact op_le pins s σ H _ _ v u Q I rx ry ⟨i, j, rfl, rfl, h⟩
    | _ => exact False.elim h
  | str i => cases y with
    | str j =>
      obtain ⟨t, rfl⟩ := rx
      obtain ⟨t', rfl⟩ := ry
      exact PySem.P.le_str (fin_bl I h (by rfl))
    | _ => exact False.elim h
  | _ => exact False.elim h
def rIxU : R2 := fun x y H Q => match x, y with
  | .str z, .int i => z.length ≤ sizeLine ∧ ∃ c, atI z.cps.toList i = some c ∧ Q (.str ⟨#[c]⟩) H
  | .ref p, .int i => ∃ xs, seqOf (H p) = some xs ∧ ∃ v, atI xs i = some v ∧ Q v H
  | _, _ => False
theorem ix_U : IxR X rIxU := by
  intro value slice pins s σ H x y v u Q I rx ry h hs
  cases x with
  | str z => cases y with
    | int i => obtain ⟨h1, c, h2, h3⟩ := h; exact ix_str value slice pins s σ H _ _ v u Q I rx ry ⟨z, i, c, rfl, rfl, h1, h2, h3⟩ hs
    | _ => exact False.elim h
  | ref p => cases y with
    | int i =>
      obtain ⟨xs, e, w, h2, h3⟩ := h
      rcases of_seqOf e with e | e
      · exact ix_list value slice pins s σ H _ _ v u Q I rx ry ⟨p, xs, i, w, rfl, rfl, SqL.of e, h2, h3⟩ hs
      · exact ix_tup value slice pins s σ H _ _ v u Q I rx ry ⟨p, xs, i, w, rfl, rfl, SqT.of e, h2, h3⟩ hs
    | _ => exact False.elim h
  | _ => exact False.elim h
theorem atI_0 {α : Type} (x : α) (r : List α) : atI (x :: r) 0 = some x := atI_nat (j := 0) rfl
theorem atI_1 {α : Type} (x y : α) (r : List α) : atI (x :: y :: r) 1 = some y := atI_nat (j := 1) rfl
theorem atI_2 {α : Type} (x y z : α) (r : List α) : atI (x :: y :: z :: r) 2 = some z := atI_nat (j := 2) rfl
theorem atI_of {α : Type} {xs : List α} {i : Int} {v : α} (h0 : 0 ≤ i) (h : xs[i.toNat]? = some v) : atI xs i = some v := by
  have := atI_nat (xs := xs) (j := i.toNat) h
  rwa [Int.toNat_of_nonneg h0] at this
def rSetU : V → V → V → Hp → (Hp → Prop) → Prop := fun o i v H Q => match o, i with
  | .ref p, .int k => ∃ xs, lstOf (H p) = some xs ∧ ∃ j, ixN xs.length k = some j ∧ Q (upd H p (.lst (xs.set j v)))
  | _, _ => False
theorem set_U : PSet X rSetU := by
  intro pins s σ H o i v ov iv u Q I ro ri rv h
  cases o with
  | ref p => cases i with
    | int k =>
      obtain ⟨xs, e, j, h1, h2⟩ := h
      exact set_list pins s σ H _ _ v ov iv u Q I ro ri rv ⟨p, xs, k, j, rfl, rfl, of_lstOf e, h1, h2⟩
    | _ => exact False.elim h
  | _ => exact False.elim h
def rLenU : List V → Hp → VK → Prop := fun xs H Q => match xs with
  | [.str z] => z.length ≤ sizeLine ∧ Q (.int z.length) H
  | [.ref p] => ∃ ys, seqOf (H p) = some ys ∧ Q (.int ys.length) H
  | _ => False
theorem call_lenU : CallR X (.builtin "len") rLenU := by
  intro pins s σ H xs us Q I r h
  unfold rLenU at h
  split at h
  · rename_i z; exact call_len_str pins s σ H _ us Q I r ⟨z, rfl, h⟩
  · rename_i p
    obtain ⟨ys, e, h⟩ := h
    rcases of_seqOf e with e | e
    · exact call_len_seq pins s σ H _ us Q I r ⟨p, ys, rfl, .inl (SqL.of e), h⟩
    · exact call_len_seq pins s σ H _ us Q I r ⟨p, ys, rfl, .inr (SqT.of e), h⟩
  · exact h.elim
def rMaxU : List V → Hp → VK → Prop := fun xs H Q => match xs with
  | [.int i, .int j] => Q (.int (if j > i then j else i)) H
  | _ => False
theorem call_maxU (hc : X.calm = true) : CallR X (.builtin "max") rMaxU := by
  intro pins s σ H xs us Q I r h
  unfold rMaxU at h
  split at h
  · rename_i i j; exact call_max2 hc pins s σ H _ us Q I r ⟨i, j, rfl, h⟩
  · exact h.elim
def rIntU : List V → Hp → VK → Prop := fun xs H Q => match xs with
  | [.int i] => Q (.int i) H
  | [.bl k] => Q (.int (if k then 1 else 0)) H
  | _ => False
theorem call_intU : CallR X (.type "int") rIntU := by
  intro pins s σ H xs us Q I r h
  unfold rIntU at h
  split at h
  · rename_i i; exact call_int1 pins s σ H _ us Q I r (.inl ⟨i, rfl, h⟩)
  · rename_i k; exact call_int1 pins s σ H _ us Q I r (.inr ⟨k, rfl, h⟩)
  · exact h.elim
def sgn (z : Str) : List V := z.cps.toList.map fun c => V.str ⟨#[c]⟩
theorem sgn_len (z : Str) : (sgn z).length = z.length := by simp [sgn, Str.length]
theorem vals_sgn {z : Str} {acc : Array Value} (h : ItemsOf (SignAt z) acc z.cps.size) : Vals (sgn z) acc.toList := by
  obtain ⟨h1, h2⟩ := h
  have hl : (sgn z).length = acc.toList.length := by simp [sgn, h1]
  have gen : ∀ (xs : List V) (us : List Value), xs.length = us.length → (∀ (i : Nat) (x : V) (u : Value), xs[i]? = some x → us[i]? = some u → RelV x u) → Vals xs us := by
    intro xs
    induction xs with
    | nil => intro us hl _; cases us with
      | nil => exact .nil
      | cons _ _ => simp at hl
    | cons x xs ih => intro us hl h; cases us with
      | nil => simp at hl
      | cons u us => exact .cons (h 0 x u rfl rfl) (ih us (by simpa using hl) fun i a b e1 e2 => h (i + 1) a b (by simpa using e1) (by simpa using e2))
  refine gen _ _ hl fun i x u e1 e2 => ?_
  obtain ⟨c, t, hc, hu⟩ := h2 i u (by simpa using e2)
  subst hu
  simp only [sgn, List.getElem?_map] at e1
  have : z.cps.toList[i]? = some c := by simpa using hc
  rw [this] at e1
  have e1' : V.str ⟨#[c]⟩ = x := Option.some.inj e1
  subst e1'
  exact ⟨t, rfl⟩
def rListU : List V → Hp → VK → Prop := fun xs H Q => match xs with
  | [.str z] => z.length ≤ sizeLine ∧ ∀ l, H l = none → Q (.ref l) (upd H l (.lst (sgn z)))
  | [.ref p] => ∃ ys, seqOf (H p) = some ys ∧ ∀ l, H l = none → Q (.ref l) (upd H l (.lst ys))
  | _ => False
theorem call_listU (hc : X.calm = true) : CallR X (.type "list") rListU := by
  intro pins s σ H xs us Q I r h
  unfold rListU at h
  split at h
  · rename_i z
    obtain ⟨u, rfl, t, rfl⟩ := vals1 r
    obtain ⟨hz, q⟩ := h
    refine call_list_str (I.ok.hd hc) z t (fun h' tk acc c hk hn hi => ?_) hz
    have hf := I.hok.fresh (Nat.le_refl s.heap.objs.size)
    refine ⟨.ref s.heap.objs.size, upd H s.heap.objs.size (.lst (sgn z)), I.laid hk (Nat.le_refl _) ⟨by rw [sgn_len]; exact hz, acc.toList, c, vals_sgn hi, by simpa using hn⟩, rfl, q _ hf⟩
  · rename_i p
    obtain ⟨ys, e, h⟩ := h
    rcases of_seqOf e with e | e
    · exact call_list_of pins s σ H _ us Q I r ⟨p, ys, rfl, .inl (SqL.of e), h⟩
    · exact call_list_of pins s σ H _ us Q I r ⟨p, ys, rfl, .inr (SqT.of e), h⟩
  · exact h.elim
def rPopU : V → List V → Hp → VK → Prop := fun x vs H Q => match x, vs with
  | .ref l, [.int i] => ∃ xs, lstOf (H l) = some xs ∧ 0 ≤ i ∧ ∃ y, xs[i.toNat]? = some y ∧ Q y (upd H l (.lst (xs.eraseIdx i.toNat)))
  | _, _ => False
theorem mt_popU : MtM X "list.pop" rPopU := by
  intro pins s σ H x vs v us Q I rx rv h
  unfold rPopU at h
  split at h
  · rename_i l i
    obtain ⟨xs, e, h0, y, hy, q⟩ := h
    have e := of_lstOf e
    have hz := (I.lstM e).1
    have hlt : i.toNat < xs.length := (List.getElem?_eq_some_iff.mp hy).1
    have hs : sizeLine = 16777216 := sizeLine_eq
    refine mt_popAt pins s σ H _ _ v us Q I rx rv ⟨l, xs, i, i.toNat, y, rfl, rfl, e, by omega, by omega, ?_, hy, q⟩
    exact seqIndex_of h0 (by omega)
  · exact h.elim
def rIsU (K : PySem.W.Frag) : List V → Hp → VK → Prop := fun xs H Q => match xs with
  | [x, .ty c] => ∃ t b, TyOf K H x t ∧ PySem.W.kitOne K t (.type c) = some b ∧ Q (.bl b) H
  | _ => False
theorem call_isinstanceU : CallR X (.builtin "isinstance") (rIsU X.K) := by
  intro pins s σ H xs us Q I r h
  unfold rIsU at h
  split at h
  · rename_i x c
    obtain ⟨t, b, ty, e, q⟩ := h
    obtain ⟨u, w', rfl, rx, rc⟩ := vals2 r
    cases rc
    exact isinst_ok I rx ty e fun tk => ⟨.bl b, H, I.tok tk, rfl, q⟩
  · exact h.elim
def ItS (z : Str) : It := ⟨fun i _ => i < z.length, fun i H x H' => H' = H ∧ ∃ c, z.cps.toList[i]? = some c ∧ x = .str ⟨#[c]⟩, fun i _ => z.length ≤ i⟩
theorem turn_strA {P : Program} {w : World} {K : PySem.W.Frag} {tg : Expr} (z : Str) (t : Tok) (it : Addr) : Turn P w K tg (ItS z) [it] it (fun i h => h.IsStrIter it "str_ascii_iterator" z t i) where
  mem := by simp
  obj := fun i h st b hb => by
    have e : b = it := by simpa using hb
    subst e
    obtain ⟨o, e, c, d⟩ := st
    exact ⟨o, e, fun v z => by rw [d] at z; cases z⟩
  keep := fun i h h' st k => let ⟨o, ho, r⟩ := st; ⟨o, k it (by simp) o ho, r⟩
  item := by
    intro X hP hw hK hc i pins s σ H E I hf st hg
    subst hP hw hK
    obtain ⟨f0, f1, f2, f3, f4, f5⟩ := hf it (by simp)
    have hi : i < z.cps.size := hg
    refine wpAny_pyNext_ascii_item st (c := z.cps[i]) (by simp [hi]) fun h' st' sb => ?_
    have I1 : Inv X pins σ H { s with heap := h', toks := s.toks + 1 } := I.turned (t' := s.toks + 1) (fun b o hb e => (sb.2 b hb).trans e) f0 f1 f3 f4 f5
    obtain ⟨o, e, c, d⟩ := id st'
    exact ⟨_, rfl, go_of (s := { s with heap := h', toks := s.toks + 1 }) e c d (by decide) ⟨.str ⟨#[z.cps[i]]⟩, H, I1, ⟨_, rfl⟩, ⟨rfl, _, by simp [hi], rfl⟩, st', fun b hb => (hf b hb).1⟩⟩
  done := by
    intro X hP hw hK hc i pins s σ H E I hf st hg
    subst hP hw hK
    obtain ⟨f0, f1, f2, f3, f4, f5⟩ := hf it (by simp)
    have hi : z.cps.size ≤ i := hg
    exact wpAny_pyNext_ascii_end (I.ok.hd hc) st (by simp [hi]) fun h' eb => ⟨rfl, I.turned (t' := s.toks) (fun b o hb e => eb b o hb e) f0 f1 f3 f4 f5⟩
  self := fun _ _ _ _ _ st h => wpAny_pyIter_striter_ascii st h
theorem turn_strW {P : Program} {w : World} {K : PySem.W.Frag} {tg : Expr} (z : Str) (t : Tok) (it : Addr) : Turn P w K tg (ItS z) [it] it (fun i h => h.IsStrIter it "str_iterator" z t i) where
  mem := by simp
  obj := fun i h st b hb => by
    have e : b = it := by simpa using hb
    subst e
    obtain ⟨o, e, c, d⟩ := st
    exact ⟨o, e, fun v z => by rw [d] at z; cases z⟩
  keep := fun i h h' st k => let ⟨o, ho, r⟩ := st; ⟨o, k it (by simp) o ho, r⟩
  item := by
    intro X hP hw hK hc i pins s σ H E I hf st hg
    subst hP hw hK
    obtain ⟨f0, f1, f2, f3, f4, f5⟩ := hf it (by simp)
    have hi : i < z.cps.size := hg
    refine wpAny_pyNext_wide_item st (c := z.cps[i]) (by simp [hi]) fun h' st' sb => ?_
    have I1 : Inv X pins σ H { s with heap := h', toks := s.toks + 1 } := I.turned (t' := s.toks + 1) (fun b o hb e => (sb.2 b hb).trans e) f0 f1 f3 f4 f5
    obtain ⟨o, e, c, d⟩ := id st'
    exact ⟨_, rfl, go_of (s := { s with heap := h', toks := s.toks + 1 }) e c d (by decide) ⟨.str ⟨#[z.cps[i]]⟩, H, I1, ⟨_, rfl⟩, ⟨rfl, _, by simp [hi], rfl⟩, st', fun b hb => (hf b hb).1⟩⟩
  done := by
    intro X hP hw hK hc i pins s σ H E I hf st hg
    subst hP hw hK
    obtain ⟨f0, f1, f2, f3, f4, f5⟩ := hf it (by simp)
    have hi : z.cps.size ≤ i := hg
    exact wpAny_pyNext_wide_end (I.ok.hd hc) st (by simp [hi]) fun h' eb => ⟨rfl, I.turned (t' := s.toks) (fun b o hb e => eb b o hb e) f0 f1 f3 f4 f5⟩
  self := fun _ _ _ _ _ st h => wpAny_pyIter_striter_wide st h
def iAny (K : PySem.W.Frag) (t : TE) : TI := fun σ H R => t σ H fun x H1 => match x with
  | .str z => R (ItS z) H1
  | .ref a => match H1 a with
    | some (.lst _) => R (Itl K a) H1
    | some (.tup _) => R (Itt K a) H1
    | _ => False
  | _ => False
theorem pi_any {tg l : Expr} {tl : TE} (hl : PE X l tl) : PI X tg l (iAny X.K tl) := by
  intro pins s σ H R I h
  refine thn (hl pins s σ H _ I h) fun v s1 ⟨x, H1, I1, r1, q1⟩ => ?_
  cases x with
  | str z =>
    obtain ⟨t, rfl⟩ := r1
    have fr : ∀ b ∈ [s1.heap.objs.size], FpOk X pins H1 b := fun b hb => by
      have e : b = s1.heap.objs.size := by simpa using hb
      subst e
      exact I1.fpOk (Nat.le_refl _) (I1.hok.fresh (Nat.le_refl _))
    cases ha : z.cps.all (· < 128)
    · exact wpAny_pyIter_wide ha ⟨s1.heap.objs.size, [s1.heap.objs.size], _, _, H1, rfl, I1.kept (t' := s1.toks) fun b o e => Heap.get?_push_of_some _ e, turn_strW z t _, ⟨_, Heap.get?_push_size _ rfl, rfl, rfl⟩, fr, q1⟩
    · exact wpAny_pyIter_ascii ha ⟨s1.heap.objs.size, [s1.heap.objs.size], _, _, H1, rfl, I1.kept (t' := s1.toks) fun b o e => Heap.get?_push_of_some _ e, turn_strA z t _, ⟨_, Heap.get?_push_size _ rfl, rfl, rfl⟩, fr, q1⟩
  | ref a =>
    cases r1
    have fr : ∀ b ∈ [s1.heap.objs.size], FpOk X pins H1 b := fun b hb => by
      have e : b = s1.heap.objs.size := by simpa using hb
      subst e
      exact I1.fpOk (Nat.le_refl _) (I1.hok.fresh (Nat.le_refl _))
    simp only at q1
    split at q1
    · rename_i xs e
      obtain ⟨its, rv, p, hz⟩ := I1.list (SqL.of e)
      exact wpAny_pyIter_list p.isList ⟨s1.heap.objs.size, [s1.heap.objs.size], _, _, H1, rfl, I1.kept (t' := s1.toks) fun b o e => Heap.get?_push_of_some _ e, turn_list a _, ⟨_, Heap.get?_push_size _ rfl, rfl, rfl⟩, fr, q1⟩
    · rename_i xs e
      obtain ⟨its, rv, p, hz⟩ := I1.tuple (SqT.of e)
      exact wpAny_pyIter_tuple (show s1.heap.IsTuple a its.toArray from p) ⟨s1.heap.objs.size, [s1.heap.objs.size], _, _, H1, rfl, I1.kept (t' := s1.toks) fun b o e => Heap.get?_push_of_some _ e, turn_tuple a _, ⟨_, Heap.get?_push_size _ rfl, rfl, rfl⟩, fr, q1⟩
    · exact q1.elim
  | _ => exact False.elim q1
mutual
def Rep (H : Hp) : V → PyData → Prop
  | v, .none => v = .non
  | v, .bool b => v = .bl b
  | v, .int i => v = .int i
  | v, .str x => v = .str x
  | v, .list ds => ∃ a vs, v = .ref a ∧ H a = some (.lst vs) ∧ Reps H vs ds
  | v, .tuple ds => ∃ a vs, v = .ref a ∧ H a = some (.tup vs) ∧ Reps H vs ds
  | _, .dict _ => False
def Reps (H : Hp) : List V → List PyData → Prop
  | [], [] => True
  | v :: vs, d :: ds => Rep H v d ∧ Reps H vs ds
  | _, _ => False
end
section
variable {pins : List (Addr × Obj)} {σ : L2.St} {H : Hp} {s : Shared}
mutual
theorem Rep.reads (I : Inv X pins σ H s) : ∀ {d : PyData} {v : V} {u : Value}, Rep H v d → RelV v u → ∃ as, Reads s.heap u d as
  | .none, v, u, h, r => by simp only [Rep] at h; subst h; cases r; exact ⟨_, .none⟩
  | .bool b, v, u, h, r => by simp only [Rep] at h; subst h; cases r; exact ⟨_, .bool b⟩
  | .int i, v, u, h, r => by simp only [Rep] at h; subst h; obtain ⟨t, rfl⟩ := r; exact ⟨_, .int i t⟩
  | .str x, v, u, h, r => by simp only [Rep] at h; subst h; obtain ⟨t, rfl⟩ := r; exact ⟨_, .str x t⟩
  | .list ds, v, u, h, r => by
    simp only [Rep] at h
    obtain ⟨a, vs, rfl, e, h⟩ := h
    cases r
    obtain ⟨its, rv, ⟨o, n, e1, e2, e3, e4⟩, hz⟩ := I.list (SqL.of e)
    obtain ⟨as, q⟩ := Reps.reads I h rv
    exact ⟨_, reads_list_at e1 e2 e4 (by simpa using q)⟩
  | .tuple ds, v, u, h, r => by
    simp only [Rep] at h
    obtain ⟨a, vs, rfl, e, h⟩ := h
    cases r
    obtain ⟨its, rv, ⟨o, e1, e2, n, e4⟩, hz⟩ := I.tuple (SqT.of e)
    obtain ⟨as, q⟩ := Reps.reads I h rv
    exact ⟨_, reads_tuple_at e1 e2 e4 (by simpa using q)⟩
  | .dict _, v, u, h, r => by simp only [Rep] at h
theorem Reps.reads (I : Inv X pins σ H s) : ∀ {ds : List PyData} {vs : List V} {us : List Value}, Reps H vs ds → Vals vs us → ∃ as, ReadsAll s.heap us ds as
  | [], [], us, h, r => by cases r; exact ⟨_, .nil⟩
  | [], v :: vs, us, h, r => by simp only [Reps] at h
  | d :: ds, [], us, h, r => by simp only [Reps] at h
  | d :: ds, v :: vs, us, h, r => by
    simp only [Reps] at h
    cases r with
    | cons r1 r2 =>
      obtain ⟨as, q⟩ := Rep.reads I h.1 r1
      obtain ⟨bs, q2⟩ := Reps.reads I h.2 r2
      exact ⟨_, .cons q q2⟩
end
end
def rEqD : R2 := fun x y H Q => ∃ d e, Rep H x d ∧ Rep H y e ∧ SeqAt.shaped d = true ∧ SeqAt.shaped e = true ∧ Q (.bl (PyData.eqv d e)) H
theorem op_eqD (hu : X.A.units + 64 < cLine) : OpR X (compareOp .Eq) rEqD := by
  intro pins s σ H x y v u Q I rx ry h
  obtain ⟨d, e, hd, he, sd, se, q⟩ := h
  obtain ⟨as, r1⟩ := hd.reads I rx
  obtain ⟨bs, r2⟩ := he.reads I ry
  exact eq_dataH r1 r2 sd se hu ⟨.bl _, H, I, rfl, q⟩
def rNeD : R2 := fun x y H Q => ∃ d e, Rep H x d ∧ Rep H y e ∧ SeqAt.shaped d = true ∧ SeqAt.shaped e = true ∧ Q (.bl (!PyData.eqv d e)) H
theorem op_neD (hu : X.A.units + 64 < cLine) : OpR X (compareOp .NotEq) rNeD := by
  intro pins s σ H x y v u Q I rx ry h
  obtain ⟨d, e, hd, he, sd, se, q⟩ := h
  obtain ⟨as, r1⟩ := hd.reads I rx
  obtain ⟨bs, r2⟩ := he.reads I ry
  exact ne_dataH r1 r2 sd se hu ⟨.bl _, H, I, rfl, q⟩
def revS (z : Str) : Str := ⟨z.cps.reverse⟩
theorem rev_slice (z : Str) (u : Tok) : Txt.sliceBy z none none (-1, u) = revS z := by
  have h := step_rev_list z u
  have e : (List.range z.length).map (fun k => z.cps.getD (z.length - 1 - k) 0) = z.cps.toList.reverse := by
    apply List.ext_getElem?
    intro i
    by_cases hi : i < z.length
    · have hz : z.length = z.cps.size := rfl
      have hi' : z.cps.size - 1 - i < z.cps.size := by omega
      simp [hz, hi', Array.getD, hz ▸ hi]
    · have hz : z.length = z.cps.size := rfl
      have h1 : ((List.range z.length).map (fun k => z.cps.getD (z.length - 1 - k) 0))[i]? = none := List.getElem?_eq_none_iff.mpr (by simp; omega)
      have h2 : z.cps.toList.reverse[i]? = none := List.getElem?_eq_none_iff.mpr (by simp; omega)
      rw [h1, h2]
  rw [e] at h
  have h2 : (Txt.sliceBy z none none (-1, u)).cps = z.cps.reverse := by
    apply Array.ext'
    simpa using h
  show (⟨(Txt.sliceBy z none none (-1, u)).cps⟩ : Str) = ⟨z.cps.reverse⟩
  rw [h2]
def tRevS (te : TE) : TE := fun σ H Q => te σ H fun x H1 => ∃ z, x = .str z ∧ z.length ≤ sizeLine ∧ Q (.str (revS z)) H1
theorem pe_rev {e : Expr} {te : TE} {p1 p2 p3 p4 : Pos} {k : Nat} (he : PE X e te) (ht : ∀ o r, letTemporaryGo e o r = pure () := by intro _ _; with_unfolding_all rfl) :
    PE X (.Subscript e (.Slice none none (some (.UnaryOp .USub (.Constant (.int 1) k p1) p2)) p3) p4) (tRevS te) := by
  intro pins s σ H Q I h
  refine Subscript_ (thn (he pins s σ H _ I h) fun v s1 ⟨x, H1, I1, r1, q1⟩ => ?_)
  obtain ⟨z, rfl, hz, q⟩ := q1
  obtain ⟨t, rfl⟩ := r1
  refine wpAny_Slice ?_
  rw [evalPart_none, evalPart_some]
  refine wpAny_pure (wpAny_pure (UnaryOp_ (wpAny_Constant_int (neg_int ?_))))
  refine tail_of_ItemOn ⟨"str", _, F.slot_str_getitem.lookup, typeIs_str _ _ _, wpAny_getItem_str_slice (l := none) (u := none) (st := some (-1, _)) ⟨_, Heap.get?_push_size _ rfl, rfl, rfl⟩ (by rfl)
    (post_val_or_str ⟨Nat.le_trans (Txt.sliceBy_le z _ _ (-1, _) (by simp)) hz, fun t' c => ?_⟩)⟩ (by with_unfolding_all rfl) (ht _)
  refine ⟨.str (revS z), H1, ?_, ⟨t', congrArg (Value.str · t') (rev_slice z _)⟩, q⟩
  exact I1.kept (fun b o e => Heap.get?_push_of_some _ e)
end
end L2
set_option Elab.async false
set_option linter.all false
set_option maxRecDepth 100000
set_option maxHeartbeats 4000000
namespace L2
open PySem PySem.Spec PyProof.Rows
theorem bt_len : bootBuiltins "len" = some (.builtin "len") := by decide +kernel
theorem bt_max : bootBuiltins "max" = some (.builtin "max") := by decide +kernel
theorem bt_isinstance : bootBuiltins "isinstance" = some (.builtin "isinstance") := by decide +kernel
theorem bt_all : bootBuiltins "all" = some (.builtin "all") := by decide +kernel
theorem bt_int : bootBuiltins "int" = some (.type "int") := by decide +kernel
theorem bt_list : bootBuiltins "list" = some (.type "list") := by decide +kernel
theorem bt_tuple : bootBuiltins "tuple" = some (.type "tuple") := by decide +kernel
theorem bt_str : bootBuiltins "str" = some (.type "str") := by decide +kernel
theorem bt_bool : bootBuiltins "bool" = some (.type "bool") := by decide +kernel
theorem bt_enumerate : bootBuiltins "enumerate" = some (.type "enumerate") := by decide +kernel
theorem bt_zip : bootBuiltins "zip" = some (.type "zip") := by decide +kernel
section
variable {X : Cx}
def isL (x : V) (H : Hp) : Prop := match x with
  | .ref p => (lstOf (H p)).isSome = true
  | _ => False
def tBML (r : V → List V → Hp → VK → Prop) (to : TE) (t : TA) : TE := fun σ H Q => to σ H fun x H1 => isL x H1 ∧ t σ H1 fun xs H2 => r x xs H2 Q
theorem isL.ty {K : PySem.W.Frag} {x : V} {H : Hp} (h : isL x H) : tyV K "list" x H := by
  unfold isL at h
  split at h
  · rename_i p
    cases e : lstOf (H p) with
    | none => rw [e] at h; cases h
    | some ys => exact .inl ⟨rfl, ys, SqL.of (of_lstOf e)⟩
  · exact h.elim
variable {o e : Expr} {es : List Expr} {to : TE} {t : TA} {name : Str} {apos cpos : Pos} {id : String} {r : V → List V → Hp → VK → Prop}
theorem PE.imp {e : Expr} {t t' : TE} (h : PE X e t) (hi : ∀ σ H Q, t' σ H Q → t σ H Q) : PE X e t' := fun pins s σ H Q I hw => h pins s σ H Q I (hi σ H Q hw)
theorem pe_bmL (slot : Slot "list" name id) (hty : typeOf (.builtin id) = pure (.type "method_descriptor")) (hm : MtM X id r) (ho : PE X o to) (ha : PA X (e :: es) t) (mono : ∀ σ H Q Q', (∀ v H', Q v H' → Q' v H') → to σ H Q → to σ H Q')
    (hbase : attributeBase o name X.env (eval o X.env) = eval o X.env := by rfl)
    (hfew : ((backTo cpos (starEach (e :: es) X.env)).all (fun x => !x.1) && (backToKw cpos (keywordEach [] X.env)).all (fun x => x.1.isSome)
      && decide ((e :: es).length + ([] : List Keyword).length + (if ([] : List Keyword).isEmpty then 0 else 1) < 30)) = true := by rfl)
    (hline : (apos.endLine == cpos.line) = true := by rfl) (hs : starEach (e :: es) X.env = (false, eval e X.env) :: starEach es X.env := by rfl) (hplain : (backTo cpos (starEach es X.env)).any (·.1) = false := by rfl) :
    PE X (.Call (.Attribute o name apos) (e :: es) [] cpos) (tBML r to t) :=
  (pe_bm PySem.F.plainAttrs_list slot hty hm ho ha hbase hfew hline hs hplain).imp fun σ H Q h => mono σ H _ _ (fun v H' q => ⟨q.1.ty, q.2⟩) h
theorem mono_var {i : Nat} : ∀ σ H Q Q', (∀ v H', Q v H' → Q' v H') → tVar i σ H Q → tVar i σ H Q' := fun _ _ _ _ h ⟨v, e, q⟩ => ⟨v, e, h v _ q⟩
def rAppendU : V → List V → Hp → VK → Prop := fun x vs H Q => match x, vs with
  | .ref l, [y] => ∃ xs, lstOf (H l) = some xs ∧ xs.length < sizeLine ∧ Q .non (upd H l (.lst (xs ++ [y])))
  | _, _ => False
theorem mt_appendU : MtM X "list.append" rAppendU := by
  intro pins s σ H x vs v us Q I rx rv h
  unfold rAppendU at h
  split at h
  · rename_i l y
    obtain ⟨xs, e, h⟩ := h
    exact mt_append pins s σ H _ _ v us Q I rx rv ⟨l, xs, y, rfl, rfl, of_lstOf e, h⟩
  · exact h.elim
def rEqU : R2 := fun x y H Q => match x, y with
  | .int i, .int j => Q (.bl (decide (i = j))) H
  | .bl i, .bl j => Q (.bl (decide (i = j))) H
  | .str i, .str j => Q (.bl (decide (i = j))) H
  | .ref a, .ref b => rEqD (.ref a) (.ref b) H Q
  | x, y => scal x y = true ∧ Q (.bl (decide (x = y))) H
def rNeU : R2 := fun x y H Q => match x, y with
  | .int i, .int j => Q (.bl (!decide (i = j))) H
  | .bl i, .bl j => Q (.bl (!decide (i = j))) H
  | .str i, .str j => Q (.bl (!decide (i = j))) H
  | .ref a, .ref b => rNeD (.ref a) (.ref b) H Q
  | x, y => scal x y = true ∧ Q (.bl (!decide (x = y))) H
theorem op_eqU (hu : X.A.units + 64 < cLine) : OpR X (compareOp .Eq) rEqU := by
  intro pins s σ H x y v u Q I rx ry h
  unfold rEqU at h
  split at h
  · exact op_eq pins s σ H _ _ v u Q I rx ry ⟨rfl, by simpa using h⟩
  · exact op_eq pins s σ H _ _ v u Q I rx ry ⟨rfl, by simpa using h⟩
  · exact op_eq pins s σ H _ _ v u Q I rx ry ⟨rfl, by simpa using h⟩
  · exact op_eqD hu pins s σ H _ _ v u Q I rx ry h
  · exact op_eq pins s σ H _ _ v u Q I rx ry h
theorem op_neU (hu : X.A.units + 64 < cLine) : OpR X (compareOp .NotEq) rNeU := by
  intro pins s σ H x y v u Q I rx ry h
  unfold rNeU at h
  split at h
  · exact op_ne pins s σ H _ _ v u Q I rx ry ⟨rfl, by simpa using h⟩
  · exact op_ne pins s σ H _ _ v u Q I rx ry ⟨rfl, by simpa using h⟩
  · exact op_ne pins s σ H _ _ v u Q I rx ry ⟨rfl, by simpa using h⟩
  · exact op_neD hu pins s σ H _ _ v u Q I rx ry h
  · exact op_ne pins s σ H _ _ v u Q I rx ry h
theorem rLtU_int (H : Hp) (Q : VK) (i j : Int) : rLtU (.int i) (.int j) H Q = (Q (.bl (decide (i < j))) H) := rfl
theorem rLtU_str (H : Hp) (Q : VK) (i j : Str) : rLtU (.str i) (.str j) H Q = (Q (.bl (decide (i.cps.toList < j.cps.toList))) H) := rfl
theorem rLeU_int (H : Hp) (Q : VK) (i j : Int) : rLeU (.int i) (.int j) H Q = (Q (.bl (decide (i ≤ j))) H) := rfl
theorem rLeU_str (H : Hp) (Q : VK) (i j : Str) : rLeU (.str i) (.str j) H Q = (Q (.bl (!decide (j.cps.toList < i.cps.toList))) H) := rfl
theorem rIxU_str (H : Hp) (Q : VK) (z : Str) (i : Int) : rIxU (.str z) (.int i) H Q = (z.length ≤ sizeLine ∧ ∃ c, atI z.cps.toList i = some c ∧ Q (.str ⟨#[c]⟩) H) := rfl
theorem rIxU_ref (H : Hp) (Q : VK) (p : Addr) (i : Int) : rIxU (.ref p) (.int i) H Q = (∃ xs, seqOf (H p) = some xs ∧ ∃ v, atI xs i = some v ∧ Q v H) := rfl
theorem rLenU_str (H : Hp) (Q : VK) (z : Str) : rLenU [.str z] H Q = (z.length ≤ sizeLine ∧ Q (.int z.length) H) := rfl
theorem rLenU_ref (H : Hp) (Q : VK) (p : Addr) : rLenU [.ref p] H Q = (∃ ys, seqOf (H p) = some ys ∧ Q (.int ys.length) H) := rfl
theorem rMaxU_int (H : Hp) (Q : VK) (i j : Int) : rMaxU [.int i, .int j] H Q = (Q (.int (if j > i then j else i)) H) := rfl
theorem rIntU_int (H : Hp) (Q : VK) (i : Int) : rIntU [.int i] H Q = (Q (.int i) H) := rfl
theorem rIntU_bl (H : Hp) (Q : VK) (k : Bool) : rIntU [.bl k] H Q = (Q (.int (if k then 1 else 0)) H) := rfl
theorem rListU_str (H : Hp) (Q : VK) (z : Str) : rListU [.str z] H Q = (z.length ≤ sizeLine ∧ ∀ l, H l = none → Q (.ref l) (upd H l (.lst (sgn z)))) := rfl
theorem rListU_ref (H : Hp) (Q : VK) (p : Addr) : rListU [.ref p] H Q = (∃ ys, seqOf (H p) = some ys ∧ ∀ l, H l = none → Q (.ref l) (upd H l (.lst ys))) := rfl
theorem rPopU_ref (H : Hp) (Q : VK) (l : Addr) (i : Int) : rPopU (.ref l) [.int i] H Q = (∃ xs, lstOf (H l) = some xs ∧ 0 ≤ i ∧ ∃ y, xs[i.toNat]? = some y ∧ Q y (upd H l (.lst (xs.eraseIdx i.toNat)))) := rfl
theorem rAppendU_ref (H : Hp) (Q : VK) (l : Addr) (y : V) : rAppendU (.ref l) [y] H Q = (∃ xs, lstOf (H l) = some xs ∧ xs.length < sizeLine ∧ Q .non (upd H l (.lst (xs ++ [y])))) := rfl
theorem rEqU_int (H : Hp) (Q : VK) (i j : Int) : rEqU (.int i) (.int j) H Q = (Q (.bl (decide (i = j))) H) := rfl
theorem rEqU_bl (H : Hp) (Q : VK) (i j : Bool) : rEqU (.bl i) (.bl j) H Q = (Q (.bl (decide (i = j))) H) := rfl
theorem rEqU_str (H : Hp) (Q : VK) (i j : Str) : rEqU (.str i) (.str j) H Q = (Q (.bl (decide (i = j))) H) := rfl
theorem rEqU_ref (H : Hp) (Q : VK) (i j : Addr) : rEqU (.ref i) (.ref j) H Q = (rEqD (.ref i) (.ref j) H Q) := rfl
theorem rNeU_int (H : Hp) (Q : VK) (i j : Int) : rNeU (.int i) (.int j) H Q = (Q (.bl (!decide (i = j))) H) := rfl
theorem rNeU_bl (H : Hp) (Q : VK) (i j : Bool) : rNeU (.bl i) (.bl j) H Q = (Q (.bl (!decide (i = j))) H) := rfl
theorem rNeU_str (H : Hp) (Q : VK) (i j : Str) : rNeU (.str i) (.str j) H Q = (Q (.bl (!decide (i = j))) H) := rfl
theorem rNeU_ref (H : Hp) (Q : VK) (i j : Addr) : rNeU (.ref i) (.ref j) H Q = (rNeD (.ref i) (.ref j) H Q) := rfl
theorem rIsU_ty (K : PySem.W.Frag) (x : V) (c : String) (H : Hp) (Q : VK) : rIsU K [x, .ty c] H Q = (∃ t b, TyOf K H x t ∧ PySem.W.kitOne K t (.type c) = some b ∧ Q (.bl b) H) := rfl
theorem rSetU_ref (p : Addr) (k : Int) (v : V) (H : Hp) (Q : Hp → Prop) : rSetU (.ref p) (.int k) v H Q = (∃ xs, lstOf (H p) = some xs ∧ ∃ j, ixN xs.length k = some j ∧ Q (upd H p (.lst (xs.set j v)))) := rfl
theorem isL_ref (p : Addr) (H : Hp) : isL (.ref p) H = ((lstOf (H p)).isSome = true) := rfl
def LoopR (J : It) (g : TG) (tb : TS) (D : Ends) (σ : L2.St) (H1 : Hp) : Prop := ∃ W : Nat → Nat → L2.St → Hp → Prop, (∃ m, W 0 m σ H1) ∧ ∀ i m σ H, W i m σ H →
  (J.stop i H ∧ D.nx σ H) ∨ (J.go i H ∧ ∃ N : L2.St → Hp → Prop, (∀ σ' H', N σ' H' → ∃ m', m' < m ∧ W (i + 1) m' σ' H') ∧ ∀ x H', J.yld i H x H' → g x σ H' fun σ2 H2 => tb { D with nx := N, ct := N, bk := D.nx } σ2 H2)
theorem tFor_eq (wi : TI) (g : TG) (tb : TS) (D : Ends) (σ : L2.St) (H : Hp) : tFor wi g tb D σ H = wi σ H fun J H1 => LoopR J g tb D σ H1 := rfl
theorem loop_range {lo : Int} {n : Nat} {g : TG} {tb : TS} {D : Ends} {σ : L2.St} {H : Hp} (Pv : Nat → L2.St → Hp → Prop) (h0 : Pv 0 σ H)
    (hs : ∀ i σ H, i < n → Pv i σ H → g (.int (lo + i)) σ H fun σ2 H2 => tb { D with nx := Pv (i + 1), ct := Pv (i + 1), bk := D.nx } σ2 H2) (hd : ∀ σ H, Pv n σ H → D.nx σ H) : LoopR (Itr lo n) g tb D σ H := for_range Pv h0 hs hd
theorem loop_list {K : PySem.W.Frag} {a : Addr} {xs : List V} {g : TG} {tb : TS} {D : Ends} {σ : L2.St} {H : Hp} (Pv : Nat → L2.St → Hp → Prop) (h0 : Pv 0 σ H) (hl : ∀ i σ H, i ≤ xs.length → Pv i σ H → H a = some (.lst xs))
    (hs : ∀ i x σ H, xs[i]? = some x → Pv i σ H → g x σ H fun σ2 H2 => tb { D with nx := Pv (i + 1), ct := Pv (i + 1), bk := D.nx } σ2 H2) (hd : ∀ σ H, Pv xs.length σ H → D.nx σ H) : LoopR (Itl K a) g tb D σ H :=
  for_list Pv h0 (fun i σ H h p => SqL.of (hl i σ H h p)) hs hd
theorem loop_tup {K : PySem.W.Frag} {a : Addr} {xs : List V} {g : TG} {tb : TS} {D : Ends} {σ : L2.St} {H : Hp} (Pv : Nat → L2.St → Hp → Prop) (h0 : Pv 0 σ H) (hl : ∀ i σ H, i ≤ xs.length → Pv i σ H → H a = some (.tup xs))
    (hs : ∀ i x σ H, xs[i]? = some x → Pv i σ H → g x σ H fun σ2 H2 => tb { D with nx := Pv (i + 1), ct := Pv (i + 1), bk := D.nx } σ2 H2) (hd : ∀ σ H, Pv xs.length σ H → D.nx σ H) : LoopR (Itt K a) g tb D σ H :=
  for_tup Pv h0 (fun i σ H h p => SqT.of (hl i σ H h p)) hs hd
end
end L2
set_option Elab.async false
set_option linter.all false
set_option maxRecDepth 100000
set_option maxHeartbeats 4000000
namespace L2
open PySem PySem.Spec PyProof.Rows
def clOf (env : Env) : List (Str × NameKind) → List (Str × Addr) → List (Str × Addr)
  | [], cs => cs
  | (n, k) :: r, cs => clOf env r (if k == .free then (n, (env.cells.lookup n).getD 0) :: cs else cs)
theorem closure_of {env : Env} {scope : Scope} (h : ∀ y ∈ scope.names, y.2 = .free → ∃ c, env.cells.lookup y.1 = some c) : closureFor scope env = pure (clOf env scope.names []) := by
  have gen : ∀ (l : List (Str × NameKind)) (cs : List (Str × Addr)), (∀ y ∈ l, y.2 = .free → ∃ c, env.cells.lookup y.1 = some c) →
      (forIn l cs fun x r => (match x with | (name, kind) => if (kind == NameKind.free) = true then do let c ← cellOf env name; pure (ForInStep.yield ((name, c) :: r)) else pure (ForInStep.yield r)) : Sem (List (Str × Addr))) = pure (clOf env l cs) := by
    intro l
    induction l with
    | nil => intro cs _; rfl
    | cons y l ih =>
      intro cs hy
      obtain ⟨n, k⟩ := y
      rw [List.forIn_cons]
      have hr := fun z hz => hy z (List.mem_cons_of_mem _ hz)
      by_cases hk : k = .free
      · subst hk
        obtain ⟨c, hc⟩ := hy _ (List.mem_cons_self ..) rfl
        have hc' : env.cells.lookup n = some c := hc
        have e : cellOf env n = pure c := by unfold cellOf; rw [hc']
        simp only [beq_self_eq_true, if_true, e, pure_bind]
        rw [ih _ hr]
        simp [clOf, hc']
      · have hb : (k == NameKind.free) = false := by simpa using hk
        simp only [hb, Bool.false_eq_true, if_false, pure_bind]
        rw [ih _ hr]
        simp [clOf, hb]
  exact (congrArg (· >>= fun s => pure s) (gen scope.names [] h)).trans (by rfl)
theorem clOf_sub {env : Env} : ∀ (l : List (Str × NameKind)) (cs : List (Str × Addr)) (x : Str) (c : Addr), (∀ y ∈ l, y.2 = .free → ∃ c, env.cells.lookup y.1 = some c) → (∀ x c, cs.lookup x = some c → env.cells.lookup x = some c) →
    (clOf env l cs).lookup x = some c → env.cells.lookup x = some c
  | [], cs, x, c, _, hc, h => hc x c h
  | (n, k) :: r, cs, x, c, hl, hc, h => by
    unfold clOf at h
    refine clOf_sub r _ x c (fun y hy => hl y (List.mem_cons_of_mem _ hy)) (fun z d hz => ?_) h
    split at hz
    · rename_i hk
      rw [List.lookup_cons] at hz
      cases hzn : z == n with
      | true =>
        rw [hzn] at hz
        obtain ⟨c', hc'⟩ := hl _ (List.mem_cons_self ..) (by simpa using hk)
        have hc'' : env.cells.lookup n = some c' := hc'
        have ez : z = n := by simpa using hzn
        subst ez
        rw [hc''] at hz
        rw [hc'']
        exact hz
      | false => rw [hzn] at hz; exact hc z d hz
    · exact hc z d hz
theorem clOf_keep {env : Env} : ∀ (l : List (Str × NameKind)) (cs : List (Str × Addr)) (x : Str), (∃ c, cs.lookup x = some c) → ∃ c, (clOf env l cs).lookup x = some c
  | [], cs, x, h => h
  | (n, k) :: r, cs, x, h => by
    unfold clOf
    refine clOf_keep r _ x ?_
    split
    · rw [List.lookup_cons]
      cases x == n with
      | true => exact ⟨_, rfl⟩
      | false => exact h
    · exact h
theorem clOf_has {env : Env} : ∀ (l : List (Str × NameKind)) (cs : List (Str × Addr)) (x : Str), (x, NameKind.free) ∈ l → ∃ c, (clOf env l cs).lookup x = some c
  | (n, k) :: r, cs, x, h => by
    unfold clOf
    rcases List.mem_cons.mp h with h | h
    · cases h
      refine clOf_keep r _ _ ?_
      simp [List.lookup_cons]
    · exact clOf_has r _ x h
abbrev Cx.comp (X : Cx) (scope : Scope) (C : Addr) (Nc : List Str) (s3 : Shared) (H3 : Hp) (fp : List Addr) : Cx :=
  { X with N := Nc, s₀ := s3, H₀ := H3, env := compEnvC scope (clOf X.env scope.names []) C X.env, outer := X.stack, stack := X.stack, ex := fp, fn := fun _ => false, pn := [], xe := fun _ _ => False }
def compSt (js : List (Option Nat)) (σ : L2.St) : L2.St := js.map fun o => o.bind fun j => (σ[j]?).getD none
def tEmit (D : Addr) (te : TE) : TS := fun E σ H => te σ H fun v H1 => ∃ ys, lstOf (H1 D) = some ys ∧ ys.length < sizeLine ∧ E.nx σ (upd H1 D (.lst (ys ++ [v])))
def tComp (wi : TI) (g : TG) (js : List (Option Nat)) (te : TE) : TE := fun σ H Q => wi σ H fun J H1 => ∀ D, H1 D = none →
  LoopR J g (tEmit D te) { nx := fun _ H' => Q (.ref D) H', rt := fun _ _ => False } (compSt js σ) (upd H1 D (.lst []))
structure CompOk (X : Cx) (scope : Scope) (Nc : List Str) (js : List (Option Nat)) : Prop where
  kind : scope.kind = .function
  nocell : ∀ y ∈ scope.names, y.2 ≠ .cell
  loc : ∀ y ∈ scope.names, y.2 = .local → scope.names.lookup y.1 = some .local
  free : ∀ y ∈ scope.names, y.2 = .free → X.env.kindOf y.1 = some .cell ∨ X.env.kindOf y.1 = some .free
  len : js.length = Nc.length
  nol : ∀ x, (x, NameKind.free) ∈ scope.names → scope.names.lookup x ≠ some .local
  see : ∀ (i j : Nat) (x : Str), js[i]? = some (some j) → Nc[i]? = some x → X.N[j]? = some x ∧ (x, NameKind.free) ∈ scope.names
section
variable {X : Cx} {pins : List (Addr × Obj)} {σ : L2.St} {H : Hp} {s : Shared} {scope : Scope} {Nc : List Str} {js : List (Option Nat)} {fp : List Addr}
theorem CompOk.has (c : CompOk X scope Nc js) (I : Inv X pins σ H s) : ∀ y ∈ scope.names, y.2 = .free → ∃ a, X.env.cells.lookup y.1 = some a := fun y hy hf => I.ok.has _ (c.free y hy hf)
theorem relabel_kind {env : Env} {x : Str} : ∀ {l : List (Str × NameKind)}, (∀ y ∈ l, y.2 ≠ .cell) →
    ((l.map fun (n, k) => if (k == NameKind.free && env.scope.kind == .function && env.kindOf n == some .cell) then (n, NameKind.cell) else (n, k)).lookup x = some .cell ∨
     (l.map fun (n, k) => if (k == NameKind.free && env.scope.kind == .function && env.kindOf n == some .cell) then (n, NameKind.cell) else (n, k)).lookup x = some .free) → (x, NameKind.free) ∈ l
  | [], _, h => by simp at h
  | (n, k) :: r, hc, h => by
    rw [List.map_cons] at h
    by_cases hx : x = n
    · subst hx
      have hk : k = .free := by
        have hk' : k ≠ .cell := hc _ (List.mem_cons_self ..)
        by_cases hcond : (k == NameKind.free && env.scope.kind == .function && env.kindOf x == some .cell) = true
        · rw [Bool.and_eq_true, Bool.and_eq_true] at hcond
          simpa using hcond.1.1
        · simp only [hcond, Bool.false_eq_true, if_false, List.lookup_cons, beq_self_eq_true] at h
          rcases h with h | h
          · exact absurd (Option.some.inj h) hk'
          · exact Option.some.inj h
      subst hk
      exact List.mem_cons_self ..
    · refine List.mem_cons_of_mem _ (relabel_kind (env := env) (fun y hy => hc y (List.mem_cons_of_mem _ hy)) ?_)
      have hxn : (x == n) = false := by simpa using hx
      by_cases hcond : (k == NameKind.free && env.scope.kind == .function && env.kindOf n == some .cell) = true
      · simpa only [hcond, if_true, List.lookup_cons, hxn] using h
      · simpa only [hcond, Bool.false_eq_true, if_false, List.lookup_cons, hxn] using h
theorem relabel_loc {env : Env} {x : Str} : ∀ {l : List (Str × NameKind)},
    (l.map fun (n, k) => if (k == NameKind.free && env.scope.kind == .function && env.kindOf n == some .cell) then (n, NameKind.cell) else (n, k)).lookup x = some .local → l.lookup x = some .local
  | [], h => by simp at h
  | (n, k) :: r, h => by
    rw [List.map_cons] at h
    by_cases hx : x = n
    · subst hx
      by_cases hcond : (k == NameKind.free && env.scope.kind == .function && env.kindOf x == some .cell) = true
      · simp only [hcond, if_true, List.lookup_cons, beq_self_eq_true] at h
        cases h
      · simp only [hcond, Bool.false_eq_true, if_false, List.lookup_cons, beq_self_eq_true] at h
        simp only [List.lookup_cons, beq_self_eq_true]
        exact h
    · have hxn : (x == n) = false := by simpa using hx
      rw [List.lookup_cons, hxn]
      refine relabel_loc (env := env) ?_
      by_cases hcond : (k == NameKind.free && env.scope.kind == .function && env.kindOf n == some .cell) = true
      · simpa only [hcond, if_true, List.lookup_cons, hxn] using h
      · simpa only [hcond, Bool.false_eq_true, if_false, List.lookup_cons, hxn] using h
theorem comp_ok (c : CompOk X scope Nc js) (I : Inv X pins σ H s) (hf : ∀ b ∈ fp, FpOk X pins H b) (ho : ∀ b ∈ fp, ∃ o, s.heap.get? b = some o) : (X.comp scope s.heap.objs.size Nc s H fp).Ok := by
  have hs := c.has I
  have sub : ∀ x a, (clOf X.env scope.names []).lookup x = some a → X.env.cells.lookup x = some a := fun x a => clOf_sub _ _ x a hs (fun _ _ z => nomatch z)
  refine ⟨I.ok.mod, c.kind, I.ok.glob, I.ok.blt, Nat.le_refl _, fun x y a e1 e2 => I.ok.inj x y a (sub x a e1) (sub y a e2), fun x h => clOf_has _ _ x (relabel_kind (env := X.env) c.nocell h), (fun x a h => nomatch h), I.ok.hd, I.ok.frames, .inl rfl, fun b hb => ⟨?_, fun x a e => ?_⟩, I.bs,
    Nat.le_trans I.ok.bsz I.sz, fun b o e hb => ?_, fun b hb hb' => ?_, I.stack, I.stkFree⟩
  · obtain ⟨o, e⟩ := ho b hb
    exact Nat.ne_of_lt (Heap.lt_size e)
  · exact (hf b hb).2.2.2.2.1 x a (sub x a e)
  · rcases (hf b hb).2.2.2.1 with z | z
    · exact I.ok.noex b o e z
    · exact absurd (Nat.lt_of_lt_of_le (Heap.lt_size (I.ok.bs b o e).1) z) (Nat.lt_irrefl _)
  · rcases List.mem_cons.mp (I.stkSub b hb') with z | z
    · exact (hf b hb).2.1 z
    · exact (hf b hb).2.2.1 z
theorem comp_inv (c : CompOk X scope Nc js) (I : Inv X pins σ H s) (hf : ∀ b ∈ fp, FpOk X pins H b) (ho : ∀ b ∈ fp, ∃ o, s.heap.get? b = some o) {h' : Heap} {m : Str → Option Value} {tk : Nat} (hn : h'.Ns s.heap.objs.size m)
    (hk : ∀ b o, s.heap.get? b = some o → h'.get? b = some o) : Inv (X.comp scope s.heap.objs.size Nc s H fp) [] (compSt js σ) H { s with heap := h', toks := tk } := by
  have hs := c.has I
  have sub : ∀ x a, (clOf X.env scope.names []).lookup x = some a → X.env.cells.lookup x = some a := fun x a => clOf_sub _ _ x a hs (fun _ _ z => nomatch z)
  refine ⟨comp_ok c I hf ho, rfl, I.bare, Un.kept hk, ⟨m, hn, fun i x v e1 e2 e3 => ?_⟩, fun x a e => ?_, I.hok.fresh (Nat.le_refl _), fun x a e => I.freeC x a (sub x a e), (fun p hp => nomatch hp), I.hok.kept hk, by simp only [compSt, List.length_map]; exact c.len⟩
  · have e2' : (compSt js σ)[i]? = some (some v) := e2
    unfold compSt at e2'
    rw [List.getElem?_map] at e2'
    cases ej : js[i]? with
    | none => rw [ej] at e2'; cases e2'
    | some o =>
      rw [ej] at e2'
      cases o with
      | none => cases e2'
      | some j =>
        have e4 : (σ[j]?).getD none = some v := Option.some.inj e2'
        have e5 : σ[j]? = some (some v) := by
          cases q : σ[j]? with
          | none => rw [q] at e4; cases e4
          | some w => rw [q] at e4; exact congrArg some e4
        obtain ⟨n1, n2⟩ := c.see i j x ej e1
        have hkd := c.free _ n2 rfl
        obtain ⟨a, ha⟩ := clOf_has (env := X.env) scope.names [] x n2
        obtain ⟨m0, _, hl⟩ := I.loc
        obtain ⟨u, r, l⟩ := hl j x v n1 e5 (by
          rcases hkd with z | z
          · exact .inr (.inl z)
          · exact .inr (.inr z))
        refine ⟨u, r, ?_⟩
        rcases l with ⟨k, _⟩ | ⟨_, a', ha', hcell⟩
        · rcases hkd with z | z
          · rw [z] at k; cases k
          · rw [z] at k; cases k
        · have : a' = a := Option.some.inj (ha'.symm.trans (sub x a ha))
          subst this
          refine .inr ⟨?_, a', ha, ?_⟩
          · rcases e3 with z | z | z
            · exfalso
              have q : (relabel scope X.env).names.lookup x = some .local := z
              exact c.nol x n2 (relabel_loc q)
            · exact .inl z
            · exact .inr z
          · obtain ⟨o, q, d⟩ := hcell
            exact ⟨o, hk _ o q, d⟩
  · obtain ⟨v, o, q, d⟩ := I.cell x a (sub x a e)
    exact ⟨v, o, hk _ o q, d⟩
theorem comp_after (I : Inv X pins σ H s) (hf : ∀ b ∈ fp, FpOk X pins H b) {σ' : L2.St} {H' : Hp} {s' : Shared} {h'' : Heap} (J : Inv (X.comp scope s.heap.objs.size Nc s H fp) [] σ' H' s') (hs : Heap.SameBut s.heap.objs.size s'.heap h'') :
    Inv X pins σ H' { s' with heap := h'' } := by
  have ne : ∀ b o, s.heap.get? b = some o → b ≠ s.heap.objs.size := fun b o e => Nat.ne_of_lt (Heap.lt_size e)
  have u : Un (frs X.stack) fp H H' s.heap s'.heap := J.base
  refine I.call' (s' := { s' with heap := h'' }) (ch := fp) J.os ⟨fun b o e n hb hx => ?_, fun b o e n hb hx => ?_, u.free, fun b o e hx => ?_, u.tups, u.frzs, u.tbls⟩ (fun b o e => ?_) J.bare fun b hb => ?_
  · exact (hs.2 b (ne b o e)).trans (u.keep b o e n hb hx)
  · obtain ⟨sl, q⟩ := u.slot b o e n hb hx
    exact ⟨sl, (hs.2 b (ne b o e)).trans q⟩
  · obtain ⟨o', q⟩ := u.there b o e hx
    exact ⟨o', (hs.2 b (ne b o e)).trans q⟩
  · have hC : H' s.heap.objs.size = none := J.free
    refine (J.hok b o e).stay (fun d v hd q => (hs.2 d ?_).trans q) (fun _ q => q) fun _ _ q => q
    rintro rfl
    rcases hd with z | z
    · rw [← z, hC] at e; cases e
    · rw [hC] at z; cases z
  · obtain ⟨_, f1, _, f3, f4, f5⟩ := hf b hb
    exact ⟨f3, f1, f4, f5⟩
end
section
variable {X : Cx} {scope : Scope} {Nc : List Str} {js : List (Option Nat)} {elt tg iter : Expr} {pos : Pos} {wi : TI} {g : TG} {te : TE}
theorem comp_core (hc : X.calm = true) (c : CompOk X scope Nc js) (hi : PI X tg iter wi) (hg : ∀ C s3 H3 fp, PG (X.comp scope C Nc s3 H3 fp) tg g) (he : ∀ C s3 H3 fp, PE (X.comp scope C Nc s3 H3 fp) elt te)
    {pins : List (Addr × Obj)} {s : Shared} {σ : L2.St} {H : Hp} (I : Inv X pins σ H s) {RR : Value → Addr → Result → Shared → Prop} {NX : Addr → Hp → Prop}
    (h : wi σ H fun J H1 => ∀ D, H1 D = none → LoopR J g (tEmit D te) { nx := fun _ H' => NX D H', rt := fun _ _ => False } (compSt js σ) (upd H1 D (.lst [])))
    (fin : ∀ D H3 s3 fp σ5 H5 s6, Inv X pins σ H3 s3 → (∀ b ∈ fp, FpOk X pins H3 b) → Inv (X.comp scope s3.heap.objs.size Nc s3 H3 fp) [] σ5 H5 s6 → NX D H5 → RR (.ref D) s3.heap.objs.size (.ok .next) s6) :
    wpAny (model X.prog X.w) X.A (eval iter X.env) (fun x s₁ => wpAny (model X.prog X.w) X.A (pyIter x) (fun it s₂ => wpAny (model X.prog X.w) X.A (newList []) (fun acc s₃ =>
      wpAny (model X.prog X.w) X.A (newFunctionEnv scope X.env.globals (clOf X.env scope.names []) [] X.env.qual none .none (some X.env)) (fun cenv s₄ =>
        codeAny (model X.prog X.w) X.A (.compStart (.ListComp elt [⟨tg, iter, [], 0⟩] scope pos) 0 it acc { cenv with scope := relabel scope X.env }) (RR acc cenv.locals) s₄) X.xe s₃) X.xe s₂) X.xe s₁) X.xe s := by
  refine thn (hi pins s σ H _ I h) fun v s1 h1 => thn h1 fun itv s2 h2 => ?_
  obtain ⟨it, fp, tn, J, H2, rfl, I2, T, st2, f2, h2⟩ := h2
  -- the list
  refine wpAny_newObj_type ?_ (by show 0 ≤ sizeLine; decide)
  have hD : H2 s2.heap.objs.size = none := I2.hok.fresh (Nat.le_refl _)
  have I3 : Inv X pins σ (upd H2 s2.heap.objs.size (.lst [])) { s2 with heap := s2.heap.push { cls := .type "list", data := .seq ([] : List Value).toArray } } :=
    I2.laid (t' := s2.toks) (fun b u e => Heap.get?_push_of_some _ e) (Nat.le_refl _) ⟨by show 0 ≤ sizeLine; decide, [], 0, .nil, Heap.get?_push_size _ rfl⟩
  have f3 : ∀ b ∈ fp, FpOk X pins (upd H2 s2.heap.objs.size (.lst [])) b := fun b hb => by
    obtain ⟨q0, q⟩ := f2 b hb
    obtain ⟨o, e, _⟩ := T.obj _ _ st2 b hb
    exact ⟨by rw [upd_ne (Nat.ne_of_lt (Heap.lt_size e))]; exact q0, q⟩
  have o3 : ∀ b ∈ fp, ∃ o, (s2.heap.push { cls := .type "list", data := .seq ([] : List Value).toArray }).get? b = some o := fun b hb => by
    obtain ⟨o, e, _⟩ := T.obj _ _ st2 b hb
    exact ⟨o, Heap.get?_push_of_some _ e⟩
  have st3 : tn 0 (s2.heap.push { cls := .type "list", data := .seq ([] : List Value).toArray }) := T.keep _ _ _ st2 fun b _ o e => Heap.get?_push_of_some _ e
  generalize hh3 : s2.heap.push { cls := .type "list", data := .seq ([] : List Value).toArray } = h3 at I3 o3 st3 ⊢
  refine wpAny_newFunctionEnv c.nocell (by intro y hy; simp at hy) (fun h4 hn4 hs4 => ?_) c.kind
  have k4 : ∀ b o, h3.get? b = some o → h4.get? b = some o := fun b o e => (hs4.2 b (Nat.ne_of_lt (Heap.lt_size e))).trans (Heap.get?_push_of_some _ e)
  have I4 := comp_inv (tk := s2.toks + ([] : List (Str × Value)).length) c I3 f3 o3 hn4 k4
  have st4 : tn 0 h4 := T.keep _ _ _ st3 fun b _ o e => k4 b o e
  obtain ⟨W, ⟨m0, w0⟩, turn⟩ := h2 _ hD
  let s3 : Shared := { s2 with heap := h3 }
  let Y : Cx := X.comp scope h3.objs.size Nc s3 (upd H2 s2.heap.objs.size (.lst [])) fp
  have stat : ∀ {H' : Hp}, (∀ b ∈ fp, H' b = none) → ∀ b ∈ fp, FpOk Y [] H' b := fun hn b hb => ⟨hn b hb, (I4.ok.exf b hb).1, I4.ok.exfs b hb, .inl hb, (I4.ok.exf b hb).2, (fun p hp => nomatch hp)⟩
  have loop : codeAny (model X.prog X.w) X.A (.compLoop (.ListComp elt [⟨tg, iter, [], 0⟩] scope pos) 0 (.ref it) (.ref s2.heap.objs.size) Y.env)
      (RR (.ref s2.heap.objs.size) h3.objs.size) { s2 with heap := h4, toks := s2.toks + ([] : List (Str × Value)).length } := by
    refine codeAny_loop rfl (fun n s' => ∃ i σ' H', Inv Y [] σ' H' s' ∧ tn i s'.heap ∧ (∀ b ∈ fp, H' b = none) ∧ W i n σ' H') (fun n s5 hI => ?_) m0 ⟨0, _, _, I4, st4, fun b hb => (f3 b hb).1, w0⟩
    obtain ⟨i, σ5, H5, I5, st5, fr5, w5⟩ := hI
    show wpAny _ X.A ((compTurn (.ListComp elt [⟨tg, iter, [], 0⟩] scope pos) 0 (.ref it) (.ref s2.heap.objs.size) Y.env).onRaise (fun x => do noteFrame x Y.env; theTreesLotGoes x)) _ _ s5
    refine wpAny_noted (wpAny_mono (E := fun _ _ => False) ?_ (fun _ _ q => q) fun _ _ z => z.elim)
    rw [compTurn_list1]
    refine wpAny_bind (wpAny_standAt (wpAny_bind ?_))
    rcases turn i n σ5 H5 w5 with ⟨stop, qn⟩ | ⟨go, N, hN, step⟩
    · refine thn (T.done Y rfl rfl rfl hc i [] s5 σ5 H5 _ I5 (stat fr5) st5 stop) fun r s6 ⟨hr, I6⟩ => ?_
      subst hr
      refine wpAny_pure ?_
      exact fin _ _ s3 fp σ5 H5 s6 I3 f3 I6 qn
    · refine thn (T.item Y rfl rfl rfl hc i [] s5 σ5 H5 _ I5 (stat fr5) st5 go) fun r s6 ⟨u, hr, h6⟩ => ?_
      subst hr
      refine wpAny_bind (thn h6 fun _ s7 ⟨x, H7, I7, r7, y7, st7, fr7⟩ => ?_)
      have I7' := I7.pinned (stat fr7) (T.obj _ _ st7)
      refine wpAny_bind (thn (hg _ _ _ _ _ s7 σ5 H7 x u _ I7' r7 (step x H7 y7)) fun _ s8 ⟨σ8, H8, I8, q8⟩ => ?_)
      refine wpAny_bind (wpAny_bind (thn (he _ _ _ _ _ s8 σ8 H8 _ I8 q8) fun v s9 ⟨y, H9, I9, r9, ys, e9, z9, n9⟩ => ?_))
      refine wpAny_bind (thn (mt_append (X := Y) _ s9 σ8 H9 (.ref s2.heap.objs.size) [y] (.ref s2.heap.objs.size) [v] (fun w H' => N σ8 H') I9 rfl (.cons r9 .nil) ⟨_, ys, y, rfl, rfl, of_lstOf e9, z9, n9⟩) fun w s10 ⟨_, H10, I10, _, n10⟩ => ?_)
      refine wpAny_pure (wpAny_pure ⟨rfl, ?_⟩)
      obtain ⟨m', hm, w10⟩ := hN σ8 H10 n10
      refine ⟨m', hm, i + 1, σ8, H10, I10.unpinned, T.keep _ _ _ st7 fun b hb o e => (I10.pin (b, o) (List.mem_append_right _ (List.mem_append_right _ (mem_pinsAt hb e)))).1, fun b hb => ?_, w10⟩
      obtain ⟨o, e, d⟩ := T.obj _ _ st7 b hb
      exact (I10.pin (b, o) (List.mem_append_right _ (List.mem_append_right _ (mem_pinsAt hb e)))).2.1
  exact codeAny_compStart_list loop (T.self _ 0 _ _ _ st4 loop)
theorem pe_comp (hc : X.calm = true) (c : CompOk X scope Nc js) (hi : PI X tg iter wi) (hg : ∀ C s3 H3 fp, PG (X.comp scope C Nc s3 H3 fp) tg g) (he : ∀ C s3 H3 fp, PE (X.comp scope C Nc s3 H3 fp) elt te)
    (hs : ∀ x, foldedSetIterable iter X.env x = pure x := by intro _; rfl) : PE X (.ListComp elt [⟨tg, iter, [], 0⟩] scope pos) (tComp wi g js te) := by
  intro pins s σ H Q I h
  rw [eval_ListComp]
  refine wpAny_comprehension_free (use := none) (g := ⟨tg, iter, [], 0⟩) (gs := []) rfl hs (closure_of (c.has I)) c.kind c.loc
    (comp_core (RR := fun acc C => compPost (model X.prog X.w) X.A X.xe none (EP X pins σ Q) acc C) (NX := fun D H' => Q (.ref D) H') hc c hi hg he I h fun D H3 s3 fp σ5 H5 s6 I3 f3 I6 qn => ?_)
  obtain ⟨m, hn, _⟩ := I6.loc
  exact ⟨m, hn, fun h' hs' => ⟨.ref D, H5, comp_after I3 f3 I6 hs', rfl, qn⟩⟩
end
end L2
set_option Elab.async false
set_option linter.all false
set_option maxRecDepth 100000
set_option maxHeartbeats 4000000
namespace L2
open PySem PySem.Spec PyProof.Rows
section
variable {X : Cx}
def rTupleU : List V → Hp → VK → Prop := fun xs H Q => match xs with
  | [.ref p] => (∃ ys, lstOf (H p) = some ys ∧ ∀ l, H l = none → Q (.ref l) (upd H l (.tup ys))) ∨ (∃ ys, tupOf (H p) = some ys ∧ Q (.ref p) H)
  | _ => False
theorem call_tupleU : CallR X (.type "tuple") rTupleU := by
  intro pins s σ H xs us Q I r h
  unfold rTupleU at h
  split at h
  · rename_i p
    rcases h with ⟨ys, e, h⟩ | ⟨ys, e, h⟩
    · exact call_tuple_of pins s σ H _ us Q I r ⟨p, ys, rfl, .inl ⟨SqL.of (of_lstOf e), h⟩⟩
    · exact call_tuple_of pins s σ H _ us Q I r ⟨p, ys, rfl, .inr ⟨SqT.of (of_tupOf e), h⟩⟩
  · exact h.elim
theorem rTupleU_lst {p : Addr} {H : Hp} {Q : VK} {ys : List V} (e : H p = some (.lst ys)) (h : ∀ l, H l = none → Q (.ref l) (upd H l (.tup ys))) : rTupleU [.ref p] H Q := .inl ⟨ys, by rw [e]; rfl, h⟩
def rMulW : R2 := fun x y H Q => match x, y with
  | .int i, .int j => CMul i j ∧ Q (.int (i * j)) H
  | .ref l, .int k => ∃ xs, lstOf (H l) = some xs ∧ 0 ≤ k ∧ k < 2 ^ 62 ∧ xs.length * k.toNat ≤ sizeLine ∧ ∀ p, H p = none → Q (.ref p) (upd H p (.lst (List.replicate k.toNat xs).flatten))
  | _, _ => False
theorem op_mulW : OpR X (binaryOp .Mult) rMulW := by
  intro pins s σ H x y v u Q I rx ry h
  cases x with
  | int i => cases y with
    | int j => exact op_mul pins s σ H _ _ v u Q I rx ry ⟨i, j, rfl, rfl, h⟩
    | _ => exact False.elim h
  | ref l => cases y with
    | int k =>
      obtain ⟨xs, e, k0, k1, h⟩ := h
      exact op_rep pins s σ H _ _ v u Q I rx ry ⟨l, k, xs, rfl, rfl, of_lstOf e, by omega, by omega, h⟩
    | _ => exact False.elim h
  | _ => exact False.elim h
theorem rMulW_int (H : Hp) (Q : VK) (i j : Int) : rMulW (.int i) (.int j) H Q = (CMul i j ∧ Q (.int (i * j)) H) := rfl
theorem rMulW_ref (H : Hp) (Q : VK) (l : Addr) (k : Int) : rMulW (.ref l) (.int k) H Q = (∃ xs, lstOf (H l) = some xs ∧ 0 ≤ k ∧ k < 2 ^ 62 ∧ xs.length * k.toNat ≤ sizeLine ∧ ∀ p, H p = none → Q (.ref p) (upd H p (.lst (List.replicate k.toNat xs).flatten))) := rfl
variable {o e : Expr} {es : List Expr} {to : TE} {t : TA} {name : Str} {apos cpos : Pos} {id : String} {r : V → List V → Hp → VK → Prop}
def cutS (z : Str) (lo hi : Option Int) : Str := ⟨((z.cps.toList.drop (HT.sIx z.length 0 lo)).take (HT.sIx z.length z.length hi - HT.sIx z.length 0 lo)).toArray⟩
theorem strIx_eq (lo hi : Option Int) (n : Nat) : Builtin.Str.strSliceIndices lo hi 1 n = (List.range (HT.sIx n n hi - HT.sIx n 0 lo)).map (HT.sIx n 0 lo + ·) := by
  rw [← sliceRange_one]
  unfold Builtin.Str.strSliceIndices
  have e1 : (match lo with | none => (if (1 : Int) > 0 then (0 : Int) else (n : Int) - 1) | some i => let i := if i < 0 then i + (n : Int) else i; if (1 : Int) > 0 then max 0 (min i (n : Int)) else max (-1) (min i ((n : Int) - 1))) = ((HT.sIx n 0 lo : Nat) : Int) := by
    cases lo with
    | none => simp [HT.sIx]
    | some v =>
      simp only [show (1 : Int) > 0 by decide, if_true, HT.sIx]
      by_cases h : v < 0
      · simp only [h, if_true]; omega
      · simp only [h, if_false]; omega
  have e2 : (match hi with | none => (if (1 : Int) > 0 then (n : Int) else -1) | some i => let i := if i < 0 then i + (n : Int) else i; if (1 : Int) > 0 then max 0 (min i (n : Int)) else max (-1) (min i ((n : Int) - 1))) = ((HT.sIx n n hi : Nat) : Int) := by
    cases hi with
    | none => simp [HT.sIx]
    | some v =>
      simp only [show (1 : Int) > 0 by decide, if_true, HT.sIx]
      by_cases h : v < 0
      · simp only [h, if_true]; omega
      · simp only [h, if_false]; omega
  have key : ∀ a b a' b' : Int, a = a' → b = b' → sliceRange a b 1 = sliceRange a' b' 1 := by
    intro a b a' b' h1 h2
    rw [h1, h2]
  exact key _ _ _ _ e1 e2
theorem cutS_eq (z : Str) (lo hi : Option Int) : Txt.slice z lo hi = cutS z lo hi := by
  have e : (Builtin.Str.strSliceIndices lo hi 1 z.length).filterMap (z.cps[·]?) = (z.cps.toList.drop (HT.sIx z.length 0 lo)).take (HT.sIx z.length z.length hi - HT.sIx z.length 0 lo) := by
    rw [strIx_eq, pick_run]
  unfold Txt.slice cutS
  split
  · rename_i h
    have h2 : ((Builtin.Str.strSliceIndices lo hi 1 z.length).length == z.length) = true := by simpa using h
    have h3 : (Builtin.Str.strSliceIndices lo hi 1 z.length).length = z.length := eq_of_beq h2
    rw [strIx_eq, List.length_map, List.length_range] at h3
    have hl : z.cps.toList.length = z.length := by simp [Str.length]
    have q : ((z.cps.toList.drop (HT.sIx z.length 0 lo)).take (HT.sIx z.length z.length hi - HT.sIx z.length 0 lo)) = z.cps.toList := by
      have hb : HT.sIx z.length z.length hi ≤ z.length := by
        cases hi with
        | none => exact Nat.le_refl _
        | some v => simp only [HT.sIx]; split <;> omega
      by_cases h0 : z.length = 0
      · have : z.cps.toList = [] := List.length_eq_zero_iff.mp (by omega)
        rw [this]; simp
      · have ha : HT.sIx z.length 0 lo = 0 := by omega
        rw [h3, ha, List.drop_zero]
        exact List.take_of_length_le (by omega)
    rw [q]
  · rw [e]
def rSlS : V → Option Int → Option Int → Hp → VK → Prop := fun x lo hi H Q => ∃ z, x = .str z ∧ z.length ≤ sizeLine ∧ Q (.str (cutS z lo hi)) H
theorem sl_str : SlR X rSlS := by
  intro pins s σ H x v vl vu lo hi sl Q I rx hs pl pu h
  obtain ⟨z, rfl, hz, q⟩ := h
  obtain ⟨t, rfl⟩ := rx
  have gen : ∀ (l u : Option (Int × Tok)), vl = partValue l → vu = partValue u → lo = l.map (·.1) → hi = u.map (·.1) →
      wpAny (model X.prog X.w) X.A (getItem (.str z t) (.ref sl)) (EP X pins σ Q) X.xe s := by
    intro l u e1 e2 e3 e4
    subst e1 e2 e3 e4
    refine wpAny_getItem_str_slice (l := l) (u := u) (st := none) hs (by rfl) ?_
    have e : (if ((((none : Option (Int × Tok)).map (·.1)).getD 1 == 1 && (slicePicked z l u none).length == z.length) = true) then z else ⟨((slicePicked z l u none).filterMap (z.cps[·]?)).toArray⟩) = cutS z (l.map (·.1)) (u.map (·.1)) := by
      rw [← cutS_eq]; rfl
    refine post_val_or_str ⟨?_, fun t' c => ⟨.str (cutS z (l.map (·.1)) (u.map (·.1))), H, I.tok c, ⟨t', congrArg (Value.str · t') e⟩, q⟩⟩
    rw [e, ← cutS_eq]
    exact Nat.le_trans (Txt.slice_le _ _ _) hz
  refine ⟨"str", _, F.slot_str_getitem.lookup, typeIs_str _ _ _, ?_⟩
  cases pl with
  | none => cases pu with
    | none => exact gen none none rfl rfl rfl rfl
    | int j tj => exact gen none (some (j, tj)) rfl rfl rfl rfl
  | int i ti => cases pu with
    | none => exact gen (some (i, ti)) none rfl rfl rfl rfl
    | int j tj => exact gen (some (i, ti)) (some (j, tj)) rfl rfl rfl rfl
def compChk (sc : Scope) (N : List Str) (scope : Scope) (Nc : List Str) (js : List (Option Nat)) : Bool :=
  (scope.kind == .function) && scope.names.all (fun y => !(y.2 == .cell)) && scope.names.all (fun y => !(y.2 == .local) || scope.names.lookup y.1 == some .local) &&
  scope.names.all (fun y => !(y.2 == .free) || ((sc.names.lookup y.1 == some .cell || sc.names.lookup y.1 == some .free) && !(scope.names.lookup y.1 == some .local))) && (js.length == Nc.length) &&
  (List.range js.length).all (fun i => match js[i]? with
    | some (some j) => (N[j]? == Nc[i]?) && (match Nc[i]? with | some x => scope.names.any (fun y => y.1 == x && y.2 == .free) | none => true)
    | _ => true)
theorem compOk_of {sc scope : Scope} {N Nc : List Str} {js : List (Option Nat)} (hd : compChk sc N scope Nc js = true) (hsc : X.env.scope = sc := by rfl) (hN : X.N = N := by rfl) : CompOk X scope Nc js := by
  simp only [compChk, Bool.and_eq_true, List.all_eq_true, Bool.or_eq_true, Bool.not_eq_true', beq_iff_eq, List.mem_range] at hd
  obtain ⟨⟨⟨⟨⟨h1, h2⟩, h3⟩, h4⟩, h5⟩, h6⟩ := hd
  have kk : ∀ x, X.env.kindOf x = sc.names.lookup x := fun x => by rw [← hsc]; rfl
  refine ⟨h1, fun y hy e => ?_, fun y hy e => ?_, fun y hy e => ?_, h5, fun x hx => ?_, fun i j x e1 e2 => ?_⟩
  · have := h2 y hy
    rw [e] at this; cases this
  · rcases h3 y hy with q | q
    · rw [e] at q; cases q
    · exact q
  · rcases h4 y hy with q | q
    · rw [e] at q; cases q
    · rw [kk]
      exact q.1
  · rcases h4 _ hx with q | q
    · cases q
    · intro z
      have q2 := q.2
      rw [z] at q2
      cases q2
  · have hi : i < js.length := (List.getElem?_eq_some_iff.mp e1).1
    have q := h6 i hi
    rw [e1, e2] at q
    simp only [Bool.and_eq_true, beq_iff_eq, List.any_eq_true] at q
    refine ⟨by rw [hN]; exact q.1, ?_⟩
    obtain ⟨y, hy, hy1, hy2⟩ := q.2
    obtain ⟨a, b⟩ := y
    simp only at hy1 hy2
    subst hy1 hy2
    exact hy
end
end L2
set_option Elab.async false
set_option linter.all false
set_option maxRecDepth 100000
set_option maxHeartbeats 4000000
namespace L2
open PySem PySem.Spec PyProof.Rows
theorem Inv.turnedNew {X : Cx} {pins : List (Addr × Obj)} {σ : L2.St} {H : Hp} {s : Shared} {h' : Heap} {t' : Nat} {fp wr : List Addr} {T : Addr} {xs : List V} {vs : List Value} (I : Inv X pins σ H s) (hf : ∀ b ∈ wr, FpOk X pins H b)
    (k : ∀ b o, b ∉ wr → s.heap.get? b = some o → h'.get? b = some o) (hT : s.heap.objs.size ≤ T) (tup : IsTup h' T vs.toArray) (r : Vals xs vs) (hz : xs.length ≤ sizeLine) (there : ∀ b ∈ wr, ∃ o, h'.get? b = some o) :
    Inv X pins σ (upd H T (.tup xs)) { s with heap := h', toks := t' } := by
  have neT : ∀ b u, H b = some u → b ≠ T := fun b u e => Nat.ne_of_lt (Nat.lt_of_lt_of_le (I.hok.lt e) hT)
  have nw : ∀ b u, H b = some u → b ∉ wr := fun b u e hb => by rw [(hf b hb).1] at e; cases e
  refine I.step (g' := s.gens) (d' := s.drawn) (ch := wr) (fun b hb => ?_) (fun b o _ _ hc e _ => k b o hc e) (fun b o _ _ hc e _ => ⟨o.slots, k b o hc e⟩) (fun b o hc e n => ?_) (fun b o hc e => ⟨o, k b o hc e⟩)
    (fun b ys e => by rw [upd_ne (neT b _ e)]; exact e) (fun b o u e => by rw [upd_ne (neT b _ e)]; exact e) (fun b ps e => ⟨#[], by rw [upd_ne (neT b _ e), e]; simp⟩) (fun m hm => ?_) (fun b u e => ?_) I.bare
  · obtain ⟨_, f1, _, f3, f4, f5⟩ := hf b hb
    exact ⟨f3, f1, f4, f5⟩
  · rw [upd_ne (Nat.ne_of_lt (Nat.lt_of_lt_of_le (Heap.lt_size e) hT))]; exact n
  · obtain ⟨o, es, ep, ho, rr⟩ := hm
    exact ⟨o, es, ep, k _ o (fun z => (hf _ z).2.1 rfl) ho, rr⟩
  · by_cases hb : b = T
    · subst hb
      rw [upd_same] at e
      cases e
      exact ⟨hz, vs, r, tup⟩
    · rw [upd_ne hb] at e
      refine (I.hok b u e).stay (fun d v hd q => k d v ?_ q) (fun d q => by rw [upd_ne (neT d _ q)]; exact q) fun d ys q => by rw [upd_ne (neT d _ q)]; exact q
      rcases hd with rfl | hd
      · exact nw _ _ e
      · exact nw _ _ hd
section
variable {X : Cx}
end
end L2
set_option Elab.async false
set_option linter.all false
set_option maxRecDepth 100000
set_option maxHeartbeats 4000000
namespace L2
open PySem PySem.Spec PyProof.Rows
section
variable {X : Cx}
def rAddW : R2 := fun x y H Q => match x, y with
  | .int i, .int j => Q (.int (i + j)) H
  | .str i, .str j => i.length + j.length ≤ sizeLine ∧ Q (.str (i ++ j)) H
  | .ref l, .ref b => (∃ xs zs, lstOf (H l) = some xs ∧ lstOf (H b) = some zs ∧ xs.length + zs.length ≤ sizeLine ∧ ∀ p, H p = none → Q (.ref p) (upd H p (.lst (xs ++ zs)))) ∨
      (∃ xs zs, tupOf (H l) = some xs ∧ tupOf (H b) = some zs ∧ xs ≠ [] ∧ zs ≠ [] ∧ xs.length + zs.length ≤ sizeLine ∧ ∀ p, H p = none → Q (.ref p) (upd H p (.tup (xs ++ zs))))
  | _, _ => False
theorem op_addW : OpR X (binaryOp .Add) rAddW := by
  intro pins s σ H x y v u Q I rx ry h
  cases x with
  | int i => cases y with
    | int j => exact op_add pins s σ H _ _ v u Q I rx ry ⟨i, j, rfl, rfl, h⟩
    | _ => exact False.elim h
  | str i => cases y with
    | str j => exact op_add_str pins s σ H _ _ v u Q I rx ry ⟨i, j, rfl, rfl, h⟩
    | _ => exact False.elim h
  | ref l => cases y with
    | ref b =>
      rcases h with ⟨xs, zs, e1, e2, h⟩ | ⟨xs, zs, e1, e2, n1, n2, hz, h⟩
      · exact op_cat pins s σ H _ _ v u Q I rx ry ⟨l, b, xs, zs, rfl, rfl, of_lstOf e1, of_lstOf e2, h⟩
      · exact op_catT pins s σ H _ _ v u Q I rx ry ⟨l, b, xs, zs, rfl, rfl, SqT.of (of_tupOf e1), SqT.of (of_tupOf e2), n1, hz, fun z => absurd z n2, fun _ => h⟩
    | _ => exact False.elim h
  | _ => exact False.elim h
theorem rAddW_int (H : Hp) (Q : VK) (i j : Int) : rAddW (.int i) (.int j) H Q = (Q (.int (i + j)) H) := rfl
theorem rAddW_str (H : Hp) (Q : VK) (i j : Str) : rAddW (.str i) (.str j) H Q = (i.length + j.length ≤ sizeLine ∧ Q (.str (i ++ j)) H) := rfl
end
end L2
set_option Elab.async false
set_option linter.all false
set_option maxRecDepth 100000
set_option maxHeartbeats 4000000
namespace L2
open PySem PySem.Spec PyProof.Rows
section
variable {X : Cx} {pos : Pos} {k v : Expr} {tk tv : TE}
end
end L2
set_option Elab.async false
set_option linter.all false
set_option maxRecDepth 100000
set_option maxHeartbeats 4000000
namespace L2
open PySem PySem.Spec PyProof.Rows
section
variable {X : Cx}
def rSlU (K : PySem.W.Frag) : V → Option Int → Option Int → Hp → VK → Prop := fun x lo hi H Q => match x with
  | .str z => z.length ≤ sizeLine ∧ Q (.str (cutS z lo hi)) H
  | .ref a => (∃ xs, SqL K H a xs ∧ ∀ p, H p = none → Q (.ref p) (upd H p (.lst (cutV xs lo hi)))) ∨
      ∃ xs, SqT K H a xs ∧ ¬ (HT.sIx xs.length 0 lo = 0 ∧ HT.sIx xs.length xs.length hi = xs.length) ∧ ∀ p, H p = none → Q (.ref p) (upd H p (.tup (cutV xs lo hi)))
  | _ => False
theorem sl_U : SlR X (rSlU X.K) := by
  intro pins s σ H x v vl vu lo hi sl Q I rx hs pl pu h
  unfold rSlU at h
  split at h
  · rename_i z
    exact sl_str pins s σ H (.str z) v vl vu lo hi sl Q I rx hs pl pu ⟨z, rfl, h⟩
  · rename_i a
    rcases h with ⟨xs, hx, q⟩ | ⟨xs, hx, nw, q⟩
    · exact sl_list pins s σ H (.ref a) v vl vu lo hi sl Q I rx hs pl pu ⟨a, xs, rfl, hx, q⟩
    · exact sl_tup pins s σ H (.ref a) v vl vu lo hi sl Q I rx hs pl pu ⟨a, xs, rfl, hx, nw, q⟩
  · exact h.elim
theorem rSlU_str (K : PySem.W.Frag) (H : Hp) (Q : VK) (z : Str) (lo hi : Option Int) : rSlU K (.str z) lo hi H Q = (z.length ≤ sizeLine ∧ Q (.str (cutS z lo hi)) H) := rfl
theorem rSlU.sq {K : PySem.W.Frag} {H : Hp} {Q : VK} {a : Addr} {xs : List V} {lo hi : Option Int} (e : SqL K H a xs) (h : ∀ p, H p = none → Q (.ref p) (upd H p (.lst (cutV xs lo hi)))) : rSlU K (.ref a) lo hi H Q := .inl ⟨xs, e, h⟩
theorem rSlU.lst {K : PySem.W.Frag} {H : Hp} {Q : VK} {a : Addr} {xs : List V} {lo hi : Option Int} (e : H a = some (.lst xs)) (h : ∀ p, H p = none → Q (.ref p) (upd H p (.lst (cutV xs lo hi)))) : rSlU K (.ref a) lo hi H Q := .inl ⟨xs, SqL.of e, h⟩
theorem rSlU.tup {K : PySem.W.Frag} {H : Hp} {Q : VK} {a : Addr} {xs : List V} {lo hi : Option Int} (e : H a = some (.tup xs)) (nw : ¬ (HT.sIx xs.length 0 lo = 0 ∧ HT.sIx xs.length xs.length hi = xs.length)) (h : ∀ p, H p = none → Q (.ref p) (upd H p (.tup (cutV xs lo hi)))) : rSlU K (.ref a) lo hi H Q := .inr ⟨xs, SqT.of e, nw, h⟩
end
end L2
set_option Elab.async false
set_option linter.all false
set_option maxRecDepth 100000
set_option maxHeartbeats 4000000
namespace L2
open PySem PySem.Spec PyProof.Rows
section
variable {X : Cx}
def hasS (z y : Str) : Bool := !(Builtin.Str.occurrences z y 0 z.length 1).isEmpty
def rInU (K : PySem.W.Frag) (neg : Bool) : R2 := fun x y H Q => match x, y with
  | .str i, .str j => Q (.bl (if neg then !hasS j i else hasS j i)) H
  | x, .ref p => ∃ xs, (SqL K H p xs ∨ SqT K H p xs) ∧ flatV x = true ∧ xs.all flatV = true ∧ Q (.bl (if neg then !inV x xs else inV x xs)) H
  | _, _ => False
theorem rInU_str (K : PySem.W.Frag) (neg : Bool) (H : Hp) (Q : VK) (i j : Str) : rInU K neg (.str i) (.str j) H Q = Q (.bl (if neg then !hasS j i else hasS j i)) H := rfl
theorem op_inU {K : PySem.W.Frag} (hK : X.K = K) : OpR X (compareOp .In) (rInU K false) := by
  subst hK
  intro pins s σ H x y v u Q I rx ry h
  unfold rInU at h
  split at h
  · rename_i i j
    exact op_in_str pins s σ H _ _ v u Q I rx ry ⟨i, j, rfl, rfl, h⟩
  · rename_i p
    obtain ⟨xs, h⟩ := h
    exact op_in_seq pins s σ H _ _ v u Q I rx ry ⟨p, xs, rfl, h⟩
  · exact h.elim
theorem op_notinU {K : PySem.W.Frag} (hK : X.K = K) : OpR X (compareOp .NotIn) (rInU K true) := by
  subst hK
  intro pins s σ H x y v u Q I rx ry h
  unfold rInU at h
  split at h
  · rename_i i j
    exact op_notIn_str pins s σ H _ _ v u Q I rx ry ⟨i, j, rfl, rfl, h⟩
  · rename_i p
    obtain ⟨xs, h⟩ := h
    exact op_notIn_seq pins s σ H _ _ v u Q I rx ry ⟨p, xs, rfl, h⟩
  · exact h.elim
theorem hasS_one (z : Str) (c : Nat) : hasS z ⟨#[c]⟩ = decide (c ∈ z.cps.toList) := PySem.StrLaws.found_one z c
theorem rInU.lst {K : PySem.W.Frag} {neg : Bool} {H : Hp} {Q : VK} {x : V} {p : Addr} {xs : List V} (e : H p = some (.lst xs)) (fx : flatV x = true) (fs : xs.all flatV = true) (q : Q (.bl (if neg then !inV x xs else inV x xs)) H) : rInU K neg x (.ref p) H Q := by
  cases x <;> exact ⟨xs, .inl (SqL.of e), fx, fs, q⟩
theorem rInU.tupS {K : PySem.W.Frag} {neg : Bool} {H : Hp} {Q : VK} {x : V} {p : Addr} {xs : List V} (e : SqT K H p xs) (fx : flatV x = true) (fs : xs.all flatV = true) (q : Q (.bl (if neg then !inV x xs else inV x xs)) H) : rInU K neg x (.ref p) H Q := by
  cases x <;> exact ⟨xs, .inr e, fx, fs, q⟩
theorem range_pick (bs : List Bool) (d : Bool) : (List.range bs.length).map (fun i => (bs[i]?).getD d) = bs := by
  apply List.ext_getElem?
  intro i
  by_cases h : i < bs.length
  · simp [h]
  · rw [List.getElem?_eq_none_iff.mpr (by simp; omega), List.getElem?_eq_none_iff.mpr (by omega)]
theorem vals_bools : ∀ {bs : List Bool} {us : List Value}, Vals (bs.map V.bl) us → ∀ (i : Nat) (v : Value), us[i]? = some v → ∃ b, bs[i]? = some b ∧ v = .bool b
  | [], us, r, i, v, e => by rw [List.map_nil] at r; cases r; simp at e
  | b :: bs, us, r, i, v, e => by
    rw [List.map_cons] at r
    cases r with
    | cons r1 r2 =>
      cases i with
      | zero => cases r1; simp at e; exact ⟨b, rfl, e.symm⟩
      | succ i => simp at e; obtain ⟨b', e1, e2⟩ := vals_bools r2 i v e; exact ⟨b', by simpa using e1, e2⟩
def rAllU : List V → Hp → VK → Prop := fun xs H Q => match xs with
  | [.ref p] => ∃ bs : List Bool, H p = some (.lst (bs.map V.bl)) ∧ Q (.bl (bs.all id)) H
  | _ => False
theorem kept_it {s : Shared} {h' : Heap} {o : Obj} (hk : ∀ b x, b ∉ [s.heap.objs.size] → (s.heap.push o).get? b = some x → h'.get? b = some x) : ∀ b x, s.heap.get? b = some x → h'.get? b = some x :=
  fun b x e => hk b x (fun hm => by rw [List.mem_singleton.mp hm] at e; exact Nat.lt_irrefl _ (Heap.lt_size e)) (Heap.get?_push_of_some _ e)
theorem call_allU (hc : X.calm = true) : CallR X (.builtin "all") rAllU := by
  intro pins s σ H xs us Q I r h
  unfold rAllU at h
  split at h
  · rename_i p
    obtain ⟨bs, e, q⟩ := h
    obtain ⟨u, rfl, ru⟩ := vals1 r
    cases ru
    obtain ⟨its, rr, pl, _⟩ := I.list (SqL.of e)
    have isl := pl.isList
    have plt : p < s.heap.objs.size := by obtain ⟨_, e, _⟩ := isl; exact Heap.lt_size e
    refine call_all_walk (wpAny_pyIter_list isl ?_)
    refine ⟨s.heap.objs.size, [s.heap.objs.size, p], [s.heap.objs.size], its.toArray.size, _, _, fun i => (bs[i]?).getD true, rfl, Walks.list (A := X.A.in1) (I.ok.hd hc) _ p (Nat.ne_of_lt plt) its.toArray,
      ⟨⟨_, Heap.get?_push_size _ rfl, rfl, rfl⟩, isl.push _⟩, fun i v s' Q' E' hp hq => ?_, fun h' tk hk => ?_⟩
    · obtain ⟨b, e, rfl⟩ := vals_bools rr i v (by simpa using hp)
      simp only [Option.getD_some, e] at hq
      exact wpAny_truthy_bool hq
    · have e : ((List.range its.toArray.size).all fun i => (bs[i]?).getD true) = bs.all id := by
        have hlen : its.length = bs.length := by have := rr.length; simpa using this.symm
        rw [List.size_toArray, hlen]
        conv => rhs; rw [← range_pick bs true, List.all_map]
        rfl
      rw [e]
      exact ⟨.bl _, H, I.kept (kept_it hk), rfl, q⟩
  · exact h.elim
theorem rAllU_ref (p : Addr) (H : Hp) (Q : VK) : rAllU [.ref p] H Q = (∃ bs : List Bool, H p = some (.lst (bs.map V.bl)) ∧ Q (.bl (bs.all id)) H) := rfl
end
end L2
set_option Elab.async false
set_option linter.all false
set_option maxRecDepth 100000
set_option maxHeartbeats 4000000
namespace L2
open PySem PySem.Spec PyProof.Rows
section
variable {D : Addr} {te : TE} {E : Ends} {r : L2.St} {H : Hp}
end
end L2
set_option Elab.async false
set_option linter.all false
set_option maxRecDepth 100000
set_option maxHeartbeats 4000000
set_option autoImplicit true
set_option relaxedAutoImplicit true
namespace L2
open PySem PySem.Spec PyProof.Rows
structure QE (X : Cx) (e : Expr) (t : TE) : Prop where
  h : PE X e t
structure QT (X : Cx) (e : Expr) (t : TT) : Prop where
  h : PT X e t
structure QW (X : Cx) (e : Expr) (t : TT) : Prop where
  h : PW X e t
structure QA (X : Cx) (es : List Expr) (t : TA) : Prop where
  h : PA X es t
structure QS (X : Cx) (st : Stmt) (t : TS) : Prop where
  h : PS X st t
structure QSs (X : Cx) (st : List Stmt) (t : TS) : Prop where
  h : PSs X st t
structure QG (X : Cx) (e : Expr) (t : TG) : Prop where
  h : PG X e t
structure QGs (X : Cx) (es : List Expr) (t : TGs) : Prop where
  h : PGs X es t
structure QI (X : Cx) (tg iter : Expr) (wi : TI) : Prop where
  h : PI X tg iter wi
structure QO (X : Cx) (e : Option Expr) (t : TO) : Prop where
  h : PO X e t
structure QC (X : Cx) (op : CmpOp) (a b : Expr) (t : TE) : Prop where
  h : PC X op a b t
theorem qpss_nil : QSs X [] tNext := ⟨pss_nil⟩
theorem qpss_one (h1 : QS X stm t) : QSs X [stm] t := ⟨pss_one h1.h⟩
theorem qpss_cons (h1 : QS X stm t) (h2 : QSs X rst u) : QSs X (stm :: rst) (tSeq t u) := ⟨pss_cons h1.h h2.h⟩
theorem qpv (i : Nat) {x : Str} {pos : Pos} (hN : X.N[i]? = some x := by rfl) (hv : Vis X.env.scope x := by first | exact Or.inl rfl | exact Or.inr (Or.inl rfl) | exact Or.inr (Or.inr rfl))
    (hd : (x == ("__debug__" : Str)) = false := by decide) (hcd : (x == ("__classdict__" : Str)) = false := by decide) : QE X (.Name x pos) (tVar i) := ⟨pv i hN hv hd hcd⟩
theorem qpe_int : QE X (.Constant (.int i) j pos) (tC (.int i)) := ⟨pe_int⟩
theorem qpe_bl : QE X (.Constant (.bool b) j pos) (tC (.bl b)) := ⟨pe_bl⟩
theorem qpe_str : QE X (.Constant (.str x) j pos) (tC (.str x)) := ⟨pe_str⟩
theorem qpe_glob {x : Str} {v : V} {u : Value} {pos : Pos} (hg : Gl X x) (hm : X.mg x = some u) (r : RelV v u) (hd : (x == ("__debug__" : Str)) = false := by decide) : QE X (.Name x pos) (tC v) := ⟨pe_glob hg hm r hd⟩
theorem qpe_bltn {x : Str} {v : V} {u : Value} {pos : Pos} (hg : Gl X x) (hm : X.mg x = none) (hv : bootBuiltins x = some u) (r : RelV v u) (hn : x ≠ "__name__" := by decide) (hd : (x == ("__debug__" : Str)) = false := by decide) :
    QE X (.Name x pos) (tC v) := ⟨pe_bltn hg hm hv r hn hd⟩
theorem qpe_op (ho : OpR X (binaryOp op) r) (ha : QE X a ta) (hb : QE X b tb) : QE X (.BinOp a op b pos) (tOp r ta tb) := ⟨pe_op ho ha.h hb.h⟩
theorem qpe_not (ha : QE X a ta) : QE X (.UnaryOp .Not a pos) (tNotV ta) := ⟨pe_not ha.h⟩
theorem qpe_un (ho : UnR X (unaryOp op) r) (ha : QE X a ta) : QE X (.UnaryOp op a pos) (tUn r ta) := ⟨pe_un ho ha.h⟩
theorem qpe_cmpR (ho : OpR X (compareOp op) r) (ha : QE X a ta) (hb : QE X b tb) (hm : behindInMarks op b = false) : QE X (.Compare a [op] [b] pos) (tOp r ta tb) := ⟨pe_cmpR ho ha.h hb.h hm⟩
theorem qpt_cmpR (ho : OpR X (compareOp op) r) (ha : QE X a ta) (hb : QE X b tb) (hm : behindInMarks op b = false) : QT X (.Compare a [op] [b] pos) (tTest (tOp r ta tb)) := ⟨pt_cmpR ho ha.h hb.h hm⟩
theorem qpe_chain (ho : OpR X (compareOp op) r) (ho' : OpR X (compareOp op') r') (ha : QE X a ta) (hb : QE X b tb) (hc : QE X c tc) (hm : lastMarks [op, op'] [b, c] = false := by with_unfolding_all rfl) :
    QE X (.Compare a [op, op'] [b, c] pos) (tChain r r' ta tb tc) := ⟨pe_chain ho ho' ha.h hb.h hc.h hm⟩
theorem qpt_chain (ho : OpR X (compareOp op) r) (ho' : OpR X (compareOp op') r') (ha : QE X a ta) (hb : QE X b tb) (hc : QE X c tc) (hm : lastMarks [op, op'] [b, c] = false := by with_unfolding_all rfl) :
    QT X (.Compare a [op, op'] [b, c] pos) (tTest (tChain r r' ta tb tc)) := ⟨pt_chain ho ho' ha.h hb.h hc.h hm⟩
theorem qpt_cmp (h : QC X op a b t) (h1 : behindInMarks op b = false := by first | exact nobehind _ (by decide) (by decide) | rfl) : QT X (.Compare a [op] [b] pos) (tB t) := ⟨pt_cmp h.h h1⟩
theorem qpt_not (ha : QT X a tA) : QT X (.UnaryOp .Not a pos) (tNot tA) := ⟨pt_not ha.h⟩
theorem QW.pt (h : QW X e t) : QT X e t := ⟨PW.pt h.h⟩
theorem qpw_and (ha : QT X a tA) (hb : QW X (.BoolOp .And (b :: rst) pos) tB') : QW X (.BoolOp .And (a :: b :: rst) pos) (tAnd tA tB') := ⟨pw_and ha.h hb.h⟩
theorem qpw_or (ha : QT X a tA) (hb : QW X (.BoolOp .Or (b :: rst) pos) tB') : QW X (.BoolOp .Or (a :: b :: rst) pos) (tOr tA tB') := ⟨pw_or ha.h hb.h⟩
theorem qpw_and1 (ha : QT X a tA) : QW X (.BoolOp .And [a] pos) tA := ⟨pw_and1 ha.h⟩
theorem qpw_or1 (ha : QT X a tA) : QW X (.BoolOp .Or [a] pos) tA := ⟨pw_or1 ha.h⟩
theorem qpt_val {e : Expr} (h : QE X e t) (he : ∀ whole, isTrue e X.env whole = (do let v ← whole; standAt e.pos; holding [v] (truthy v)) := by intro _; rfl) : QT X e (tB t) := ⟨pt_val h.h he⟩
theorem qpe_one (h : QE X a t) : QE X (.BoolOp op [a] pos) t := ⟨pe_one h.h⟩
theorem qpe_and (ha : QE X a ta) (hb : QE X (.BoolOp .And (b :: rst) pos) tb) : QE X (.BoolOp .And (a :: b :: rst) pos) (tAndV ta tb) := ⟨pe_and ha.h hb.h⟩
theorem qpe_ifExp (hc : QT X c tA) (ha : QE X a ta) (hb : QE X b tb) : QE X (.IfExp c a b pos) (tIf tA ta tb) := ⟨pe_ifExp hc.h ha.h hb.h⟩
theorem qpe_lst (h : QA X es t) : QE X (.List es pos) (tLst t) := ⟨pe_lst h.h⟩
theorem qpe_tup (h : QA X es t) : QE X (.Tuple es x1 pos) (tTup t) := ⟨pe_tup h.h⟩
theorem qpe_rev {e : Expr} (he : QE X e te) (ht : ∀ o r, letTemporaryGo e o r = pure () := by intro _ _; with_unfolding_all rfl) :
    QE X (.Subscript e (.Slice none none (some (.UnaryOp .USub (.Constant (.int 1) k p1) p2)) p3) p4) (tRevS te) := ⟨pe_rev he.h ht⟩
theorem qpe_slice (hr : SlR X r) (he : QE X e te) (hl : QO X lw tl) (hu : QO X hi th) : QE X (.Subscript e (.Slice lw hi none p2) pos) (tSl r te tl th) := ⟨pe_slice hr he.h hl.h hu.h⟩
theorem qpo_none : QO X none tNoPart := ⟨po_none⟩
theorem qpo_some (h : QE X e te) : QO X (some e) (tPart te) := ⟨po_some h.h⟩
theorem qpe_ix (hr : IxR X r) (ha : QE X a ta) (hb : QE X b tb) (hs : PlainIx b) : QE X (.Subscript a b pos) (tOp r ta tb) := ⟨pe_ix hr ha.h hb.h hs⟩
theorem qpe_comp (hc : X.calm = true) (c : CompOk X scope Nc js) (hi : QI X tg iter wi) (hg : ∀ C s3 H3 fp, QG (X.comp scope C Nc s3 H3 fp) tg g) (he : ∀ C s3 H3 fp, QE (X.comp scope C Nc s3 H3 fp) elt te)
    (hs : ∀ x, foldedSetIterable iter X.env x = pure x := by intro _; rfl) : QE X (.ListComp elt [⟨tg, iter, [], 0⟩] scope pos) (tComp wi g js te) := ⟨pe_comp hc c hi.h (fun C s H f => (hg C s H f).h) (fun C s H f => (he C s H f).h) hs⟩
theorem qpe_call (F : FnOk X.prog X.w X.K X.mg X.base CX k f fd ps sp) (hr : Room k X.A) (hg : Gl X x) (hm : X.mg x = some (.ref f)) (hk : PySem.W.keepIn X.K (.ref f) = true) (hb : Binds X.K fd ps ds) (hd : Vals dvs ds) (hx : Passes CX X E)
    (ha : QA X (e :: es) t) (hdb : (x == ("__debug__" : Str)) = false := by decide) (he : starEach (e :: es) X.env = (false, eval e X.env) :: starEach es X.env := by rfl) (hpl : (backTo pos (starEach es X.env)).any (·.1) = false := by rfl) :
    QE X (.Call (.Name x p) (e :: es) [] pos) (tCall sp dvs E t) := ⟨pe_call F hr hg hm hk hb hd hx ha.h hdb he hpl⟩
theorem qpe_callTy (hc : CallR X (.type T) r) (hg : Gl X x) (hm : X.mg x = none) (hv : bootBuiltins x = some (.type T)) (ha : QA X (e :: es) t) (hn : x ≠ "__name__" := by decide) (hdb : (x == ("__debug__" : Str)) = false := by decide)
    (he : starEach (e :: es) X.env = (false, eval e X.env) :: starEach es X.env := by rfl) (hpl : (backTo pos (starEach es X.env)).any (·.1) = false := by rfl) : QE X (.Call (.Name x p) (e :: es) [] pos) (tCB r t) := ⟨pe_callTy hc hg hm hv ha.h hn hdb he hpl⟩
theorem qpe_callB (hc : CallR X (.builtin idn) r) (hg : Gl X x) (hm : X.mg x = none) (hv : bootBuiltins x = some (.builtin idn)) (ha : QA X (e :: es) t) (hn : x ≠ "__name__" := by decide) (hdb : (x == ("__debug__" : Str)) = false := by decide)
    (he : starEach (e :: es) X.env = (false, eval e X.env) :: starEach es X.env := by rfl) (hpl : (backTo pos (starEach es X.env)).any (·.1) = false := by rfl) : QE X (.Call (.Name x p) (e :: es) [] pos) (tCB r t) := ⟨pe_callB hc hg hm hv ha.h hn hdb he hpl⟩
theorem qpe_bmL (slot : Slot "list" name idn) (hty : typeOf (.builtin idn) = pure (.type "method_descriptor")) (hm : MtM X idn r) (ho : QE X o to) (ha : QA X (e :: es) t) (mono : ∀ σ H Q Q', (∀ v H', Q v H' → Q' v H') → to σ H Q → to σ H Q')
    (hbase : attributeBase o name X.env (eval o X.env) = eval o X.env := by rfl)
    (hfew : ((backTo cpos (starEach (e :: es) X.env)).all (fun x => !x.1) && (backToKw cpos (keywordEach [] X.env)).all (fun x => x.1.isSome)
      && decide ((e :: es).length + ([] : List Keyword).length + (if ([] : List Keyword).isEmpty then 0 else 1) < 30)) = true := by rfl)
    (hline : (apos.endLine == cpos.line) = true := by rfl) (hs : starEach (e :: es) X.env = (false, eval e X.env) :: starEach es X.env := by rfl) (hplain : (backTo cpos (starEach es X.env)).any (·.1) = false := by rfl) :
    QE X (.Call (.Attribute o name apos) (e :: es) [] cpos) (tBML r to t) := ⟨pe_bmL slot hty hm ho.h ha.h mono hbase hfew hline hs hplain⟩
theorem qpa_nil : QA X [] tNil := ⟨pa_nil⟩
theorem qpa_cons (ha : QE X e te) (hr : QA X es t) (hs : starEach (e :: es) X.env = (false, eval e X.env) :: starEach es X.env := by rfl) : QA X (e :: es) (tCons te t) := ⟨pa_cons ha.h hr.h hs⟩
theorem qpg_name {i : Nat} {x : Str} (hN : X.N.Nodup) (hi : X.N[i]? = some x) (hx : Loc X.env.scope x) (hf : X.fn x = true ∨ X.env.scope.names.lookup x = some .local := by first | exact .inl rfl | exact .inr rfl | assumption) : QG X (.Name x pos) (gName i) := ⟨pg_name hN hi hx hf⟩
theorem qpg_tup {es : List Expr} {t : TGs} {n : Nat} {K : PySem.W.Frag} (hc : X.calm = true) (h : QGs X es t) (hK : X.K = K) (hn : (assignEach es X.env).length = n := by rfl) (hst : (assignEach es X.env).findIdx? (·.1) = none := by rfl) :
    QG X (.Tuple es k pos) (gTup K n t) := by subst hK; exact ⟨pg_tup hc h.h hn hst⟩
theorem qpgs_nil : QGs X [] gNil := ⟨pgs_nil⟩
theorem qpgs_cons {e : Expr} {es : List Expr} (h1 : QG X e t) (h2 : QGs X es u) (hs : (assignEach (e :: es) X.env).map (·.2) = assign e X.env :: (assignEach es X.env).map (·.2) := by rfl) : QGs X (e :: es) (gCons t u) := ⟨pgs_cons h1.h h2.h hs⟩
theorem qpg_sub {o i : Expr} (ho : QE X o to) (hi : QE X i ti) (hs : PSet X t)
    (ha : ∀ v, assign (.Subscript o i pos) X.env v = (do
      let ov ← holding [v] (eval o X.env)
      let iv ← holding [v, ov] (eval i X.env)
      standAt pos
      holding [v, ov, iv] (setItem ov iv v)
      release [v, ov, iv] []) := by intro _; rfl) : QG X (.Subscript o i pos) (gSub to ti t) := ⟨pg_sub ho.h hi.h hs ha⟩
theorem qps_set {i : Nat} {x : Str} {e : Expr} {te : TE} {pos' : Pos} (hN : X.N.Nodup) (hi : X.N[i]? = some x) (hx : Loc X.env.scope x) (he : QE X e te) (hs : swapsWith e (some (.Name x pos')) pos.line X.env = pure false := by rfl)
    (hf : X.fn x = true ∨ X.env.scope.names.lookup x = some .local := by first | exact .inl rfl | exact .inr rfl | assumption) : QS X (.Assign [.Name x pos'] e pos) (tAsg te (gName i)) := ⟨ps_set hN hi hx he.h hs hf⟩
theorem qps_asg {tg e : Expr} (he : QE X e te) (hg : QG X tg g) (hs : swapsWithSole [tg] e pos.line X.env = pure false := by rfl) (hw : swappedStores [tg] e X.env = pure none := by rfl)
    (h1 : (assignEach [tg] X.env).map (·.2) = [assign tg X.env] := by rfl) : QS X (.Assign [tg] e pos) (tAsg te g) := ⟨ps_asg he.h hg.h hs hw h1⟩
theorem qps_ret (he : QE X e te) : QS X (.Return (some e) pos) (tRet te) := ⟨ps_ret he.h⟩
theorem qps_expr (he : QE X e te) (hs : swapsWith e none pos.line X.env = pure false := by rfl) : QS X (.Expr e pos) (tDrop te) := ⟨ps_expr he.h hs⟩
theorem qps_if (hc : QT X c tc) (ha : QSs X a t) (hb : QSs X b u) : QS X (.If c a b pos) (tIfS tc t u) := ⟨ps_if hc.h ha.h hb.h⟩
theorem qps_for {iter : Expr} (hp : PassesOwn (model X.prog X.w) X.A X.env X.xe) (hc : X.calm = true) (hi : QI X tg iter wi) (hg : QG X tg g) (hb : QSs X body tb) (hs : ∀ x, foldedSetIterable iter X.env x = pure x := by intro _; rfl) :
    QS X (.For tg iter body [] pos) (tFor wi g tb) := ⟨ps_for hp hc hi.h hg.h hb.h hs⟩
theorem qpi_range1 {a : Expr} {ta : TA} {p pos : Pos} (hg : Gl X "range") (hm : X.mg "range" = none) (ha : QA X [a] ta) (hs : starEach [a] X.env = [(false, eval a X.env)] := by rfl) : QI X tg (.Call (.Name "range" p) [a] [] pos) (iRng1 ta) := ⟨pi_range1 hg hm ha.h hs⟩
theorem qpi_range2 {a b : Expr} {ta : TA} {p pos : Pos} (hg : Gl X "range") (hm : X.mg "range" = none) (ha : QA X [a, b] ta) (hs : starEach [a, b] X.env = [(false, eval a X.env), (false, eval b X.env)] := by rfl) (hs2 : starEach [b] X.env = [(false, eval b X.env)] := by rfl) :
    QI X tg (.Call (.Name "range" p) [a, b] [] pos) (iRng2 ta) := ⟨pi_range2 hg hm ha.h hs hs2⟩
theorem qpi_any {K : PySem.W.Frag} (hl : QE X l tl) (hK : X.K = K) : QI X tg l (iAny K tl) := by subst hK; exact ⟨pi_any hl.h⟩
end L2
set_option Elab.async false
set_option linter.all false
set_option maxRecDepth 100000
set_option maxHeartbeats 4000000
namespace L2
open PySem PySem.Spec PyProof.Rows
section
variable {X : Cx} {scope : Scope} {Nc : List Str} {js : List (Option Nat)} {elt tg iter cd : Expr} {pos : Pos} {wi : TI} {g : TG} {te : TE} {tt : TT}
end
section
variable {X : Cx} {scope : Scope} {Nc : List Str} {js : List (Option Nat)} {elt tg iter cd : Expr} {pos : Pos} {wi : TI} {g : TG} {te : TE} {tt : TT}
end
section
variable {D : Addr} {te : TE} {tt : TT} {E : Ends} {r : L2.St} {H : Hp}
end
end L2
set_option Elab.async false
set_option linter.all false
set_option maxRecDepth 100000
set_option maxHeartbeats 4000000
namespace L2
open PySem PySem.Spec PyProof.Rows
section
variable {X : Cx}
end
end L2
set_option Elab.async false
set_option linter.all false
set_option maxRecDepth 100000
set_option maxHeartbeats 4000000
namespace L2
open PySem PySem.Spec PyProof.Rows
section
variable {P : Program} {w : World} {A : Around} {E : Value → Shared → Prop} {s : Shared}
end
section
variable {X : Cx}
end
end L2
set_option Elab.async false
set_option linter.all false
set_option maxRecDepth 100000
set_option maxHeartbeats 4000000
namespace L2
open PySem PySem.Spec PyProof.Rows
section
variable {X : Cx}
def rStrK (x : V) (k : Str → Prop) : Prop := match x with
  | .str y => k y
  | _ => False
theorem rStrK_str (y : Str) (k : Str → Prop) : rStrK (.str y) k = k y := rfl
abbrev TJ := L2.St → Hp → Str → VK → Prop
def PJ (X : Cx) (es : List Expr) (t : TJ) : Prop := ∀ (pins : List (Addr × Obj)) (s : Shared) (σ : L2.St) (H : Hp) (out : Str) (Q : VK), Inv X pins σ H s → t σ H out Q → wpAny (model X.prog X.w) X.A (joinParts out (evalEach es X.env)) (EP X pins σ Q) X.xe s
def tJnil : TJ := fun _ H out Q => out.length ≤ sizeLine ∧ Q (.str out) H
def tJcons (te : TE) (t : TJ) : TJ := fun σ H out Q => te σ H fun x H1 => rStrK x fun y => (out ++ y).length ≤ sizeLine ∧ t σ H1 (out ++ y) Q
theorem pj_nil : PJ X [] tJnil := fun pins s σ H out Q I h => joinParts_nil ⟨.str out, H, I.tok _, ⟨_, rfl⟩, h.2⟩ h.1
theorem pj_cons {a : Expr} {es : List Expr} {te : TE} {t : TJ} (ha : PE X a te) (hr : PJ X es t) : PJ X (a :: es) (tJcons te t) := by
  intro pins s σ H out Q I h
  show wpAny _ _ (joinParts out (eval a X.env :: evalEach es X.env)) _ _ s
  refine joinParts_cons (thn (ha pins s σ H _ I h) fun v s1 ⟨x, H1, I1, r1, q1⟩ => ?_)
  replace q1 : rStrK x fun y => (out ++ y).length ≤ sizeLine ∧ t σ H1 (out ++ y) Q := q1
  cases x with
  | str y => obtain ⟨u, rfl⟩ := r1; exact ⟨q1.1, hr pins s1 σ H1 _ Q I1 q1.2⟩
  | _ => exact q1.elim
def tJoin (t : TJ) : TE := fun σ H Q => t σ H Str.empty Q
theorem pe_joined {a b : Expr} {es : List Expr} {t : TJ} {pos : Pos} (h : PJ X (a :: b :: es) t) : PE X (.JoinedStr (a :: b :: es) pos) (tJoin t) := fun pins s σ H Q I hw => JoinedStr_many (h pins s σ H _ Q I hw)
end
def tMid (t u : TS) : TS := fun D σ H => ∃ J : L2.St → Hp → Prop, t { D with nx := J } σ H ∧ ∀ σ H, J σ H → u D σ H
theorem pss_mid {X : Cx} {st : Stmt} {rest : List Stmt} {t u : TS} (h1 : PS X st t) (h2 : PSs X rest u) : PSs X (st :: rest) (tMid t u) := by
  intro pins s σ H D I h
  obtain ⟨J, h, hJ⟩ := h
  refine wpAny_execs_cons (thn (h1 pins s σ H { D with nx := J } I h) fun f s1 q => ?_)
  cases f with
  | next =>
    obtain ⟨σ1, H1, I1, q1⟩ := q
    exact h2 pins s1 σ1 H1 D I1 (hJ _ _ q1)
  | ret v => exact q
  | brk => exact q
  | cont => exact q
theorem qpss_mid {X : Cx} {st : Stmt} {rest : List Stmt} {t u : TS} (h1 : QS X st t) (h2 : QSs X rest u) : QSs X (st :: rest) (tMid t u) := ⟨pss_mid h1.h h2.h⟩
structure QJ (X : Cx) (es : List Expr) (t : TJ) : Prop where
  h : PJ X es t
section
variable {X : Cx}
theorem qpj_nil : QJ X [] tJnil := ⟨pj_nil⟩
theorem qpj_cons {a : Expr} {es : List Expr} {te : TE} {t : TJ} (ha : QE X a te) (hr : QJ X es t) : QJ X (a :: es) (tJcons te t) := ⟨pj_cons ha.h hr.h⟩
theorem qpe_joined {a b : Expr} {es : List Expr} {t : TJ} {pos : Pos} (h : QJ X (a :: b :: es) t) : QE X (.JoinedStr (a :: b :: es) pos) (tJoin t) := ⟨pe_joined h.h⟩
theorem call_isinstanceK {K : PySem.W.Frag} (hK : X.K = K) : CallR X (.builtin "isinstance") (rIsU K) := by
  subst hK
  exact call_isinstanceU
end
end L2
set_option Elab.async false
set_option linter.all false
set_option maxRecDepth 100000
set_option maxHeartbeats 4000000
namespace L2
open PySem PySem.Spec PyProof.Rows
section
variable {P : Program} {w : World} {A : Around} {R : Result → Shared → Prop} {I : Addr} {fp wr : List Addr} {n : Nat} {Pv : Nat → Value → Prop} {St : Nat → Heap → Prop}
end
section
variable {X : Cx}
end
end L2
set_option Elab.async false
set_option linter.all false
set_option maxRecDepth 100000
set_option maxHeartbeats 4000000
namespace L2
open PySem PySem.Spec PyProof.Rows
section
variable {P : Program} {w : World} {A : Around} {E : Value → Shared → Prop} {s : Shared} {d it : Addr} {o : Obj} {es : Array DictEntry} {ep i : Nat}
end
section
variable {X : Cx} {tg : Expr}
end
end L2
set_option Elab.async false
set_option linter.all false
set_option maxRecDepth 100000
set_option maxHeartbeats 4000000
namespace L2
open PySem PySem.Spec PyProof.Rows
section
variable {D : Addr} {te : TE} {tt : TT} {E : Ends} {r : L2.St} {H : Hp}
end
theorem sl_UK {X : Cx} {K : PySem.W.Frag} (hK : X.K = K) : SlR X (rSlU K) := by
  subst hK
  exact sl_U
end L2
namespace L2
open PySem PySem.Spec PyProof.Rows
section
variable {prog : Program} {w : World} {A : Around} {E : Value → Shared → Prop} {s : Shared}
theorem tup_whole {t sl : Addr} {items : Array Value} {vl vu : Value} {lo hi : Option Int} {Q : Value → Shared → Prop} (ht : IsTup s.heap t items) (hs : s.heap.IsSliceOf sl vl vu .none) (pl : IsPart vl lo) (pu : IsPart vu hi)
    (hw : HT.sIx items.size 0 lo = 0 ∧ HT.sIx items.size items.size hi = items.size) (h : Q (.ref t) s) : wpAny (model prog w) A (getItem (.ref t) (.ref sl)) Q E s := by
  obtain ⟨os, hos, hcs, hds⟩ := id hs
  have hTs : s.TypeIs (.ref sl) "slice" := ⟨os, hos, hcs⟩
  unfold getItem
  try with_reducible refine wpAny_holding ?_
  first | refine wpAny_bind (wpAny_pure ?_) | skip
  refine wpAny_bind (wpAny_sequenceKey ht.typeIs (by decide) ?_)
  refine wpAny_bind (wpAny_callSpecial?_slot (name := Str.ofString "__getitem__") ht.typeIs PyProof.Rows.slot_tuple_getitem
    (wpAny_call_entry PyProof.Rows.slot_tuple_getitem ht.typeIs PyProof.Rows.entry_tuple_getitem ?_ (PyProof.Rows.args_tuple_getitem _ _)))
  show wpAny _ _ (Builtin.Tuple.tupleItemsOf (.ref t) >>= _) _ _ s
  refine wpAny_bind (tupleItemsOf_ ht ?_)
  refine wpAny_bind (wpAny_typeOf hTs ?_)
  rw [if_pos (by decide)]
  refine wpAny_bind (HT.sliceApplied_gen hs pl pu ?_)
  show wpAny _ _ (if (((HT.sIx items.size 0 lo : Nat) : Int) == 0 && (1 : Int) == 1 && (HT.sIx items.size items.size hi - HT.sIx items.size 0 lo) == items.size) = true then _ else _) _ _ s
  rw [if_pos (by rw [hw.1, hw.2]; simp)]
  unfold Builtin.Tuple.tupleIsExact
  exact wpAny_bind (wpAny_bind (wpAny_typeOf ht.typeIs (wpAny_pure (by rw [if_pos (by decide)]; exact wpAny_bind (wpAny_rule (wpAny_pure ⟨_, rfl, wpAny_pure h⟩))))))
end
section
variable {X : Cx}
def rSlW (K : PySem.W.Frag) : V → Option Int → Option Int → Hp → VK → Prop := fun x lo hi H Q => ∃ a xs, x = .ref a ∧ SqT K H a xs ∧ (HT.sIx xs.length 0 lo = 0 ∧ HT.sIx xs.length xs.length hi = xs.length) ∧ Q (.ref a) H
theorem sl_tupW : SlR X (rSlW X.K) := by
  intro pins s σ H x v vl vu lo hi sl Q I rx hs pl pu h
  obtain ⟨a, xs, rfl, hx, hw, q⟩ := h
  cases rx
  obtain ⟨its, r, ht, hz⟩ := I.tuple hx
  have hlen : its.toArray.size = xs.length := by rw [List.size_toArray]; exact r.length.symm
  refine ⟨"tuple", _, PyProof.Rows.slot_tuple_getitem.lookup, ht.typeIs, ?_⟩
  exact tup_whole ht hs pl pu (by rw [hlen]; exact hw) ⟨.ref a, H, I, rfl, q⟩
def rSlV (K : PySem.W.Frag) : V → Option Int → Option Int → Hp → VK → Prop := fun x lo hi H Q => rSlU K x lo hi H Q ∨ rSlW K x lo hi H Q
theorem sl_VK {K : PySem.W.Frag} (hK : X.K = K) : SlR X (rSlV K) := by
  subst hK
  exact SlR.or sl_U sl_tupW
theorem rSlV.tup {K : PySem.W.Frag} {H : Hp} {Q : VK} {a : Addr} {xs : List V} {lo hi : Option Int} (e : H a = some (.tup xs)) (h : ∀ p H', H' p = some (.tup (cutV xs lo hi)) → Kp [] H H' → Q (.ref p) H') : rSlV K (.ref a) lo hi H Q := by
  by_cases w : HT.sIx xs.length 0 lo = 0 ∧ HT.sIx xs.length xs.length hi = xs.length
  · refine .inr ⟨a, xs, rfl, SqT.of e, w, h a H ?_ (Kp.refl [] H)⟩
    have : cutV xs lo hi = xs := by
      unfold cutV
      rw [w.1, w.2, List.drop_zero]
      exact List.take_of_length_le (by omega)
    rw [this]; exact e
  · exact .inl (rSlU.tup e w fun p hp => h p _ upd_same ((Kp.refl [] H).new hp))
end
end L2
set_option Elab.async false
set_option linter.all false
set_option maxRecDepth 100000
set_option maxHeartbeats 4000000
namespace L2
open PySem PySem.Spec PyProof.Rows
structure ZA (z TI TO i1 i2 : Addr) (f1 f2 : List Addr) : Prop where
  TIz : TI ≠ z
  TOz : TO ≠ z
  i1z : i1 ≠ z
  i2z : i2 ≠ z
  TITO : TI ≠ TO
  TIi1 : TI ≠ i1
  TIi2 : TI ≠ i2
  TOi1 : TO ≠ i1
  TOi2 : TO ≠ i2
  i12 : i1 ≠ i2
  zf1 : z ∉ f1
  zf2 : z ∉ f2
  Tf1 : TO ∉ f1
  Tf2 : TO ∉ f2
  jf2 : i1 ∉ f2
  jf1 : i2 ∉ f1
section
variable {prog : Program} {w : World} {A : Around} {E : Value → Shared → Prop} {s : Shared} {i1 i2 : Addr} {f1 f2 : List Addr} {n1 n2 : Nat} {P1 P2 : Nat → Value → Prop} {S1 S2 : Nat → Heap → Prop}
theorem dr_but {it : Addr} {fp : List Addr} {n : Nat} {P : Nat → Value → Prop} {St : Nat → Heap → Prop} (D : Draws prog w A it fp n P St) {i : Nat} {h h' : Heap} {c : Addr} (st : St i h) (hs : Heap.SameBut c h h') (hc : c ∉ fp) : St i h' :=
  D.frame i h h' st fun b hb o e => hs.extBut b o (fun x => hc (x ▸ hb)) e
theorem zipD_item {z TI TO : Addr} {k : Nat} {a b : Value} {Q : Value → Shared → Prop} (D1 : Draws prog w A i1 f1 n1 P1 S1) (D2 : Draws prog w A i2 f2 n2 P2 S2) (D : ZA z TI TO i1 i2 f1 f2)
    (hz : IsZip s.heap z TI TO .none) (hTI : IsPair s.heap TI (.ref i1) (.ref i2)) (hTO : IsPair s.heap TO a b) (h1 : S1 k s.heap) (h2 : S2 k s.heap) (l1 : k < n1) (l2 : k < n2)
    (hQ : ∀ x y h' tk, P1 k x → P2 k y → IsZip h' z TI TO (rawInt s.heap.objs.size) → IsPair h' TO x y → S1 (k + 1) h' → S2 (k + 1) h' → IsPair h' s.heap.objs.size x y → h'.objs.size = s.heap.objs.size + 1 →
      (∀ c o, c ≠ z → c ≠ TO → c ≠ i1 → c ≠ i2 → s.heap.get? c = some o → h'.get? c = some o) → Q (.ref s.heap.objs.size) { s with heap := h', toks := tk }) :
    wpAny (model prog w) A (Builtin.«zip.__next__» ⟨[.ref z], []⟩) (fun fin s' => ∃ v, fin = .done (.ret v) ∧ Q v s') E s := by
  show wpAny _ _ (field (.ref z) 2 >>= _) _ _ _
  refine wpAny_bind (wpAny_field hz rfl (x := .bool false) rfl ?_)
  show wpAny _ _ (field (.ref z) 3 >>= _) _ _ _
  refine wpAny_bind (wpAny_field hz rfl (x := .ref TI) rfl ?_)
  refine wpAny_bind (wpAny_seqItems hTI rfl ?_)
  show wpAny _ _ (Builtin.SmallTypes.ownedTupleIsFree (.ref z) >>= _) _ _ _
  refine wpAny_bind ?_
  unfold Builtin.SmallTypes.ownedTupleIsFree
  refine wpAny_bind (wpAny_field hz rfl (x := .none) rfl (wpAny_pure ?_))
  simp only [if_true]
  refine wpAny_bind (wpAny_rule ?_)
  refine wpAny_bind (wpAny_field hz rfl (x := .ref TO) rfl ?_)
  refine wpAny_bind (wpAny_setField_rec hz (by simp) fun h₁ hz₁ hs₁ => ?_)
  replace hz₁ : IsZip h₁ z TI TO .ellipsis := hz₁
  refine wpAny_bind ?_
  simp only [List.zipIdx_cons, List.zipIdx_nil, List.forIn_cons, List.forIn_nil]
  refine wpAny_bind (wpAny_bind (wpAny_onRaise ?_))
  show wpAny _ _ (Builtin.SmallTypes.nextOf (.ref i1) >>= _) _ _ _
  refine wpAny_bind (D1.item k _ _ _ l1 (dr_but D1 h1 hs₁ D.zf1) fun x h₂ tk₂ p1 h1₂ hs₂ => wpAny_pure ?_)
  have hTO₂ : IsPair h₂ TO a b := hs₂.extBut _ _ D.TOi1 (hs₁.extBut _ _ D.TOz hTO)
  refine wpAny_bind (wpAny_seqItems hTO₂ rfl ?_)
  refine wpAny_bind (wpAny_updateSeq_pair hTO₂ fun h₃ hTO₃ hs₃ => ?_)
  replace hTO₃ : IsPair h₃ TO x b := hTO₃
  refine wpAny_bind (wpAny_letGo (wpAny_pure ?_))
  refine wpAny_bind (wpAny_bind (wpAny_onRaise ?_))
  show wpAny _ _ (Builtin.SmallTypes.nextOf (.ref i2) >>= _) _ _ _
  refine wpAny_bind (D2.item k _ _ _ l2 (dr_but D2 (dr_but D2 (dr_but D2 h2 hs₁ D.zf2) hs₂ D.jf2) hs₃ D.Tf2) fun y h₄ tk₄ p2 h2₄ hs₄ => wpAny_pure ?_)
  have hTO₄ : IsPair h₄ TO x b := hs₄.extBut _ _ D.TOi2 hTO₃
  refine wpAny_bind (wpAny_seqItems hTO₄ rfl ?_)
  refine wpAny_bind (wpAny_updateSeq_pair hTO₄ fun h₅ hTO₅ hs₅ => ?_)
  replace hTO₅ : IsPair h₅ TO x y := hTO₅
  refine wpAny_bind (wpAny_letGo (wpAny_pure (wpAny_pure ?_)))
  refine wpAny_bind (wpAny_seqItems hTO₅ rfl ?_)
  refine wpAny_bind (wpAny_newTuple ?_)
  have hsz : h₅.objs.size = s.heap.objs.size := by rw [hs₅.1, hs₄.1, hs₃.1, hs₂.1, hs₁.1]
  have hz₅ : IsZip h₅ z TI TO .ellipsis := hs₅.extBut _ _ D.TOz.symm (hs₄.extBut _ _ D.i2z.symm (hs₃.extBut _ _ D.TOz.symm (hs₂.extBut _ _ D.i1z.symm hz₁)))
  have hk₅ : ∀ c o, c ≠ z → c ≠ TO → c ≠ i1 → c ≠ i2 → s.heap.get? c = some o → h₅.get? c = some o := fun c o c1 c2 c3 c4 e =>
    hs₅.extBut _ _ c2 (hs₄.extBut _ _ c4 (hs₃.extBut _ _ c2 (hs₂.extBut _ _ c3 (hs₁.extBut _ _ c1 e))))
  have h1₅ : S1 (k + 1) h₅ := dr_but D1 (dr_but D1 (dr_but D1 h1₂ hs₃ D.Tf1) hs₄ D.jf1) hs₅ D.Tf1
  have h2₅ : S2 (k + 1) h₅ := dr_but D2 h2₄ hs₅ D.Tf2
  have hzlt : z < h₅.objs.size := Heap.lt_size hz₅
  show wpAny _ _ (Builtin.SmallTypes.ownedTupleHandOut (.ref z) (.ref h₅.objs.size) >>= _) _ _ _
  refine wpAny_bind ?_
  unfold Builtin.SmallTypes.ownedTupleHandOut
  have hz₆ : IsZip (h₅.push { cls := .type "tuple", data := .seq #[x, y] }) z TI TO .ellipsis := Heap.get?_push_of_some _ hz₅
  refine wpAny_bind (wpAny_setField_rec hz₆ (by simp) fun h₇ hz₇ hs₇ => ?_)
  replace hz₇ : IsZip h₇ z TI TO (rawInt h₅.objs.size) := hz₇
  refine wpAny_setField_rec hz₇ (by simp) fun h₈ hz₈ hs₈ => ?_
  replace hz₈ : IsZip h₈ z TI TO (rawInt h₅.objs.size) := hz₈
  have up : ∀ c o, c ≠ z → h₅.get? c = some o → h₈.get? c = some o := fun c o c1 e => hs₈.extBut _ _ c1 (hs₇.extBut _ _ c1 (Heap.get?_push_of_some _ e))
  have hT₈ : IsPair h₈ h₅.objs.size x y := hs₈.extBut _ _ (Nat.ne_of_gt hzlt) (hs₇.extBut _ _ (Nat.ne_of_gt hzlt) (Heap.get?_push_size _ rfl))
  have hz8 : h₈.objs.size = h₅.objs.size + 1 := by rw [hs₈.1, hs₇.1, Heap.size_push]
  have h1₈ : S1 (k + 1) h₈ := D1.frame _ _ _ h1₅ fun c hc o e => up c o (fun q => D.zf1 (q ▸ hc)) e
  have h2₈ : S2 (k + 1) h₈ := D2.frame _ _ _ h2₅ fun c hc o e => up c o (fun q => D.zf2 (q ▸ hc)) e
  have hk₈ : ∀ c o, c ≠ z → c ≠ TO → c ≠ i1 → c ≠ i2 → s.heap.get? c = some o → h₈.get? c = some o := fun c o c1 c2 c3 c4 e => up c o c1 (hk₅ c o c1 c2 c3 c4 e)
  rw [hsz] at hz₈ hT₈ hz8
  refine wpAny_pure ⟨_, rfl, ?_⟩
  show Q (.ref h₅.objs.size) _
  rw [hsz]
  exact hQ x y h₈ _ p1 p2 hz₈ (up _ _ D.TOz hTO₅) h1₈ h2₈ hT₈ hz8 hk₈
theorem zipD_end {z TI TO : Addr} {k : Nat} {a b : Value} {Q : Fin → Shared → Prop} (D1 : Draws prog w A i1 f1 n1 P1 S1) (D2 : Draws prog w A i2 f2 n2 P2 S2) (D : ZA z TI TO i1 i2 f1 f2)
    (hz : IsZip s.heap z TI TO .none) (hTI : IsPair s.heap TI (.ref i1) (.ref i2)) (hTO : IsPair s.heap TO a b) (h1 : S1 k s.heap) (h2 : S2 k s.heap) (hend : k = n1 ∨ k < n1 ∧ k = n2)
    (hE : ∀ h' tk e, (∀ c o, c ≠ z → c ≠ TO → c ≠ i1 → c ≠ i2 → s.heap.get? c = some o → h'.get? c = some o) → (∃ o, h'.get? e = some o ∧ o.cls = .type "StopIteration") → E (.ref e) { s with heap := h', toks := tk }) :
    wpAny (model prog w) A (Builtin.«zip.__next__» ⟨[.ref z], []⟩) Q E s := by
  show wpAny _ _ (field (.ref z) 2 >>= _) _ _ _
  refine wpAny_bind (wpAny_field hz rfl (x := .bool false) rfl ?_)
  show wpAny _ _ (field (.ref z) 3 >>= _) _ _ _
  refine wpAny_bind (wpAny_field hz rfl (x := .ref TI) rfl ?_)
  refine wpAny_bind (wpAny_seqItems hTI rfl ?_)
  show wpAny _ _ (Builtin.SmallTypes.ownedTupleIsFree (.ref z) >>= _) _ _ _
  refine wpAny_bind ?_
  unfold Builtin.SmallTypes.ownedTupleIsFree
  refine wpAny_bind (wpAny_field hz rfl (x := .none) rfl (wpAny_pure ?_))
  simp only [if_true]
  refine wpAny_bind (wpAny_rule ?_)
  refine wpAny_bind (wpAny_field hz rfl (x := .ref TO) rfl ?_)
  refine wpAny_bind (wpAny_setField_rec hz (by simp) fun h₁ hz₁ hs₁ => ?_)
  replace hz₁ : IsZip h₁ z TI TO .ellipsis := hz₁
  refine wpAny_bind ?_
  simp only [List.zipIdx_cons, List.zipIdx_nil, List.forIn_cons, List.forIn_nil]
  refine wpAny_bind (wpAny_bind (wpAny_onRaise ?_))
  show wpAny _ _ (Builtin.SmallTypes.nextOf (.ref i1) >>= _) _ _ _
  rcases hend with e | ⟨lt, e⟩
  · subst e
    refine wpAny_bind (D1.done _ _ _ (dr_but D1 h1 hs₁ D.zf1) fun h₂ e hs₂ he => ?_)
    obtain ⟨oe, hoe, hce⟩ := he
    have hz₂ : IsZip h₂ z TI TO .ellipsis := hs₂ _ _ D.i1z.symm hz₁
    have hez : e ≠ z := fun x => by subst x; rw [hz₂] at hoe; cases hoe; simp at hce
    refine wpAny_setField_rec hz₂ (by simp) fun h₃ _ hs₃ => hE h₃ _ e (fun c o c1 _ c3 _ x => hs₃.extBut _ _ c1 (hs₂ _ _ c3 (hs₁.extBut _ _ c1 x))) ⟨oe, hs₃.extBut _ _ hez hoe, hce⟩
  · subst e
    refine wpAny_bind (D1.item k _ _ _ lt (dr_but D1 h1 hs₁ D.zf1) fun x h₂ tk₂ p1 h1₂ hs₂ => wpAny_pure ?_)
    have hTO₂ : IsPair h₂ TO a b := hs₂.extBut _ _ D.TOi1 (hs₁.extBut _ _ D.TOz hTO)
    refine wpAny_bind (wpAny_seqItems hTO₂ rfl ?_)
    refine wpAny_bind (wpAny_updateSeq_pair hTO₂ fun h₃ hTO₃ hs₃ => ?_)
    refine wpAny_bind (wpAny_letGo (wpAny_pure ?_))
    refine wpAny_bind (wpAny_bind (wpAny_onRaise ?_))
    show wpAny _ _ (Builtin.SmallTypes.nextOf (.ref i2) >>= _) _ _ _
    refine wpAny_bind (D2.done _ _ _ (dr_but D2 (dr_but D2 (dr_but D2 h2 hs₁ D.zf2) hs₂ D.jf2) hs₃ D.Tf2) fun h₄ e hs₄ he => ?_)
    obtain ⟨oe, hoe, hce⟩ := he
    have hz₄ : IsZip h₄ z TI TO .ellipsis := hs₄ _ _ D.i2z.symm (hs₃.extBut _ _ D.TOz.symm (hs₂.extBut _ _ D.i1z.symm hz₁))
    have hez : e ≠ z := fun x => by subst x; rw [hz₄] at hoe; cases hoe; simp at hce
    refine wpAny_setField_rec hz₄ (by simp) fun h₅ _ hs₅ => hE h₅ _ e (fun c o c1 c2 c3 c4 x => hs₅.extBut _ _ c1 (hs₄ _ _ c4 (hs₃.extBut _ _ c2 (hs₂.extBut _ _ c3 (hs₁.extBut _ _ c1 x))))) ⟨oe, hs₅.extBut _ _ hez hoe, hce⟩
theorem next_zipD_item {z TI TO : Addr} {k : Nat} {a b : Value} {Q : Option Value → Shared → Prop} (D1 : Draws prog w A.in1 i1 f1 n1 P1 S1) (D2 : Draws prog w A.in1 i2 f2 n2 P2 S2) (D : ZA z TI TO i1 i2 f1 f2)
    (hz : IsZip s.heap z TI TO .none) (hTI : IsPair s.heap TI (.ref i1) (.ref i2)) (hTO : IsPair s.heap TO a b) (h1 : S1 k s.heap) (h2 : S2 k s.heap) (l1 : k < n1) (l2 : k < n2)
    (hQ : ∀ x y h' tk, P1 k x → P2 k y → IsZip h' z TI TO (rawInt s.heap.objs.size) → IsPair h' TO x y → S1 (k + 1) h' → S2 (k + 1) h' → IsPair h' s.heap.objs.size x y → h'.objs.size = s.heap.objs.size + 1 →
      (∀ c o, c ≠ z → c ≠ TO → c ≠ i1 → c ≠ i2 → s.heap.get? c = some o → h'.get? c = some o) → Q (some (.ref s.heap.objs.size)) { s with heap := h', toks := tk }) :
    wpAny (model prog w) A (pyNext (.ref z)) Q E s := by
  have hT : s.TypeIs (.ref z) "zip" := ⟨_, hz, rfl⟩
  unfold pyNext
  exact wpAny_bind (wpAny_attempt (wpAny_callSpecial?_slot (name := Str.ofString "__next__") hT PySem.F.slot_zip_next
    (wpAny_call_entry PySem.F.slot_zip_next hT PySem.F.entry_zip_next
      (zipD_item D1 D2 D hz hTI hTO h1 h2 l1 l2 fun x y h' tk p1 p2 a1 a2 a3 a4 a5 a6 a7 => wpAny_pure (hQ x y h' tk p1 p2 a1 a2 a3 a4 a5 a6 a7)) (PySem.F.args_zip_next_1 _))))
theorem next_zipD_end {z TI TO : Addr} {k : Nat} {a b : Value} {Q : Option Value → Shared → Prop} (D1 : Draws prog w A.in1 i1 f1 n1 P1 S1) (D2 : Draws prog w A.in1 i2 f2 n2 P2 S2) (D : ZA z TI TO i1 i2 f1 f2)
    (hz : IsZip s.heap z TI TO .none) (hTI : IsPair s.heap TI (.ref i1) (.ref i2)) (hTO : IsPair s.heap TO a b) (h1 : S1 k s.heap) (h2 : S2 k s.heap) (hend : k = n1 ∨ k < n1 ∧ k = n2)
    (hQ : ∀ h' tk, (∀ c o, c ≠ z → c ≠ TO → c ≠ i1 → c ≠ i2 → s.heap.get? c = some o → h'.get? c = some o) → Q none { s with heap := h', toks := tk }) : wpAny (model prog w) A (pyNext (.ref z)) Q E s := by
  have hT : s.TypeIs (.ref z) "zip" := ⟨_, hz, rfl⟩
  unfold pyNext
  refine wpAny_bind (wpAny_attempt (wpAny_callSpecial?_slot (name := Str.ofString "__next__") hT PySem.F.slot_zip_next
    (wpAny_call_entry PySem.F.slot_zip_next hT PySem.F.entry_zip_next (zipD_end D1 D2 D hz hTI hTO h1 h2 hend fun h' tk e hk he => ?_) (PySem.F.args_zip_next_1 _))))
  obtain ⟨o, ho, hc⟩ := he
  refine wpAny_bind (wpAny_isInstance (T := "StopIteration") (b := true) ⟨o, ho, hc⟩ isSubtype_stop ?_)
  exact wpAny_pure (hQ _ _ hk)
theorem walks_zipD {z TI TO : Addr} (D1 : Draws prog w A.in1 i1 f1 n1 P1 S1) (D2 : Draws prog w A.in1 i2 f2 n2 P2 S2) (D : ZA z TI TO i1 i2 f1 f2) :
    WalksT prog w A z ([z, TI, TO, i1, i2] ++ f1 ++ f2) [z, TO, i1, i2] (min n1 n2) (fun i vals => ∃ x y, P1 i x ∧ P2 i y ∧ vals = #[x, y])
      (fun i h => IsZip h z TI TO .none ∧ IsPair h TI (.ref i1) (.ref i2) ∧ (∃ a b, IsPair h TO a b) ∧ S1 i h ∧ S2 i h)
      (fun i T h => IsZip h z TI TO (rawInt T) ∧ IsPair h TI (.ref i1) (.ref i2) ∧ (∃ a b, IsPair h TO a b) ∧ S1 (i + 1) h ∧ S2 (i + 1) h ∧ T ≠ z ∧ T ≠ TO ∧ T ≠ i1 ∧ T ≠ i2) where
  sub := fun c hc => by simp at hc ⊢; rcases hc with rfl | rfl | rfl | rfl <;> simp
  frame := fun i h h' hst hk => by
    obtain ⟨hz, hTI, ⟨a, b, hTO⟩, h1, h2⟩ := hst
    exact ⟨hk z (by simp) _ hz, hk TI (by simp) _ hTI, ⟨a, b, hk TO (by simp) _ hTO⟩, D1.frame _ _ _ h1 fun b hb o e => hk b (by simp [hb]) o e, D2.frame _ _ _ h2 fun b hb o e => hk b (by simp [hb]) o e⟩
  item := fun i s Q E hi hst hQ => by
    obtain ⟨hz, hTI, ⟨a, b, hTO⟩, h1, h2⟩ := hst
    refine next_zipD_item D1 D2 D hz hTI hTO h1 h2 (Nat.lt_of_lt_of_le hi (Nat.min_le_left ..)) (Nat.lt_of_lt_of_le hi (Nat.min_le_right ..)) fun x y h' tk p1 p2 a1 a2 a3 a4 a5 a6 hk => ?_
    have lt : ∀ {c o}, s.heap.get? c = some o → s.heap.objs.size ≠ c := fun e => Nat.ne_of_gt (Heap.lt_size e)
    obtain ⟨o1, e1⟩ := D1.live _ _ h1
    obtain ⟨o2, e2⟩ := D2.live _ _ h2
    exact hQ s.heap.objs.size #[x, y] h' tk ⟨x, y, p1, p2, rfl⟩ (Nat.le_refl _) ⟨_, a5, rfl, _, rfl⟩
      ⟨a1, hk _ _ D.TIz D.TITO D.TIi1 D.TIi2 hTI, ⟨_, _, a2⟩, a3, a4, lt hz, lt hTO, lt e1, lt e2⟩
      fun c o hc e => hk c o (fun x => hc (by simp [x])) (fun x => hc (by simp [x])) (fun x => hc (by simp [x])) (fun x => hc (by simp [x])) e
  go := fun elts k pos i T s Q E hm hQ => by
    obtain ⟨hz, hTI, ⟨a, b, hTO⟩, h1, h2, _⟩ := hm
    refine wpAny_letOwnedTupleGo_zip hz fun h' hz' hs' => hQ h' ⟨hz', hs'.extBut _ _ D.TIz hTI, ⟨a, b, hs'.extBut _ _ D.TOz hTO⟩, dr_but D1 h1 hs' D.zf1, dr_but D2 h2 hs' D.zf2⟩ fun c o hc e => hs'.extBut _ _ (fun x => hc (by simp [x])) e
  apart := fun i T h hm hT => by
    obtain ⟨_, _, _, _, _, t1, t2, t3, t4⟩ := hm
    simp at hT
    rcases hT with rfl | rfl | rfl | rfl
    · exact t1 rfl
    · exact t2 rfl
    · exact t3 rfl
    · exact t4 rfl
  done := fun s Q E hst hQ => by
    obtain ⟨hz, hTI, ⟨a, b, hTO⟩, h1, h2⟩ := hst
    exact next_zipD_end D1 D2 D hz hTI hTO h1 h2 (by omega) fun h' tk hk => hQ h' tk fun c o hc e =>
      hk c o (fun x => hc (by simp [x])) (fun x => hc (by simp [x])) (fun x => hc (by simp [x])) (fun x => hc (by simp [x])) e
  self := fun i s Q E hst hQ => wpAny_pyIter_zip hst.1 hQ
end
section
variable {X : Cx}
end
end L2
set_option Elab.async false
set_option linter.all false
set_option maxRecDepth 100000
set_option maxHeartbeats 4000000
namespace L2
open PySem PySem.Spec PyProof.Rows
section
variable {X : Cx}
def rMulS : R2 := fun x y H Q => match x, y with
  | .str z, .int n => 2 ≤ n ∧ z.length ≠ 0 ∧ (z.length : Int) * n ≤ 1000000 ∧ Str.length ⟨(List.replicate n.toNat z.cps).foldl (· ++ ·) #[]⟩ ≤ sizeLine ∧ Q (.str ⟨(List.replicate n.toNat z.cps).foldl (· ++ ·) #[]⟩) H
  | _, _ => False
theorem rMulS_str (z : Str) (n : Int) (H : Hp) (Q : VK) : rMulS (.str z) (.int n) H Q = (2 ≤ n ∧ z.length ≠ 0 ∧ (z.length : Int) * n ≤ 1000000 ∧ Str.length ⟨(List.replicate n.toNat z.cps).foldl (· ++ ·) #[]⟩ ≤ sizeLine ∧ Q (.str ⟨(List.replicate n.toNat z.cps).foldl (· ++ ·) #[]⟩) H) := rfl
theorem op_mulS : OpR X (binaryOp .Mult) rMulS := by
  intro pins s σ H x y v u Q I rx ry h
  unfold rMulS at h
  split at h
  · rename_i z n
    obtain ⟨h1, h2, h3, h5, q⟩ := h
    obtain ⟨t, rfl⟩ := rx
    obtain ⟨t', rfl⟩ := ry
    have hn : (n == 1 || z.length == 0) = false := by simp; omega
    have hle : n ≤ 1000000 := by
      have : (1 : Int) ≤ z.length := by omega
      have := Int.mul_le_mul_of_nonneg_right this (show 0 ≤ n by omega)
      omega
    refine PySem.P.mul_str (by simp; omega) (fun _ _ => ?_) (fun _ _ => ?_) ?_
    · have : (9 : Int) * 1000000 ≤ (2 ^ 63 - 1) / n := by
        refine (Int.le_ediv_iff_mul_le (by omega)).mpr ?_
        have := Int.mul_le_mul_of_nonneg_left hle (show (0 : Int) ≤ 9 * 1000000 by omega)
        omega
      have h4 : (z.length : Int) ≤ 1000000 := by
        have := Int.mul_le_mul_of_nonneg_left (show (1 : Int) ≤ n by omega) (show (0 : Int) ≤ z.length by omega)
        omega
      omega
    · unfold Builtin.Str.tooLong
      have : z.length * n.toNat ≤ 1000000 := by
        have e : ((z.length * n.toNat : Nat) : Int) = z.length * n := by rw [Int.natCast_mul, Int.toNat_of_nonneg (by omega)]
        omega
      have hz : 1000000 ≤ sizeLine := by decide
      simp
      omega
    · rw [if_neg (by omega), if_neg (by rw [hn]; decide)]
      exact ⟨h5, .str _, H, I.tok _, ⟨_, rfl⟩, q⟩
  · exact h.elim
end
end L2
set_option Elab.async false
set_option linter.all false
set_option maxRecDepth 100000
set_option maxHeartbeats 4000000
namespace HT
open PySem PyProof.Rows
section
open PySem.SeqAt
open PySem.AutoSeq1 (wpAny_loadPart')
open PySem.MeetsSeq PySem.MeetsSeq2 PySem.MeetsSeq3
end
section
variable {prog : Program} {w : World} {A : Around} {E : Value → Shared → Prop} {s : Shared}
end
end HT
namespace L2
open PySem PySem.Spec PyProof.Rows
section
variable {X : Cx}
end
end L2
set_option Elab.async false
set_option linter.all false
set_option maxRecDepth 100000
set_option maxHeartbeats 4000000
namespace L2
open PySem PySem.Spec PyProof.Rows
section
variable {prog : Program} {w : World} {A : Around} {R : Result → Shared → Prop} {I : Addr} {fp wr : List Addr} {G : Array GenState → Array GenState → Prop} {n : Nat} {P : Nat → Value → Prop} {St : Nat → Shared → Prop}
end
section
variable {prog : Program} {w : World} {A : Around} {E : Value → Shared → Prop} {s : Shared}
end
section
variable {X : Cx}
end
end L2
set_option Elab.async false
set_option linter.all false
set_option maxRecDepth 100000
set_option maxHeartbeats 4000000
namespace L2
open PySem PySem.Spec PyProof.Rows
section
variable {prog : Program} {w : World} {A : Around} {E : Value → Shared → Prop} {h : Heap} {g : Array GenState} {d : Drawn} {t : Nat} {os : OsState}
variable {nm q : Str} {C N : Addr} {bs bm bmB : List Value} {hdct : Bool} {sn : List Str} {sub : List Value} {ab : Bool} {col : Option Bool} {dd : Option Addr} {k0 k1 k2 k3 k5 : Option Value} {B newId initId : String}
theorem exc_initT (F : ExcBaseFacts B newId initId bmB) (T : OwnTail h bmB bm) {mN : Str → Option Value} {rest : List Value} {fI : Addr} {oI : Obj} {Q : Fin → Shared → Prop}
    (hC : h.get? C = some (excClassObj nm q C N bs bm hdct sn sub ab col dd k0 k1 k2 k3 k5 newId)) (hn : h.Ns N mN) (hi : mN "__init__" = some (.ref fI)) (hfI : h.get? fI = some oI) (hfc : oI.cls = .type "function")
    (hq : wpAny (model prog w) A (call (.ref fI) (.ref (h.objs.size + 1) :: rest)) (fun r s' => r = .none ∧ Q (.done (.ret (.ref (h.objs.size + 1)))) s') E
      ⟨(h.push { cls := .type "tuple", data := .seq rest.toArray }).push { cls := .ref C, data := .fields #[.ref h.objs.size, .none, .none, .none, .bool false, .none] }, g, d, t, os⟩) (hrest : rest.length ≤ sizeLine) :
    wpAny (model prog w) A (Builtin.«type.__call__» ⟨.ref C :: rest, []⟩) Q E ⟨h, g, d, t, os⟩ := by
  repeat (first | with_reducible refine wpAny_loadPart_at hC ?_ | with_reducible refine wpAny_madeBy_exc hC ?_ | wp_step)
  refine codeAny_call_builtin_code (Code.quiet_builtin _ F.quiet) (wpAny_check_new_subT F T hC ?_)
  refine codeAny_exc_new_subT F T hC ?_ hrest
  show wpAny _ _ _ _ _ _
  have kp : ∀ b o, h.get? b = some o → ((h.push { cls := .type "tuple", data := .seq rest.toArray }).push { cls := .ref C, data := .fields #[.ref h.objs.size, .none, .none, .none, .bool false, .none] }).get? b = some o := fun b o e => Heap.get?_push_of_some _ (Heap.get?_push_of_some _ e)
  have hget : ((h.push { cls := .type "tuple", data := .seq rest.toArray }).push
      { cls := .ref C, data := .fields #[.ref h.objs.size, .none, .none, .none, .bool false, .none] }).get? (h.objs.size + 1) = some
      { cls := .ref C, data := .fields #[.ref h.objs.size, .none, .none, .none, .bool false, .none] } := by heap_get
  have hcC : (Value.ref C :: bm).contains (.ref C) = true := by simp
  unfold isInstance
  repeat (first | with_reducible refine wpAny_loadPart_at hget ?_ | (with_reducible refine wpAny_isSubtype_exc (kp _ _ hC) ?_; rw [hcC]) | wp_step)
  show wpAny _ _ (typeLookup (.ref C) _) _ _ _
  refine wpAny_typeLookup_tail (kp _ _ hC) (hn.keeps kp) (T.keeps kp) F.mroIs F.init.lookup ?_
  rw [hi]
  refine wpAny_holding (wpAny_bind ?_)
  unfold bindSpecial
  refine wpAny_bind (wpAny_typeOf (T := "function") ⟨_, kp _ _ hfI, hfc⟩ ?_)
  rw [if_pos (by decide)]
  refine wpAny_pure (wpAny_bind (wpAny_mono hq (fun r s' hr => ?_) fun _ _ x => x))
  obtain ⟨rfl, hQ⟩ := hr
  wp_walk
  exact hQ
theorem call_exc_initT (F : ExcBaseFacts B newId initId bmB) (T : OwnTail h bmB bm) {mN : Str → Option Value} {rest : List Value} {fI : Addr} {oI : Obj} {Q : Value → Shared → Prop}
    (hC : h.get? C = some (excClassObj nm q C N bs bm hdct sn sub ab col dd k0 k1 k2 k3 k5 newId)) (hn : h.Ns N mN) (hi : mN "__init__" = some (.ref fI)) (hfI : h.get? fI = some oI) (hfc : oI.cls = .type "function")
    (hq : wpAny (model prog w) (A.under (.builtin "type.__call__" ⟨.ref C :: rest, []⟩)) (call (.ref fI) (.ref (h.objs.size + 1) :: rest)) (fun r s' => r = .none ∧ Q (.ref (h.objs.size + 1)) s') E
      ⟨(h.push { cls := .type "tuple", data := .seq rest.toArray }).push { cls := .ref C, data := .fields #[.ref h.objs.size, .none, .none, .none, .bool false, .none] }, g, d, t, os⟩) (hrest : rest.length ≤ sizeLine) :
    wpAny (model prog w) A (call (.ref C) rest) Q E ⟨h, g, d, t, os⟩ := by
  have f1 := tc_lookup
  have f2 := tc_bind (.ref C)
  have hT : (⟨h, g, d, t, os⟩ : Shared).TypeIs (.ref C) "type" := ⟨_, hC, rfl⟩
  refine wpAny_call (codeAny_of_tree ?_)
  show wpAny _ _ (callAny (.ref C) _) _ _ _
  repeat (any_goals (first | assumption | with_reducible refine wpAny_loadPart_at hC ?_ | wp_step))
  refine ⟨rfl, ?_⟩
  exact codeAny_call_builtin_at (Code.quiet_builtin _ (by decide +kernel)) entry_typeCall (wpAny_check_type_call_sub hC (exc_initT F T hC hn hi hfI hfc hq hrest))
end
end L2
set_option Elab.async false
set_option linter.all false
set_option maxRecDepth 100000
set_option maxHeartbeats 4000000
namespace L2
open PySem PySem.Spec PyProof.Rows
open Builtin Builtin.ObjectAttr
section
variable {prog : Program} {w : World} {A : Around} {E : Value → Shared → Prop} {h : Heap} {g : Array GenState} {d : Drawn} {t : Nat} {os : OsState}
variable {nm q : Str} {C D N x : Addr} {bs bmB : List Value} {sn : List Str} {sub : List Value} {ab : Bool} {col : Option Bool} {dd : Option Addr} {k0 k1 k2 k3 k5 : Option Value} {newId name : Str} {nid sa owner B : String} {v : Value}
def Finds (M : Model) (h : Heap) (C : Addr) (name : Str) (r : Option Value) : Prop := ∀ (A : Around) (E : Value → Shared → Prop) (g : Array GenState) (d : Drawn) (t : Nat) (os : OsState) (Q : Option Value → Shared → Prop), Q r ⟨h, g, d, t, os⟩ → wpAny M A (typeLookup (.ref C) name) Q E ⟨h, g, d, t, os⟩
theorem Finds.go {M : Model} {r : Option Value} {Q : Option Value → Shared → Prop} (f : Finds M h C name r) (q : Q r ⟨h, g, d, t, os⟩) : wpAny M A (typeLookup (.ref C) name) Q E ⟨h, g, d, t, os⟩ := f _ _ _ _ _ _ _ q
theorem Finds.of {M : Model} {K : PySem.W.Frag} {r : Option Value} (X : K.In h) (e : PySem.W.findIn K (.ref C) name = some r) : Finds M h C name r := fun A E g d t os Q q => (PySem.W.looks_findIn X e).at q
theorem exc_store {tk : Tok} {o : Obj} {Q : Fin → Shared → Prop} (SF : StoreFacts B bmB sa owner) (hC : h.get? C = some (excClassObj nm q C N bs (.ref D :: bmB) true sn sub ab col dd k0 k1 k2 k3 k5 nid))
    (hl : Finds (model prog w) h C name none) (hx : h.get? x = some o) (hc : o.cls = .ref C) (hnc : ∀ c, o.data ≠ .cls c) (hdn : o.dict = none)
    (hq : ∀ h' tk', h'.get? x = some { o with dict := some h.objs.size } → h'.Ns1 h.objs.size (fun y => if y = name then some v else none) → (∀ b u, b ≠ x → h.get? b = some u → h'.get? b = some u) → Q (.done (.ret .none)) ⟨h', g, d, tk', os⟩) :
    wpAny (model prog w) A (Builtin.«object.__setattr__» ⟨[.ref x, .str name tk, v], []⟩) Q E ⟨h, g, d, t, os⟩ := by
  have hpass := SF.passes (.ref x)
  unfold Builtin.«object.__setattr__»
  repeat (first | rw [refuse_eq] | (rw [refuseLoop_ref, refuseLoop_ref, hpass]) | (with_reducible refine wpAny_loadPart_at hx ?_; rw [hc]) | with_reducible refine wpAny_mroOf_exc hC ?_ | (with_reducible refine Finds.go hl ?_) | wp_step)
  rw [hdn, if_neg (by simp [typeHasDict])]
  split
  · rename_i hcd
    cases hcd
  split
  · rename_i c hcd
    exact absurd hcd (hnc c)
  · have hx₁ : (h.push { cls := .type "dict", data := .dict #[] }).get? x = some o := Heap.get?_push_of_some _ hx
    have hxs : x ≠ h.objs.size := Nat.ne_of_lt (Heap.lt_size hx)
    refine wpAny_bind (wpAny_alloc' ?_)
    refine wpAny_bind (wpAny_update' hx₁ ?_)
    refine wpAny_pure ?_
    have hgd : ((h.push { cls := .type "dict", data := .dict #[] }).update x fun o => { cls := o.cls, dict := some h.objs.size, data := o.data, slots := o.slots }).get? h.objs.size
        = some { cls := .type "dict", data := .dict #[] } :=
      (Heap.get?_update_ne _ _ _ _ hxs.symm).trans (Heap.get?_push_at rfl rfl)
    have hnd : ((h.push { cls := .type "dict", data := .dict #[] }).update x fun o => { cls := o.cls, dict := some h.objs.size, data := o.data, slots := o.slots }).Ns h.objs.size (fun _ => none) :=
      ⟨_, #[], _, hgd, rfl, fun e he => absurd he (by simp), fun _ => rfl⟩
    show wpAny _ _ (storeInDict h.objs.size (.str name tk) name v) _ _ _
    unfold storeInDict newKeyGuard
    refine wpAny_bind (wpAny_pure (wpAny_bind (wpAny_nsSet1 (Heap.Ns1.of_empty hnd) fun h' hn' hs => ?_)))
    obtain ⟨oD, esD, epD, hoD, hdD, hcD⟩ := hn'.count (Within.cons name v Within.nil)
    refine wpAny_bind (wpAny_lookBehind hoD (by rw [hdD]; exact pastItsLine_dict (Nat.le_trans hcD (by rw [List.length_cons, List.length_nil, sizeLine_eq]; omega))) ?_)
    wp_walk
    refine hq h' _ ?_ hn' fun b ob hbx hb => ?_
    · refine (hs.2 x hxs).trans (Heap.get?_update_self _ hx₁ ?_)
      have hfr := (Heap.get?_some_iff.mp hx).2
      obtain ⟨oc, od, odt, osl⟩ := o
      cases odt <;> first | rfl | exact hfr
    · exact (hs.2 b (Nat.ne_of_lt (Heap.lt_size hb))).trans ((Heap.get?_update_ne _ _ _ _ hbx).trans (Heap.get?_push_of_some _ hb))
theorem exc_check_sa {M : Model} {o : Obj} {nameV : Value} {Q : Unit → Shared → Prop} (SF : StoreFacts B bmB sa owner)
    (hC : h.get? C = some (excClassObj nm q C N bs (.ref D :: bmB) true sn sub ab col dd k0 k1 k2 k3 k5 nid)) (hx : h.get? x = some o) (hc : o.cls = .ref C) (hq : Q () ⟨h, g, d, t, os⟩) :
    wpAny M A (checkBuiltinCall sa ⟨[.ref x, nameV, v], []⟩) Q E ⟨h, g, d, t, os⟩ := by
  have hcB : (Value.ref C :: .ref D :: bmB).contains (.type owner) = true := by rw [List.contains_cons, List.contains_cons, SF.hasOwner, Bool.or_true, Bool.or_true]
  have ha := SF.args (.ref x) nameV v
  simp only [checkBuiltinCall, SF.kind, SF.split]
  refine wpAny_bind ?_
  · unfold isInstance
    repeat (first | (with_reducible refine wpAny_loadPart_at hx ?_; rw [hc]) | (with_reducible refine wpAny_isSubtype_exc hC ?_; rw [hcB]) | wp_step)
    cases hsig : Manifest.signature? sa with
    | none => exact wpAny_pure hq
    | some sig =>
      simp only [argsOk, hsig] at ha
      have h2 : Bind.checkArgs sa sig ⟨[.ref x, nameV, v], []⟩ = pure () := ha
      show wpAny M A (Bind.checkArgs sa sig ⟨[.ref x, nameV, v], []⟩) Q E _
      rw [h2]; exact wpAny_pure hq
theorem exc_setAttr {o : Obj} {Q : Unit → Shared → Prop} (SF : StoreFacts B bmB sa owner) (hC : h.get? C = some (excClassObj nm q C N bs (.ref D :: bmB) true sn sub ab col dd k0 k1 k2 k3 k5 nid))
    (hs : Finds (model prog w) h C "__setattr__" (some (.builtin sa))) (hl : Finds (model prog w) h C name none) (hx : h.get? x = some o) (hc : o.cls = .ref C) (hnc : ∀ c, o.data ≠ .cls c) (hdn : o.dict = none)
    (hq : ∀ h' tk', h'.get? x = some { o with dict := some h.objs.size } → h'.Ns1 h.objs.size (fun y => if y = name then some v else none) → (∀ b u, b ≠ x → h.get? b = some u → h'.get? b = some u) → Q () ⟨h', g, d, tk', os⟩) :
    wpAny (model prog w) A (setAttr (.ref x) name v) Q E ⟨h, g, d, t, os⟩ := by
  have f3 := SF.slot.bind (.ref x)
  unfold setAttr callSpecial? specialOf
  repeat (any_goals (first | assumption | (with_reducible refine wpAny_loadPart_at hx ?_; rw [hc]) | (with_reducible refine Finds.go hs ?_) | wp_step))
  refine codeAny_call_builtin SF.slot.plain SF.entry (exc_check_sa SF hC hx hc (exc_store SF hC hl hx hc hnc hdn fun h' tk' a1 a2 a3 => ?_))
  repeat (any_goals (first | assumption | wp_step))
  exact hq h' tk' a1 a2 a3
end
end L2
set_option Elab.async false
set_option linter.all false
set_option maxRecDepth 100000
set_option maxHeartbeats 4000000
namespace L2
open PySem PySem.Spec PyProof.Rows
open Builtin Builtin.ObjectAttr
section
variable {prog : Program} {w : World} {A : Around} {E : Value → Shared → Prop} {h : Heap} {g : Array GenState} {d : Drawn} {t : Nat} {os : OsState}
variable {nm q : Str} {C D N x dx : Addr} {bs bmB : List Value} {sn : List Str} {sub : List Value} {ab : Bool} {col : Option Bool} {dd : Option Addr} {k0 k1 k2 k3 k5 : Option Value} {name : Str} {nid B : String} {v : Value} {mA : Str → Option Value}
theorem exc_load_entry {tk : Tok} {o : Obj} {Q : Fin → Shared → Prop} (hC : h.get? C = some (excClassObj nm q C N bs (.ref D :: bmB) true sn sub ab col dd k0 k1 k2 k3 k5 nid))
    (hl : Finds (model prog w) h C name none) (hx : h.get? x = some o) (hc : o.cls = .ref C) (hnc : ∀ c, o.data ≠ .cls c) (hdx : o.dict = some dx) (hns : h.Ns1 dx mA) (hv : mA name = some v) (hq : Q (.done (.ret v)) ⟨h, g, d, t, os⟩) :
    wpAny (model prog w) A (Builtin.«object.__getattribute__» ⟨[.ref x, .str name tk], []⟩) Q E ⟨h, g, d, t, os⟩ := by
  unfold Builtin.«object.__getattribute__»
  repeat (first | (with_reducible refine wpAny_loadPart_at hx ?_; rw [hc]) | (with_reducible refine Finds.go hl ?_) | wp_step)
  split
  · rename_i c hcd
    exact absurd hcd (hnc c)
  unfold instanceDict
  repeat (first | (with_reducible refine wpAny_loadPart_at hx ?_; rw [hc]) | with_reducible refine wpAny_loadPart_at hC ?_ | wp_step)
  rw [hdx]
  repeat (first | (with_reducible refine wpAny_nsGet hns.ns ?_; rw [hv]) | wp_step)
  exact hq
theorem exc_check_ga {M : Model} {o : Obj} {nameV : Value} {Q : Unit → Shared → Prop} (hB : bmB.contains (.type "BaseException") = true) (hC : h.get? C = some (excClassObj nm q C N bs (.ref D :: bmB) true sn sub ab col dd k0 k1 k2 k3 k5 nid))
    (hx : h.get? x = some o) (hc : o.cls = .ref C) (hq : Q () ⟨h, g, d, t, os⟩) : wpAny M A (checkBuiltinCall "BaseException.__getattribute__" ⟨[.ref x, nameV], []⟩) Q E ⟨h, g, d, t, os⟩ := by
  have hk : builtinKind "BaseException.__getattribute__" = some .slot := by decide +kernel
  have hsplit : splitId "BaseException.__getattribute__" = some ("BaseException", "__getattribute__") := by decide +kernel
  have hcB : (Value.ref C :: .ref D :: bmB).contains (.type "BaseException") = true := by rw [List.contains_cons, List.contains_cons, hB, Bool.or_true, Bool.or_true]
  have ha := PySem.F.args_bexc_ga (.ref x) nameV
  simp only [checkBuiltinCall, hk, hsplit]
  refine wpAny_bind ?_
  · unfold isInstance
    repeat (first | (with_reducible refine wpAny_loadPart_at hx ?_; rw [hc]) | (with_reducible refine wpAny_isSubtype_exc hC ?_; rw [hcB]) | wp_step)
    exact hq
theorem exc_getAttr {o : Obj} {expr : Bool} {Q : Value → Shared → Prop} (hB : bmB.contains (.type "BaseException") = true) (hC : h.get? C = some (excClassObj nm q C N bs (.ref D :: bmB) true sn sub ab col dd k0 k1 k2 k3 k5 nid))
    (hg : Finds (model prog w) h C "__getattribute__" (some (.builtin "BaseException.__getattribute__"))) (hh : Finds (model prog w) h C "__getattr__" none)
    (hl : Finds (model prog w) h C name none) (hx : h.get? x = some o) (hc : o.cls = .ref C) (hnc : ∀ c, o.data ≠ .cls c) (hdx : o.dict = some dx) (hns : h.Ns1 dx mA) (hv : mA name = some v) (ho : handedOut v = pure v)
    (hq : ∀ tk, Q v ⟨h, g, d, tk, os⟩) : wpAny (model prog w) A (getAttr (.ref x) name expr) Q E ⟨h, g, d, t, os⟩ := by
  have f3 := PySem.F.attrBase_ValueError.ga.bind (.ref x)
  have hx0 : (expr && onTheHeap (Value.builtin "BaseException.__getattribute__")) = false := by cases expr <;> rfl
  have hx2 : (Value.builtin "BaseException.__getattribute__" == Value.builtin "object.__getattribute__") = false := by decide +kernel
  have hx1 : (onTheHeap (Value.ref C) && Value.builtin "BaseException.__getattribute__" == Value.builtin "object.__getattribute__") = false := by rw [hx2]; rfl
  unfold getAttr getAttrBy
  repeat (any_goals (first | assumption | (with_reducible refine wpAny_loadPart_at hx ?_; rw [hc]) | (with_reducible refine Finds.go hg ?_) | (with_reducible refine Finds.go hh ?_) | wp_step))
  refine codeAny_call_builtin PySem.F.attrBase_ValueError.ga.plain PySem.F.entry_bexc_ga (exc_check_ga hB hC hx hc (exc_load_entry hC hl hx hc hnc hdx hns hv ?_))
  show wpAny _ _ (handedOut v) _ _ _
  rw [ho]
  exact wpAny_pure (hq _)
end
end L2
set_option Elab.async false
set_option linter.all false
set_option maxRecDepth 100000
set_option maxHeartbeats 4000000
namespace L2
open PySem PySem.Spec PyProof.Rows
section
variable {prog : Program} {w : World} {A : Around} {E : Value → Shared → Prop} {h : Heap} {g : Array GenState} {d : Drawn} {t : Nat} {os : OsState}
variable {nm q : Str} {C N : Addr} {bs bm bmB : List Value} {hdct : Bool} {sn : List Str} {sub : List Value} {ab : Bool} {col : Option Bool} {dd : Option Addr} {k0 k1 k2 k3 k5 : Option Value} {B newId initId : String}
theorem call_exc_init (F : ExcBaseFacts B newId initId bmB) (T : OwnTail h bmB bm) {rest : List Value} {e : Addr} {oe : Obj} {vs : Array Value} {Q : Value → Shared → Prop}
    (hC : h.get? C = some (excClassObj nm q C N bs bm hdct sn sub ab col dd k0 k1 k2 k3 k5 newId)) (he : h.get? e = some oe) (hcls : oe.cls = .ref C) (hd : oe.data = .fields vs) (hs : 0 < vs.size)
    (hq : ∀ h', (∀ b o, b ≠ e → h.get? b = some o → h'.get? b = some o) → h'.get? e = some { oe with data := .fields (vs.setIfInBounds 0 (.ref h.objs.size)) } → Q .none ⟨h', g, d, t, os⟩) (hrest : rest.length ≤ sizeLine) :
    wpAny (model prog w) A (call (.builtin initId) (.ref e :: rest)) Q E ⟨h, g, d, t, os⟩ := by
  refine wpAny_call (codeAny_call_builtin F.init.plain F.initEntry (wpAny_check_init_subT F T hC he hcls ?_))
  have h0 : vs[0]? = some vs[0] := by simp [hs]
  have he1 : (h.push { cls := .type "tuple", data := .seq rest.toArray }).get? e = some oe := Heap.get?_push_of_some _ he
  show wpAny _ _ (newTuple rest >>= fun v => Builtin.BaseException.bexcPut (.ref e) 0 v >>= fun _ => ret .none) _ _ _
  refine wpAny_bind (wpAny_newTuple ?_)
  show wpAny _ _ (Builtin.BaseException.bexcPut (.ref e) 0 (.ref h.objs.size) >>= fun _ => ret .none) _ _ _
  refine wpAny_bind ?_
  unfold Builtin.BaseException.bexcPut
  refine wpAny_bind (wpAny_field he1 hd h0 (wpAny_bind (wpAny_setField he1 hd hs ?_)))
  have hd3 := Obj.data_mapFields hd (·.setIfInBounds 0 (Value.ref h.objs.size))
  have he3 := Heap.get?_update_self (Obj.mapFields (·.setIfInBounds 0 (Value.ref h.objs.size))) he1 (Obj.isFreed_of_fields hd3)
  have fin : wpAny (model prog w) A.in1 (ret Value.none) (fun fin s' => match fin with
      | .done f => (match (Except.ok f : Result) with | .ok (.ret v) => Q v s' | .ok a => False | .error e => E e s')
      | .again c' => c'.quiet = true ∧ codeAny (model prog w) A c' (fun r s' => match r with | .ok (.ret v) => Q v s' | .ok a => False | .error e => E e s') s') (fun e s' => E e s')
      { heap := (h.push { cls := .type "tuple", data := .seq rest.toArray }).update e (Obj.mapFields (·.setIfInBounds 0 (Value.ref h.objs.size))), gens := g, drawn := d, toks := t, os := os } := by
    refine wpAny_pure (hq _ (fun b o hb ho => ?_) ?_)
    · rw [Heap.get?_update_other _ _ (Ne.symm hb)]
      exact Heap.get?_push_of_some _ ho
    · rw [he3]
      obtain ⟨oc, od, odt, osl⟩ := oe
      dsimp only at hd
      subst hd
      rfl
  split
  · exact wpAny_letGo fin
  · exact wpAny_pure fin
end
end L2
set_option Elab.async false
set_option linter.all false
set_option maxRecDepth 100000
set_option maxHeartbeats 4000000
namespace L2
open PySem PySem.Spec PyProof.Rows
abbrev bmVE : List Value := [.type "ValueError", .type "Exception", .type "BaseException", .type "object"]
def excφ (a C : Addr) (dx : Option Addr) (h : Heap) : Prop := ∃ t, h.get? a = some { cls := .ref C, dict := dx, data := .fields #[.ref t, .none, .none, .none, .bool false, .none] }
def ExO (a C : Addr) (dx : Option Addr) : HO := .ext (excφ a C dx)
theorem exO_ok {P : Program} {w : World} {H : Hp} {h : Heap} {a C : Addr} {dx : Option Addr} {t : Addr} (e : h.get? a = some { cls := .ref C, dict := dx, data := .fields #[.ref t, .none, .none, .none, .bool false, .none] }) : ObjOk P w H h a (ExO a C dx) :=
  ⟨⟨t, e⟩, ⟨_, e⟩, fun h1 h2 ⟨t', e1⟩ k => ⟨t', k _ e1⟩⟩
structure XC (K : PySem.W.Frag) (C D N : Addr) : Prop where
  sh : ∃ nm q bs sn sub ab col dd k0 k1 k2 k3 k5, K.lookup C = some (excClassObj nm q C N bs (.ref D :: bmVE) true sn sub ab col dd k0 k1 k2 k3 k5 "ValueError.__new__")
  tl : PySem.W.tailIn K bmVE (.ref D :: bmVE) = true
  ns : PySem.W.nsOkIn K N = true
  sa : PySem.W.findIn K (.ref C) "__setattr__" = some (some (.builtin "object.__setattr__"))
  ga : PySem.W.findIn K (.ref C) "__getattribute__" = some (some (.builtin "BaseException.__getattribute__"))
  gx : PySem.W.findIn K (.ref C) "__getattr__" = some none
  kp : PySem.W.keepIn K (.ref C) = true
theorem ns_some {K : PySem.W.Frag} {h : Heap} {N : Addr} {mg : Str → Option Value} {n : Str} {v : Value} (X : K.In h) (G : h.Ns N mg) (e : PySem.W.nsIn K N n = some (some v)) : mg n = some v := by
  obtain ⟨o, es, ep, ho, hd, _, hf⟩ := G
  unfold PySem.W.nsIn at e
  split at e
  · rename_i c d es' n' sl q
    have := X _ _ q
    rw [ho] at this
    cases this
    cases hd
    split at e
    · rename_i en he
      rw [← hf]
      unfold nsFind findBy
      rw [← Array.find?_toList, he]
      simpa using e
    · split at e <;> cases e
  · cases e
section
variable {X : Cx} {pins : List (Addr × Obj)} {σ : St} {H : Hp} {s : Shared} {C D N : Addr}
theorem Inv.rewrite {a : Addr} {o : HO} (e : H a = some o) : upd H a o = H := by
  funext b
  by_cases h : b = a
  · subst h; rw [upd_same, e]
  · rw [upd_ne h]
def tExcI (C : Addr) (sp : Sp) (t : TA) : TE := fun σ H Q => t σ H fun vs H1 => ∀ e, H1 e = none → sp (.ref e :: vs) (upd H1 e (ExO e C none)) (fun v H2 => v = .non ∧ Q (.ref e) H2) E0
theorem pe_excI {x : Str} {p pos : Pos} {k : Nat} {f : Addr} {fd : FuncData} {ps : List Str} {sp : Sp} {e : Expr} {es : List Expr} {t : TA} (c : XC X.K C D N) (hi : PySem.W.nsIn X.K N "__init__" = some (some (.ref f))) (hf : ∃ o, X.K.lookup f = some o ∧ o.cls = .type "function")
    (F : FnOk X.prog X.w X.K X.mg X.base CX0 k f fd ps sp) (hr : Room (k + 1) X.A) (hb : Binds X.K fd ps []) (hg : Gl X x) (hm : X.mg x = some (.ref C)) (ha : PA X (e :: es) t) (hps : ps.length ≤ sizeLine := by decide)
    (hdb : (x == ("__debug__" : Str)) = false := by decide) (he : starEach (e :: es) X.env = (false, eval e X.env) :: starEach es X.env := by rfl) (hpl : (backTo pos (starEach es X.env)).any (·.1) = false := by rfl) :
    PE X (.Call (.Name x p) (e :: es) [] pos) (tExcI C sp t) := by
  intro pins s σ H Q I h
  refine wpAny_Call_Name_kw (ld_glob I hg hm ?_ hdb)
  refine PySem.W.callWith_K (h₀ := X.base) I.ok.mod.kin c.kp (thn (ha pos pins s σ H _ I h) fun us s1 ⟨vs, H1, I1, r, q1⟩ => ⟨I1.kIn, ?_⟩) he hpl
  obtain ⟨nm, q, bs, sn, sub, ab, col, dd, k0, k1, k2, k3, k5, lk⟩ := c.sh
  obtain ⟨oI, lkf, hfc⟩ := hf
  have hC := I1.kIn _ _ lk
  have hn := Heap.Ns.of_isNs (PySem.W.isNs_of_in I1.kIn c.ns)
  have hin := ns_some I1.kIn hn hi
  have T := PySem.W.tail_of_in I1.kIn c.tl
  have hz : s1.heap.objs.size ≤ s1.heap.objs.size + 1 := Nat.le_succ _
  have q2 := q1 (s1.heap.objs.size + 1) (I1.hok.fresh hz)
  have r2 : Vals (V.ref (s1.heap.objs.size + 1) :: vs) (Value.ref (s1.heap.objs.size + 1) :: us) := .cons rfl r
  have hl : (Value.ref (s1.heap.objs.size + 1) :: us ++ []).length = ps.length := by
    have e := r2.length
    rw [F.len _ _ _ _ q2] at e
    rw [List.append_nil]
    exact e.symm
  obtain ⟨hh, g, d, tk, os⟩ := s1
  have hrest : us.length ≤ sizeLine := by
    simp only [List.append_nil, List.length_cons] at hl
    omega
  refine call_exc_initT PySem.F.excBase_ValueError T hC hn hin (I1.kIn _ _ lkf) hfc ?_ hrest
  have I2 : Inv X pins σ (upd H1 (hh.objs.size + 1) (ExO (hh.objs.size + 1) C none)) ⟨(hh.push { cls := .type "tuple", data := .seq us.toArray }).push { cls := .ref C, data := .fields #[.ref hh.objs.size, .none, .none, .none, .bool false, .none] }, g, d, tk, os⟩ :=
    I1.laid (t' := tk) (fun b o e => Heap.get?_push_of_some _ (Heap.get?_push_of_some _ e)) hz (exO_ok (t := hh.objs.size) (by heap_get))
  refine wpAny_call (codeAny_mono (F.run _ X.stack _ _ ⟨Value.ref (hh.objs.size + 1) :: us, []⟩ (Value.ref (hh.objs.size + 1) :: us) _ _ E0 (hr.make C us []) (I2.env0.make C us []) (by
    have := hb _ (Value.ref (hh.objs.size + 1) :: us) I2.kIn hl
    rwa [List.append_nil] at this) r2 q2) fun r s' hq' => ?_)
  cases r with
  | error e => exact False.elim hq'
  | ok fl =>
    cases fl with
    | ret u =>
      obtain ⟨v, H', I3, rv, ev, q3⟩ := I2.after hq'
      subst ev
      exact ⟨rv, ⟨V.ref (hh.objs.size + 1), H', I3, rfl, q3⟩⟩
    | next => exact False.elim hq'
    | brk => exact False.elim hq'
    | cont => exact False.elim hq'
structure XD (K : PySem.W.Frag) (D : Addr) : Prop where
  sp : PySem.W.specialIn K (.ref D) "__getattribute__" = some (some (.builtin "type.__getattribute__"))
  rd : PySem.W.readsIn K D (.type "type") = true
  fc : PySem.W.findCls K (.ref D) (.type "type") "__init__" = some (.val (.builtin "ValueError.__init__"))
def tExcInit (K : PySem.W.Frag) (t : TA) : TE := fun σ H Q => t σ H fun vs H1 => ∃ e y C D N, vs = [.ref e, y] ∧ H1 e = some (ExO e C none) ∧ XC K C D N ∧ Q .non H1
theorem pe_excInit {x : Str} {p pos apos : Pos} {e : Expr} {es : List Expr} {t : TA} (xd : XD X.K D) (hg : Gl X x) (hm : X.mg x = some (.ref D)) (ha : PA X (e :: es) t) (hdb : (x == ("__debug__" : Str)) = false := by decide)
    (he : starEach (e :: es) X.env = (false, eval e X.env) :: starEach es X.env := by rfl) (hpl : (backTo pos (starEach es X.env)).any (·.1) = false := by rfl) {pl : Sem Bool}
    (ht : eval (.Call (.Attribute (.Name x p) "__init__" apos) (e :: es) [] pos) X.env = (do
      let ov ← eval (.Name x p) X.env
      standAt apos.atName
      let (f, first) ← holding [ov] (getMethod ov "__init__" pl)
      callWith pos f first (backTo pos (starEach (e :: es) X.env)) (backToKw pos (keywordEach [] X.env))) := by rfl) :
    PE X (.Call (.Attribute (.Name x p) "__init__" apos) (e :: es) [] pos) (tExcInit X.K t) := by
  intro pins s σ H Q I h
  refine PySem.W.methodCall_KW (pl := pl) (ld_glob I hg hm ?_ hdb) ht
  refine PySem.W.method_cls I.kIn xd.sp (PySem.W.cls_value I.kIn xd.rd xd.fc rfl ?_)
  have I' : Inv X pins σ H { s with toks := s.toks + 1 } := I.tok _
  refine PyProof.Rows.callWith_builtin1 (thn (ha pos pins _ σ H _ I' h) fun us s1 ⟨vs, H1, I1, r1, a, y, C, D', N, ev, ea, c, q1⟩ => ?_) he hpl
  subst ev
  obtain ⟨u1, u2, rfl, ru1, ru2⟩ := vals2 r1
  cases ru1
  obtain ⟨nm, q, bs, sn, sub, ab, col, dd, k0, k1, k2, k3, k5, lk⟩ := c.sh
  have hC := I1.kIn _ _ lk
  have T := PySem.W.tail_of_in I1.kIn c.tl
  obtain ⟨⟨t0, eo⟩, _, _⟩ := (show ObjOk X.prog X.w H1 s1.heap a (ExO a C none) from I1.hok a _ ea)
  obtain ⟨hh, g, d, tk, os⟩ := s1
  refine call_exc_init PySem.F.excBase_ValueError T hC eo rfl rfl (by simp) (fun h' k e' => ?_) (by show 1 ≤ sizeLine; decide)
  have I3 := I1.write (t' := tk) (x := a) (e := a) (o := ExO a C none) (h' := h') (by rw [ea]; exact True.intro) (.inl rfl) k ⟨_, e'⟩ (exO_ok (t := hh.objs.size) (by simpa using e'))
  rw [Inv.rewrite ea] at I3
  exact ⟨.non, H1, I3, rfl, q1⟩
def sExcSet (K : PySem.W.Frag) (ta tv : TE) (f : Str) : TS := fun D σ H => tv σ H fun y H1 => ta σ H1 fun x H2 => ∃ a C D' N, x = .ref a ∧ H2 a = some (ExO a C none) ∧ XC K C D' N ∧ PySem.W.findIn K (.ref C) f = some none ∧
  ∀ dx, H2 dx = none → D.nx σ (upd (upd H2 dx (.xd [(f, y)])) a (ExO a C (some dx)))
theorem ps_excSet {o value : Expr} {f : Str} {pos pos' : Pos} {ta tv : TE} (ha : PE X o ta) (hv : PE X value tv) (hs : swapsWith value (some (.Attribute o f pos')) pos.line X.env = pure false) : PS X (.Assign [.Attribute o f pos'] value pos) (sExcSet X.K ta tv f) := by
  intro pins s σ H En I h
  refine plainObj_wpAny_Assign_Attribute (thn (hv pins s σ H _ I h) fun u s1 ⟨y, H1, I1, ry, q⟩ => thn (ha pins s1 σ H1 _ I1 q) fun ov s2 ⟨x, H2, I2, rx, a, C, D', N, ex, ea, c, nf, q2⟩ => ?_) hs
  subst ex
  obtain rfl : ov = Value.ref a := rx
  obtain ⟨nm, qn, bs, sn, sub, ab, col, dd, k0, k1, k2, k3, k5, lk⟩ := c.sh
  have hC := I2.kIn _ _ lk
  obtain ⟨⟨t0, eo⟩, _, _⟩ := (show ObjOk X.prog X.w H2 s2.heap a (ExO a C none) from I2.hok a _ ea)
  have F1 := Finds.of (M := model X.prog X.w) I2.kIn c.sa
  have F2 := Finds.of (M := model X.prog X.w) I2.kIn nf
  obtain ⟨hh, g, d, tk, os⟩ := s2
  refine exc_setAttr PySem.F.store_ValueError hC F1 F2 eo rfl (fun c e => by cases e) rfl fun h' tk' a1 a2 a3 => ?_
  have hdx : H2 hh.objs.size = none := I2.hok.fresh (Nat.le_refl _)
  have lta : a < hh.objs.size := Heap.lt_size eo
  have nda : hh.objs.size ≠ a := Nat.ne_of_gt lta
  have hok : HOk X.prog X.w (upd (upd H2 hh.objs.size (.xd [(f, y)])) a (ExO a C (some hh.objs.size))) h' := by
    intro b u e
    by_cases hb : b = a
    · subst hb
      rw [upd_same] at e
      cases e
      exact exO_ok a1
    · rw [upd_ne hb] at e
      by_cases hb2 : b = hh.objs.size
      · subst hb2
        rw [upd_same] at e
        cases e
        refine ⟨_, a2, fun f' => ?_⟩
        by_cases hf : f' = f
        · subst hf
          simpa [List.lookup, RelO] using ry
        · have : (f' == f) = false := by simpa using hf
          simp [List.lookup, this, hf, RelO]
      · rw [upd_ne hb2] at e
        refine (I2.hok b u e).stay (fun d' v' hd q' => a3 d' v' ?_ q') (fun d' q' => ?_) fun d' ys q' => ?_
        · rcases hd with rfl | hd
          · exact hb
          · exact fun z => by subst z; rw [ea] at hd; cases hd
        · rw [upd_ne (fun z => by subst z; rw [ea] at q'; cases q'), upd_ne (fun z => by subst z; rw [hdx] at q'; cases q')]; exact q'
        · rw [upd_ne (fun z => by subst z; rw [ea] at q'; cases q'), upd_ne (fun z => by subst z; rw [hdx] at q'; cases q')]; exact q'
  have ne : ∀ b v', H2 b = v' → v' ≠ some (ExO a C none) → b ≠ a := fun b v' e1 e2 z => by subst z; rw [ea] at e1; exact e2 e1.symm
  have un : Un X.fs [] H2 (upd (upd H2 hh.objs.size (.xd [(f, y)])) a (ExO a C (some hh.objs.size))) hh h' := by
    refine ⟨fun b o e n _ _ => a3 b o (ne b _ n (by simp)) e, fun b o e n _ _ => ⟨o.slots, a3 b o (ne b _ n (by simp)) e⟩, fun b o e n _ => ?_, fun b o e _ => ?_, fun b xs e => ?_, fun b o u e => ?_, fun b ps e => ⟨#[], ?_⟩⟩
    · rw [upd_ne (ne b _ n (by simp)), upd_ne (Nat.ne_of_lt (Heap.lt_size e))]; exact n
    · by_cases hb : b = a
      · subst hb; exact ⟨_, a1⟩
      · exact ⟨_, a3 b o hb e⟩
    · rw [upd_ne (ne b _ e (by simp [ExO])), upd_ne (ne_of_none e hdx)]; exact e
    · rw [upd_ne (ne b _ e (by simp [ExO])), upd_ne (ne_of_none e hdx)]; exact e
    · rw [upd_ne (ne b _ e (by simp [ExO])), upd_ne (ne_of_none e hdx), e]; simp
  exact ⟨σ, _, I2.un (t' := tk') un hok, q2 _ hdx⟩
end
end L2
set_option Elab.async false
set_option linter.all false
set_option maxRecDepth 100000
set_option maxHeartbeats 4000000
namespace L2
open PySem PySem.Spec PyProof.Rows
open Builtin Builtin.ObjectAttr
section
variable {prog : Program} {w : World} {A : Around} {E : Value → Shared → Prop} {h : Heap} {g : Array GenState} {d : Drawn} {t : Nat} {os : OsState}
variable {nm q : Str} {C D N x : Addr} {bs bmB : List Value} {sn : List Str} {sub : List Value} {ab : Bool} {col : Option Bool} {dd : Option Addr} {k0 k1 k2 k3 k5 : Option Value} {nid : String} {K : PySem.W.Frag}
theorem exc_class_entry {tk : Tok} {o : Obj} {od : Option Obj} {Q : Fin → Shared → Prop} (X : K.In h) (hC : h.get? C = some (excClassObj nm q C N bs (.ref D :: bmB) true sn sub ab col dd k0 k1 k2 k3 k5 nid))
    (hl : Finds (model prog w) h C "__class__" (some (.builtin "object.__class__"))) (I : PySem.W.InstAt h x o C od) (hm : PySem.W.mroIn K C (.type "object") = some true) (hq : Q (.done (.ret (.ref C))) ⟨h, g, d, t, os⟩) :
    wpAny (model prog w) A (Builtin.«object.__getattribute__» ⟨[.ref x, .str "__class__" tk], []⟩) Q E ⟨h, g, d, t, os⟩ := by
  have hx := I.at_
  have hc : o.cls = .ref C := I.cls
  have f5 := PySem.F.typeOf_object_class
  have f6 := PySem.F.slot_gs_get.lookup
  have f7 := PySem.F.slot_gs_set.lookup
  have hT5 : (⟨h, g, d, t, os⟩ : Shared).TypeIs (.builtin "object.__class__") "getset_descriptor" := f5
  unfold Builtin.«object.__getattribute__»
  repeat (any_goals (first | assumption | (with_reducible refine wpAny_loadPart_at hx ?_; rw [hc]) | (with_reducible refine Finds.go hl ?_) | wp_step))
  refine PySem.W.class_get (K := K) (s := ⟨h, g, d, t, os⟩) X I hm ?_
  repeat (any_goals (first | assumption | wp_step))
theorem exc_class_attr {o : Obj} {od : Option Obj} {Q : Option Value → Shared → Prop} (X : K.In h) (hB : bmB.contains (.type "BaseException") = true) (hC : h.get? C = some (excClassObj nm q C N bs (.ref D :: bmB) true sn sub ab col dd k0 k1 k2 k3 k5 nid))
    (hg : Finds (model prog w) h C "__getattribute__" (some (.builtin "BaseException.__getattribute__"))) (hh : Finds (model prog w) h C "__getattr__" none)
    (hl : Finds (model prog w) h C "__class__" (some (.builtin "object.__class__"))) (I : PySem.W.InstAt h x o C od) (hm : PySem.W.mroIn K C (.type "object") = some true)
    (hq : Q (some (.ref C)) ⟨h, g, d, t + 1, os⟩) : wpAny (model prog w) A (getAttr? (.ref x) "__class__") Q E ⟨h, g, d, t, os⟩ := by
  have hx := I.at_
  have hc : o.cls = .ref C := I.cls
  have f3 := PySem.F.attrBase_ValueError.ga.bind (.ref x)
  have hx2 : (Value.builtin "BaseException.__getattribute__" == Value.builtin "object.__getattribute__") = false := by decide +kernel
  have hx1 : (onTheHeap (Value.ref C) && Value.builtin "BaseException.__getattribute__" == Value.builtin "object.__getattribute__") = false := by rw [hx2]; rfl
  unfold getAttr? getAttrBy? getAttrBy
  repeat (any_goals (first | assumption | (with_reducible refine wpAny_loadPart_at hx ?_; rw [hc]) | (with_reducible refine Finds.go hg ?_) | (with_reducible refine Finds.go hh ?_) | wp_step))
  refine codeAny_call_builtin PySem.F.attrBase_ValueError.ga.plain PySem.F.entry_bexc_ga (exc_check_ga hB hC hx hc (exc_class_entry X hC hl I hm ?_))
  show wpAny _ _ (handedOut (.ref C)) _ _ _
  rw [PySem.W.handedOut_of rfl]
  exact wpAny_pure (wpAny_pure hq)
end
end L2
set_option Elab.async false
set_option linter.all false
set_option maxRecDepth 100000
set_option maxHeartbeats 4000000
namespace L2
open PySem PySem.Spec PyProof.Rows
structure XI (K : PySem.W.Frag) (C : Addr) : Prop where
  cl : PySem.W.findIn K (.ref C) "__class__" = some (some (.builtin "object.__class__"))
  ob : PySem.W.mroIn K C (.type "object") = some true
theorem kitx_exc {K : PySem.W.Frag} {C D N x : Addr} (c : XC K C D N) (xi : XI K C) : PySem.W.KitX K (.ref x) (.ref C) (fun h => ∃ o od, PySem.W.InstAt h x o C od) where
  ty := fun M h X ⟨o, od, I⟩ => I.type
  it := fun M h X _ => by
    obtain ⟨nm, q, bs, sn, sub, ab, col, dd, k0, k1, k2, k3, k5, lk⟩ := c.sh
    intro A' Q' E' s' k q
    unfold isType loadHead
    exact wpAny_bind (wpAny_loadPart (k _ _ (X _ _ lk)) (wpAny_pure q))
  ne := fun h tp dd its n sl X htp => by
    obtain ⟨nm, q, bs, sn, sub, ab, col, dd, k0, k1, k2, k3, k5, lk⟩ := c.sh
    refine Bool.eq_false_iff.mpr fun q => ?_
    have e : C = tp := Value.ref.inj (beq_iff_eq.mp q)
    subst e
    have z := (X _ _ lk).symm.trans htp
    simp at z
  ca := fun {prog w A E Q s} X ⟨o, od, I⟩ k => by
    obtain ⟨nm, q, bs, sn, sub, ab, col, dd, k0, k1, k2, k3, k5, lk⟩ := c.sh
    obtain ⟨hh, g, d, tk, os⟩ := s
    exact exc_class_attr X (by decide) (X _ _ lk) (Finds.of X c.ga) (Finds.of X c.gx) (Finds.of X xi.cl) I xi.ob k
section
variable {X : Cx}
end
end L2
set_option Elab.async false
set_option linter.all false
set_option maxRecDepth 100000
set_option maxHeartbeats 4000000
namespace L2
open PySem PySem.Spec PyProof.Rows
section
variable {X : Cx}
def tFmtI (te : TE) : TE := fun σ H Q => te σ H fun x H1 => ∃ i : Int, x = .int i ∧ i.natAbs < 10 ^ 20 ∧ ∀ z : Str, z.length ≤ 21 → Q (.str z) H1
theorem pe_fmtI {a : Expr} {te : TE} {pos : Pos} (ha : PE X a te) : PE X (.FormattedValue a (-1) none pos) (tFmtI te) := by
  intro pins s σ H Q I h
  refine FormattedValue_plain (thn (ha pins s σ H _ I h) fun v s1 ⟨x, H1, I1, r1, i, ex, hi, q1⟩ => ?_)
  subst ex
  obtain ⟨t, rfl⟩ := r1
  have hl : i.natAbs.log2 < 1920 := by
    by_cases h0 : i.natAbs = 0
    · rw [h0]; decide
    · have h1 : (10 : Nat) ^ 20 < 2 ^ 70 := by decide
      have := (Nat.log2_lt h0).mpr (Nat.lt_trans hi h1)
      omega
  have hz : (Str.ofString (toString i)).length ≤ 21 := by
    have e := int_text_length_le10 (a := i) (k := 20) (by decide) hi
    rw [PySem.ofString_length]
    omega
  exact formatField_int_small hl ⟨.str _, H1, I1.tok _, ⟨_, rfl⟩, q1 _ hz⟩
end
end L2
set_option Elab.async false
set_option linter.all false
set_option maxRecDepth 100000
set_option maxHeartbeats 4000000
set_option autoImplicit true
set_option relaxedAutoImplicit true
namespace L2
open PySem PySem.Spec PyProof.Rows
section
variable {X : Cx} {K : PySem.W.Frag}
theorem bt_ValueError : bootBuiltins "ValueError" = some (.type "ValueError") := by decide +kernel
theorem qpe_excI {x : Str} {p pos : Pos} {k : Nat} {f C D N : Addr} {fd : FuncData} {ps : List Str} {sp : Sp} {e : Expr} {es : List Expr} {t : TA} (hK : X.K = K) (c : XC K C D N) (hi : PySem.W.nsIn K N "__init__" = some (some (.ref f))) (hf : ∃ o, K.lookup f = some o ∧ o.cls = .type "function")
    (F : FnOk X.prog X.w K X.mg X.base CX0 k f fd ps sp) (hr : Room (k + 1) X.A) (hb : Binds K fd ps []) (hg : Gl X x) (hm : X.mg x = some (.ref C)) (ha : QA X (e :: es) t) (hps : ps.length ≤ sizeLine := by decide)
    (hdb : (x == ("__debug__" : Str)) = false := by decide) (he : starEach (e :: es) X.env = (false, eval e X.env) :: starEach es X.env := by rfl) (hpl : (backTo pos (starEach es X.env)).any (·.1) = false := by rfl) :
    QE X (.Call (.Name x p) (e :: es) [] pos) (tExcI C sp t) := by subst hK; exact ⟨pe_excI c hi hf F hr hb hg hm ha.h hps hdb he hpl⟩
theorem qpe_excInit {x : Str} {p pos apos : Pos} {e : Expr} {es : List Expr} {t : TA} {D : Addr} (hK : X.K = K) (xd : XD K D) (hg : Gl X x) (hm : X.mg x = some (.ref D)) (ha : QA X (e :: es) t) (hdb : (x == ("__debug__" : Str)) = false := by decide)
    (he : starEach (e :: es) X.env = (false, eval e X.env) :: starEach es X.env := by rfl) (hpl : (backTo pos (starEach es X.env)).any (·.1) = false := by rfl) {pl : Sem Bool}
    (ht : eval (.Call (.Attribute (.Name x p) "__init__" apos) (e :: es) [] pos) X.env = (do
      let ov ← eval (.Name x p) X.env
      standAt apos.atName
      let (f, first) ← holding [ov] (getMethod ov "__init__" pl)
      callWith pos f first (backTo pos (starEach (e :: es) X.env)) (backToKw pos (keywordEach [] X.env))) := by rfl) :
    QE X (.Call (.Attribute (.Name x p) "__init__" apos) (e :: es) [] pos) (tExcInit K t) := by subst hK; exact ⟨pe_excInit xd hg hm ha.h hdb he hpl ht⟩
theorem qps_excSet {o value : Expr} {f : Str} {pos pos' : Pos} {ta tv : TE} (hK : X.K = K) (ha : QE X o ta) (hv : QE X value tv) (hs : swapsWith value (some (.Attribute o f pos')) pos.line X.env = pure false) : QS X (.Assign [.Attribute o f pos'] value pos) (sExcSet K ta tv f) := by
  subst hK; exact ⟨ps_excSet ha.h hv.h hs⟩
theorem qpe_fmtI {a : Expr} {te : TE} {pos : Pos} (ha : QE X a te) : QE X (.FormattedValue a (-1) none pos) (tFmtI te) := ⟨pe_fmtI ha.h⟩
end
end L2
set_option Elab.async false
set_option linter.all false
set_option maxRecDepth 100000
set_option maxHeartbeats 4000000
namespace HT
open PySem PyProof.Rows
section
open PySem.AutoSeq1 (wpAny_loadPart')
open PySem.MeetsSeq PySem.MeetsSeq2 PySem.MeetsSeq3
theorem tuple_add0 (l b : Addr) (items2 : Array Value) (n n2 : Nat) (dd dd2 : Option Addr) (sl sl2 : Array (Option Value)) :
    Meets (Builtin.«tuple.__add__» ⟨[.ref l, .ref b], []⟩)
      (fun _ R s => s.heap.get? l = some { cls := .type "tuple", dict := dd, data := .seq #[] n, slots := sl } ∧ s.heap.get? b = some { cls := .type "tuple", dict := dd2, data := .seq items2 n2, slots := sl2 } ∧ R (.ok (.ret (.ref b))) s) :=
  .of_wp fun prog w A R s h => by
    obtain ⟨hp, g, d, tk, os⟩ := s; obtain ⟨hl, hb, h⟩ := h
    have f2 := AutoSeq1.sub_tuple_tuple
    wp_walk using wpAny_loadPart' hl, wpAny_loadPart' hb
    exact ⟨_, rfl, h⟩
end
end HT
namespace L2
open PySem PySem.Spec PyProof.Rows
section
variable {X : Cx}
end
end L2
set_option Elab.async false
set_option linter.all false
set_option maxRecDepth 100000
set_option maxHeartbeats 4000000
set_option autoImplicit true
set_option relaxedAutoImplicit true
namespace L2
open PySem PySem.Spec PyProof.Rows
theorem ns_ok {K : PySem.W.Frag} {N : Addr} {no : Value} {nd : Option Addr} {es : Array DictEntry} {en : Nat} {nl : Array (Option Value)} (l : K.lookup N = some ⟨no, nd, .dict es en, nl⟩) (e : (es.all fun e => match e.key with | .str _ _ => true | _ => false) = true) : PySem.W.nsOkIn K N = true := by
  unfold PySem.W.nsOkIn
  rw [l]
  exact e
section
variable {K : PySem.W.Frag} {C C' D N N' : Addr} {nm q nm' q' : Str} {bs bm bs' bm' : List Value} {sn sn' : List Str} {sub sub' : List Value} {ab ab' hd hd' : Bool} {col col' : Option Bool} {dd dd' : Option Addr} {k0 k1 k2 k3 k5 j0 j1 j2 j3 j5 : Option Value} {nid nid' : String}
theorem tail_ok (l : K.lookup D = some (excClassObj nm q D N bs bm hd sn sub ab col dd k0 k1 k2 k3 k5 nid)) (ns : PySem.W.nsOkIn K N = true) (i : PySem.W.nsIn K N "__init__" = some none) : PySem.W.tailIn K bmVE (.ref D :: bmVE) = true := by
  unfold PySem.W.tailIn
  dsimp only
  rw [l]
  dsimp only
  rw [ns, i]
  have : PySem.W.tailIn K bmVE bmVE = true := by
    unfold PySem.W.tailIn
    simp
  rw [this]
  simp
theorem kit_sub {c : Value} (l : K.lookup C = some (excClassObj nm q C N bs bm hd sn sub ab col dd k0 k1 k2 k3 k5 nid)) : PySem.W.subIn K (.ref C) c = some ((Value.ref C :: bm).contains c) := by
  unfold PySem.W.subIn PySem.W.mroIn PySem.W.clsIn
  dsimp only
  rw [l]
  rfl
theorem kit_ne (l : K.lookup C = some (excClassObj nm q C N bs (.ref D :: bmVE) hd sn sub ab col dd k0 k1 k2 k3 k5 nid)) (l' : K.lookup C' = some (excClassObj nm' q' C' N' bs' bm' hd' sn' sub' ab' col' dd' j0 j1 j2 j3 j5 nid')) (ty : PySem.W.typeIn K (.ref C') = some (.type "type")) (n : C ≠ C') (nD : C' ≠ D) :
    PySem.W.kitOne K (.ref C) (.ref C') = some false := by
  unfold PySem.W.kitOne
  rw [if_neg (by simpa using n)]
  unfold PySem.W.kitCls
  have : ((PySem.W.clsIn K C').isSome && PySem.W.typeIn K (.ref C') == some (.type "type")) = true := by
    rw [ty]
    unfold PySem.W.clsIn
    rw [l']
    rfl
  dsimp only
  rw [if_pos this, kit_sub l]
  simp [Ne.symm n, nD]
theorem kit_D (l : K.lookup C = some (excClassObj nm q C N bs (.ref D :: bmVE) hd sn sub ab col dd k0 k1 k2 k3 k5 nid)) (l' : K.lookup D = some (excClassObj nm' q' D N' bs' bm' hd' sn' sub' ab' col' dd' j0 j1 j2 j3 j5 nid')) (ty : PySem.W.typeIn K (.ref D) = some (.type "type")) (n : C ≠ D) :
    PySem.W.kitOne K (.ref C) (.ref D) = some true := by
  unfold PySem.W.kitOne
  rw [if_neg (by simpa using n)]
  unfold PySem.W.kitCls
  have : ((PySem.W.clsIn K D).isSome && PySem.W.typeIn K (.ref D) == some (.type "type")) = true := by
    rw [ty]
    unfold PySem.W.clsIn
    rw [l']
    rfl
  dsimp only
  rw [if_pos this, kit_sub l]
  simp
theorem kit_V (l : K.lookup C = some (excClassObj nm q C N bs (.ref D :: bmVE) hd sn sub ab col dd k0 k1 k2 k3 k5 nid)) : PySem.W.kitOne K (.ref C) (.type "ValueError") = some true := by
  unfold PySem.W.kitOne
  rw [if_neg (by simp)]
  unfold PySem.W.kitCls
  dsimp only
  rw [if_pos (by decide +kernel), kit_sub l]
  simp
end
end L2
set_option Elab.async false
set_option linter.all false
set_option maxRecDepth 100000
set_option maxHeartbeats 4000000
namespace L2
open PySem PySem.Spec PyProof.Rows
section
variable {M : Model} {A : Around} {E : Value → Shared → Prop} {s : Shared}
theorem put_entry {base : Heap} {env : Env} {outer : List Env} {L e : Addr} {c : Value} {dx : Option Addr} {sl : Array (Option Value)} {vs : Array Value} {head : Value} {hn : Bool} {Q : Unit → Shared → Prop}
    (fr : A.frames = some (env :: outer)) (ff : s.heap.FunFrames base (env :: outer)) (ef : env.frame = some L) (he : s.heap.get? e = some ⟨c, dx, .fields vs, sl⟩) (ne : e ∉ frs (env :: outer)) (hsz : 1 < vs.size)
    (q : ∀ h' T oT ts, (∀ b o, b ≠ e → b ∉ frs (env :: outer) → s.heap.get? b = some o → h'.get? b = some o) → (∀ b o, b ≠ e → s.heap.get? b = some o → ∃ sl', h'.get? b = some { o with slots := sl' }) →
      h'.get? e = some ⟨c, dx, .fields (vs.setIfInBounds 1 (.ref T)), sl⟩ → s.heap.objs.size ≤ T → T ≠ e → h'.get? T = some oT → oT.data = .fields ts → ts[3]? = some (rawInt L) → Q () { s with heap := h' }) :
    wpAny M A (do let a ← frameOf env; let pl ← entryPlaceOf L hn; let b ← EntryCells.newEntry head a .none (rawInt L) .none pl; setField (.ref e) 1 b) Q E s := by
  refine wpAny_bind (wpAny_frameOf_fun fr ff ef fun h1 so => ?_)
  refine wpAny_bind (wpAny_entryPlaceOf fun pl ip => ?_)
  unfold EntryCells.newEntry newFields
  refine wpAny_bind (wpAny_newObj_type ?_ (ip.sizeOk5 _ _ _ _ _))
  have e1 : h1.get? e = some ⟨c, dx, .fields vs, sl⟩ := (so.2.1 e ne).trans he
  have e2 := Heap.get?_push_of_some (h := h1) (⟨.type "traceback", none, .fields ([head, .ref L, .none, rawInt L, .none] ++ (if pl.isEmpty then List.replicate 6 Value.none else pl)).toArray, #[]⟩ : Obj) e1
  refine wpAny_setField e2 rfl hsz ?_
  have nT : h1.objs.size ≠ e := Nat.ne_of_gt (Heap.lt_size e1)
  have kp : ∀ b o, b ≠ e → h1.get? b = some o → ((h1.push (⟨.type "traceback", none, .fields ([head, .ref L, .none, rawInt L, .none] ++ (if pl.isEmpty then List.replicate 6 Value.none else pl)).toArray, #[]⟩ : Obj)).update e (Obj.mapFields (·.setIfInBounds 1 (Value.ref h1.objs.size)))).get? b = some o := fun b o hb ho => by
    rw [Heap.get?_update_other _ _ (Ne.symm hb)]
    exact Heap.get?_push_of_some _ ho
  refine q _ h1.objs.size _ _ (fun b o hb hf ho => kp b o hb ((so.2.1 b hf).trans ho)) (fun b o hb ho => ?_) ?_ (Nat.le_of_eq so.1.symm) nT ((Heap.get?_update_other _ _ (Ne.symm nT)).trans (Heap.get?_push_size h1 rfl)) rfl ?_
  · obtain ⟨sl', e3⟩ := so.2.2 b o ho
    exact ⟨sl', kp b _ hb e3⟩
  · rw [Heap.get?_update_self _ e2 rfl]
    rfl
  · first
      | (simp; done)
      | (rcases ip with rfl | ⟨_, _, _, _, _, _, _, rfl⟩ <;> simp)
end
end L2
set_option Elab.async false
set_option linter.all false
set_option maxRecDepth 100000
set_option maxHeartbeats 4000000
namespace L2
open PySem PySem.Spec PyProof.Rows
section
variable {X : Cx} {pins : List (Addr × Obj)} {σ : St} {H H' : Hp} {s : Shared} {a C T : Addr} {dx : Option Addr} {fl : Option Value}
structure Own (X : Cx) (pins : List (Addr × Obj)) (H : Hp) (b : Addr) : Prop where
  new : X.s₀.heap.get? b = none
  free : H b = none
  loc : b ≠ X.env.locals
  cell : ∀ x c, X.env.cells.lookup x = some c → c ≠ b
  pin : ∀ p ∈ X.pn ++ pins, p.1 ≠ b
  fr : b ∉ frs X.stack
theorem Inv.frThere (I : Inv X pins σ H s) {b : Addr} (hb : b ∈ frs X.stack) : ∃ o, s.heap.get? b = some o := by
  obtain ⟨_, o, ho, _⟩ := I.stack.mem hb
  exact ⟨o, ho⟩
theorem Inv.own (I : Inv X pins σ H s) (hx : X.ex = []) {b : Addr} (n : s.heap.get? b = none) (hf : H' b = none) : Own X pins H' b := by
  refine ⟨?_, hf, ?_, fun x c e z => ?_, fun p hp z => ?_, fun hb => ?_⟩
  · cases e : X.s₀.heap.get? b with
    | none => rfl
    | some o =>
      obtain ⟨o', e'⟩ := I.base.there b o e (by rw [hx]; simp)
      rw [n] at e'; cases e'
  · rintro rfl
    obtain ⟨m, ⟨o, _, _, ho, _⟩, _⟩ := I.loc
    rw [n] at ho; cases ho
  · subst z
    obtain ⟨v, o, ho, _⟩ := I.cell x c e
    rw [n] at ho; cases ho
  · have := (I.pin p hp).1
    rw [z, n] at this; cases this
  · obtain ⟨o, ho⟩ := I.frThere hb
    rw [n] at ho; cases ho
theorem Inv.fly {h' : Heap} {t' : Nat} {φ : Addr → Prop} (I : Inv X pins σ H s) (hφ : ∀ b, φ b → Own X pins H b)
    (k : ∀ b o, ¬ φ b → b ∉ frs X.stack → s.heap.get? b = some o → h'.get? b = some o) (ks : ∀ b o, ¬ φ b → s.heap.get? b = some o → ∃ sl, h'.get? b = some { o with slots := sl }) : Inv X pins σ H { s with heap := h', toks := t' } := by
  have old : ∀ b o, X.s₀.heap.get? b = some o → ¬ φ b := fun b o e z => by rw [(hφ b z).new] at e; cases e
  have trd : ∀ b u, H b = some u → ¬ φ b ∧ b ∉ frs X.stack := fun b u e => ⟨fun z => (by rw [(hφ b z).free] at e; cases e), fun z => (by rw [I.stkFree b z] at e; cases e)⟩
  have cel : ∀ x c, X.env.cells.lookup x = some c → ∀ v, s.heap.IsCell c v → h'.IsCell c v := fun x c e v ⟨o, ho, hd⟩ => by
    obtain ⟨sl, q⟩ := ks c o (fun z => (hφ c z).cell x c e rfl) ho
    exact ⟨_, q, hd⟩
  refine ⟨I.ok, I.os, I.bare, ⟨fun b o e n hb hx => ?_, fun b o e n hb hx => ?_, I.base.free, fun b o e hx => ?_, I.base.tups, I.base.frzs, I.base.tbls⟩, ?_, fun x c e => ?_, I.free, I.freeC, fun p hp => ?_, fun b u e => ?_, I.len⟩
  · refine k b o (old b o e) (fun z => ?_) (I.base.keep b o e n hb hx)
    rcases List.mem_cons.mp (I.stkSub b z) with r | r
    · exact absurd (r ▸ Heap.lt_size e) (Nat.not_lt.mpr I.ok.above)
    · exact hb r
  · obtain ⟨sl, e1⟩ := I.base.slot b o e n hb hx
    obtain ⟨sl', e2⟩ := ks b _ (old b o e) e1
    exact ⟨sl', e2⟩
  · obtain ⟨o', e1⟩ := I.base.there b o e hx
    obtain ⟨sl, e2⟩ := ks b o' (old b o e) e1
    exact ⟨_, e2⟩
  · obtain ⟨m, ⟨o, es, ep, ho, r⟩, hl⟩ := I.loc
    obtain ⟨sl, e2⟩ := ks _ o (fun z => (hφ _ z).loc rfl) ho
    refine ⟨m, ⟨_, es, ep, e2, r⟩, fun i x v e1 e3 e4 => ?_⟩
    obtain ⟨u, ru, l⟩ := hl i x v e1 e3 e4
    refine ⟨u, ru, ?_⟩
    rcases l with l | ⟨kk, c, e, z⟩
    · exact .inl l
    · exact .inr ⟨kk, c, e, cel x c e _ z⟩
  · obtain ⟨v, z⟩ := I.cell x c e
    exact ⟨v, cel x c e v z⟩
  · obtain ⟨e, n, ne, nf, d⟩ := I.pin p hp
    refine ⟨k p.1 p.2 (fun z => (hφ _ z).pin p hp rfl) (fun z => ?_) e, n, ne, nf, d⟩
    rcases List.mem_cons.mp (I.stkSub _ z) with r | r
    · exact ne r
    · exact nf r
  · refine (I.hok b u e).stay (fun c v hc q => ?_) (fun _ q => q) fun _ _ q => q
    rcases hc with rfl | hc
    · exact k c v (trd c u e).1 (trd c u e).2 q
    · exact k c v (trd c _ hc).1 (trd c _ hc).2 q
structure FlS (X : Cx) (pins : List (Addr × Obj)) (H : Hp) (h : Heap) (a C : Addr) (dx : Option Addr) (fl : Option Value) : Prop where
  own : Own X pins H a
  ex : ∃ vs sl, h.get? a = some ⟨.ref C, dx, .fields vs, sl⟩ ∧ match fl with
    | none => vs[1]? = some .none
    | some f => ∃ T oT ts, vs[1]? = some (.ref T) ∧ Own X pins H T ∧ T ≠ a ∧ h.get? T = some oT ∧ oT.data = .fields ts ∧ ts[3]? = some f
theorem station {M : Model} {A : Around} {E : Value → Shared → Prop} {Q : Unit → Shared → Prop} (I : Inv X pins σ H s) (hA : A.frames = X.A.frames) (hs : X.stack = X.env :: X.outer ∧ X.env.frame = some X.env.locals) (hx : X.ex = []) (f : FlS X pins H s.heap a C dx fl) (hfl : fl = none ∨ fl = some .none)
    (q : ∀ s', Inv X pins σ H s' → FlS X pins H s'.heap a C dx (some (rawInt X.env.locals)) → Q () s') : wpAny M A (noteFrame (.ref a) X.env) Q E s := by
  obtain ⟨own, vs, sl, ea, r⟩ := f
  have fr : A.frames = some (X.env :: X.outer) := by rw [hA, I.ok.frames, hs.1]
  have ff := I.stack
  rw [hs.1] at ff
  have nf : a ∉ frs (X.env :: X.outer) := by rw [← hs.1]; exact own.fr
  unfold noteFrame
  simp only [hs.2]
  rcases hfl with rfl | rfl
  · have hsz : 1 < vs.size := (Array.getElem?_eq_some_iff.mp r).1
    refine wpAny_bind (wpAny_field ea rfl r ?_)
    rw [if_neg (by decide)]
    refine put_entry fr ff hs.2 ea nf hsz fun h' T oT ts k ks e1 zT nT eT dT fT => q _ (I.fly (t' := s.toks) (φ := fun b => b = a) (fun b e => e ▸ own) (fun b o e hb ho => k b o e (by rw [← hs.1]; exact hb) ho) fun b o e ho => ks b o e ho) ?_
    exact ⟨own, _, sl, e1, T, oT, ts, by simp [hsz], I.own hx (Heap.get?_none_of_le zT) (I.hok.fresh zT), nT, eT, dT, fT⟩
  · obtain ⟨T0, o0, t0, v1, ow0, n0, e0, d0, f0⟩ := r
    have hsz : 1 < vs.size := (Array.getElem?_eq_some_iff.mp v1).1
    refine wpAny_bind (wpAny_field ea rfl v1 ?_)
    rw [if_pos (show (Value.ref T0 != Value.none) = true from by simp)]
    refine wpAny_bind (wpAny_field e0 d0 f0 ?_)
    rw [if_neg (show ¬ ((Value.none == rawInt X.env.locals) = true) from by simp [rawInt])]
    refine wpAny_bind (wpAny_setField e0 d0 (Array.getElem?_eq_some_iff.mp f0).1 ?_)
    have oth : ∀ b, b ≠ T0 → (s.heap.update T0 (Obj.mapFields (·.setIfInBounds 3 Value.none))).get? b = s.heap.get? b := fun b hb => Heap.get?_update_other _ _ (Ne.symm hb)
    have I1 : Inv X pins σ H { s with heap := s.heap.update T0 (Obj.mapFields (·.setIfInBounds 3 Value.none)) } :=
      I.fly (t' := s.toks) (φ := fun b => b = T0) (fun b e => e ▸ ow0) (fun b o e _ ho => (oth b e).trans ho) fun b o e ho => ⟨o.slots, (oth b e).trans ho⟩
    have ff1 := I1.stack
    rw [hs.1] at ff1
    refine put_entry (s := { s with heap := s.heap.update T0 (Obj.mapFields (·.setIfInBounds 3 Value.none)) }) fr ff1 hs.2 ((oth a (Ne.symm n0)).trans ea) nf hsz fun h' T oT ts k ks e1 zT nT eT dT fT => q _ (I1.fly (t' := s.toks) (φ := fun b => b = a) (fun b e => e ▸ own) (fun b o e hb ho => k b o e (by rw [← hs.1]; exact hb) ho) fun b o e ho => ks b o e ho) ?_
    exact ⟨own, _, sl, e1, T, oT, ts, by simp [hsz], I1.own hx (Heap.get?_none_of_le zT) (I1.hok.fresh zT), nT, eT, dT, fT⟩
theorem land {M : Model} {A : Around} {E : Value → Shared → Prop} {Q : Unit → Shared → Prop} {fv : Value} (I : Inv X pins σ H s) (f : FlS X pins H s.heap a C dx (some fv))
    (q : ∀ s', Inv X pins σ H s' → FlS X pins H s'.heap a C dx (some .none) → Q () s') : wpAny M A (setFlight (.ref a) none) Q E s := by
  obtain ⟨own, vs, sl, ea, T0, o0, t0, v1, ow0, n0, e0, d0, f0⟩ := f
  have h3 : 3 < t0.size := (Array.getElem?_eq_some_iff.mp f0).1
  have oth : ∀ b, b ≠ T0 → (s.heap.update T0 (Obj.mapFields (·.setIfInBounds 3 ((none : Option Addr).elim Value.none fun f => rawInt f)))).get? b = s.heap.get? b := fun b hb => Heap.get?_update_other _ _ (Ne.symm hb)
  unfold setFlight
  refine wpAny_bind (wpAny_field ea rfl v1 ?_)
  rw [if_pos (show (Value.ref T0 != Value.none) = true from by simp)]
  refine wpAny_setField e0 d0 h3 (q _ (I.fly (t' := s.toks) (φ := fun b => b = T0) (fun b e => e ▸ ow0) (fun b o e _ ho => (oth b e).trans ho) fun b o e ho => ⟨o.slots, (oth b e).trans ho⟩) ?_)
  exact ⟨own, vs, sl, (oth a (Ne.symm n0)).trans ea, T0, _, _, v1, ow0, n0, Heap.get?_update_self _ e0 (Obj.isFreed_of_fields (Obj.data_mapFields d0 _)), Obj.data_mapFields d0 _, by simp [h3]⟩
end
def CXE (P : Program) (w : World) : CXT := fun outer H s E e s' => ∃ a C dx H', e = .ref a ∧ s'.os = s.os ∧ AllBare s'.gens ∧ Un (frs outer) [] H H' s.heap s'.heap ∧ HOk P w H' s'.heap ∧ (s.heap.get? a = none ∧ H' a = none) ∧
  (∃ vs sl T oT ts, s'.heap.get? a = some ⟨.ref C, dx, .fields vs, sl⟩ ∧ vs[1]? = some (.ref T) ∧ (s.heap.get? T = none ∧ H' T = none) ∧ T ≠ a ∧ s'.heap.get? T = some oT ∧ oT.data = .fields ts ∧ ts[3]? = some .none) ∧ E (.ref C) dx H'
def Leaves (X : Cx) (E : XK) : Prop := ∀ (pins : List (Addr × Obj)) (σ : St) (H : Hp) (s : Shared) (a C : Addr) (dx : Option Addr) (fl : Option Value), Inv X pins σ H s → FlS X pins H s.heap a C dx fl → (fl = none ∨ fl = some .none) → E (.ref C) dx H → X.xe (.ref a) s
section
variable {X : Cx} {E : XK}
theorem cx_at {pins : List (Addr × Obj)} {σ : St} {H H1 : Hp} {s s' : Shared} {P : Program} {w : World} (I : Inv X pins σ H s) (hP : X.prog = P) (hw : X.w = w) (hx : X.ex = []) {e : Value} (h : CXE P w X.stack H s E e s') :
    ∃ a C dx H', e = .ref a ∧ Inv X pins σ H' s' ∧ FlS X pins H' s'.heap a C dx (some .none) ∧ E (.ref C) dx H' := by
  subst hP hw
  obtain ⟨a, C, dx, H', rfl, os, bare, un, hok, ⟨na, fa⟩, ⟨vs, sl, T, oT, ts, ea, v1, ⟨nT, fT⟩, nTa, eT, dT, f3⟩, hE⟩ := h
  have I' : Inv X pins σ H' s' := I.call' os un hok bare (fun b z => absurd z (by simp))
  exact ⟨a, C, dx, H', rfl, I', ⟨I.own hx na fa, vs, sl, ea, T, oT, ts, v1, I.own hx nT fT, nTa, eT, dT, f3⟩, hE⟩
theorem leaves_of {P : Program} {w : World} {K : PySem.W.Frag} {mg : Str → Option Value} {base : Heap} {N : List Str} {qual : Str} {scope : Scope} {f : Addr} {cd : Value} {A : Around} {outer : List Env} {s : Shared} {H : Hp} :
    Leaves (cxOf (CXE P w) P w K mg base N qual scope f cd A outer s H E) E := by
  intro pins σ H1 s1 a C dx fl I fS hfl hE
  show wpAny _ _ (leaving _ _) _ _ _
  unfold leaving
  refine wpAny_bind (station I rfl ⟨rfl, rfl⟩ rfl fS hfl fun s2 I2 f2 => land I2 f2 fun s3 I3 f3 => ?_)
  obtain ⟨own, vs, sl, ea, T, oT, ts, v1, ow, nT, eT, dT, f3⟩ := f3
  exact ⟨a, C, dx, H1, rfl, I3.os, I3.bare, I3.base, I3.hok, ⟨own.new, own.free⟩, ⟨vs, sl, T, oT, ts, ea, v1, ⟨ow.new, ow.free⟩, nT, eT, dT, f3⟩, hE⟩
theorem passOwn_of {P : Program} {w : World} {K : PySem.W.Frag} {mg : Str → Option Value} {base : Heap} {N : List Str} {qual : Str} {scope : Scope} {f : Addr} {cd : Value} {A : Around} {outer : List Env} {s : Shared} {H : Hp} {CX : CXT} :
    PassesOwn (model P w) (cxOf CX P w K mg base N qual scope f cd A outer s H E).A (cxOf CX P w K mg base N qual scope f cd A outer s H E).env (cxOf CX P w K mg base N qual scope f cd A outer s H E).xe := PassesOwn.leaving
end
end L2
set_option Elab.async false
set_option linter.all false
set_option maxRecDepth 100000
set_option maxHeartbeats 4000000
namespace L2
open PySem PySem.Spec PyProof.Rows
section
variable {M : Model} {A : Around} {E : Value → Shared → Prop} {s : Shared} {env : Env}
variable {nm q : Str} {C N : Addr} {bs bm : List Value} {hdct : Bool} {sn : List Str} {sub : List Value} {ab : Bool} {col : Option Bool} {dd : Option Addr} {k0 k1 k2 k3 k5 : Option Value} {newId : String}
theorem matches_sub {h : Heap} {g : Array GenState} {d : Drawn} {t : Nat} {os : OsState} {e D N' : Addr} {oe : Obj} {nm' q' : Str} {bs' bm' : List Value} {hd' : Bool} {sn' : List Str} {sub' : List Value} {ab' : Bool} {col' : Option Bool} {dd' : Option Addr} {j0 j1 j2 j3 j5 : Option Value} {nid' : String} {Q : Bool → Shared → Prop}
    (hC : h.get? C = some (excClassObj nm q C N bs bm hdct sn sub ab col dd k0 k1 k2 k3 k5 newId)) (hD : h.get? D = some (excClassObj nm' q' D N' bs' bm' hd' sn' sub' ab' col' dd' j0 j1 j2 j3 j5 nid')) (ee : h.get? e = some oe) (ec : oe.cls = .ref C) (hb : (Value.ref D :: bm').contains (.type "BaseException") = true)
    (hi : (Value.ref C :: bm).contains (.ref D) = true) (hq : Q true ⟨h, g, d, t, os⟩) : wpAny M A (excMatches (.ref e) (.ref D)) Q E ⟨h, g, d, t, os⟩ := by
  have f := tc_notTuple
  unfold excMatches
  repeat (first | (with_reducible refine wpAny_loadPart_at ee ?_; rw [ec]) | with_reducible refine wpAny_loadPart_at hD ?_ | with_reducible refine wpAny_loadPart_at hC ?_ | (with_reducible refine wpAny_isSubtype_exc hD ?_; rw [hb]) | (with_reducible refine wpAny_isSubtype_exc hC ?_; rw [hi]) | wp_step)
  exact hq
end
section
variable {X : Cx} {pins : List (Addr × Obj)} {σ : St} {H H' : Hp} {s : Shared} {a C D N : Addr} {dx : Option Addr}
def dropH (H : Hp) (a : Addr) : Hp := fun b => if b = a then none else H b
theorem dropH_same {H : Hp} {a : Addr} : dropH H a a = none := if_pos rfl
theorem dropH_ne {H : Hp} {a b : Addr} (h : b ≠ a) : dropH H a b = H b := if_neg h
theorem Inv.dropX (I : Inv X pins σ H s) {φ : Heap → Prop} (e : H a = some (.ext φ)) : Inv X pins σ (dropH H a) s := by
  have nn : ∀ b, H b = none → dropH H a b = none := fun b n => by unfold dropH; split <;> first | rfl | exact n
  have ne : ∀ b u, H b = some u → (∀ φ, u ≠ .ext φ) → b ≠ a := fun b u q n z => by subst z; rw [e] at q; cases q; exact n _ rfl
  refine ⟨I.ok, I.os, I.bare, ⟨I.base.keep, I.base.slot, fun b o q n hx => nn b (I.base.free b o q n hx), I.base.there, fun b xs q => ?_, fun b o u q => ?_, fun b ps q => ?_⟩, I.loc, I.cell, nn _ I.free, fun x c q => nn c (I.freeC x c q), fun p hp => ?_, fun b u q => ?_, I.len⟩
  · have := I.base.tups b xs q
    rw [dropH_ne (ne b _ this fun _ z => by cases z)]; exact this
  · have := I.base.frzs b o u q
    rw [dropH_ne (ne b _ this fun _ z => by cases z)]; exact this
  · obtain ⟨more, e1⟩ := I.base.tbls b ps q
    exact ⟨more, by rw [dropH_ne (ne b _ e1 fun _ z => by cases z)]; exact e1⟩
  · obtain ⟨e1, n, r⟩ := I.pin p hp
    exact ⟨e1, nn _ n, r⟩
  · have hb : b ≠ a := fun z => by rw [z, dropH_same] at q; cases q
    rw [dropH_ne hb] at q
    exact (I.hok b u q).stay (fun _ _ _ z => z) (fun c z => by rw [dropH_ne (ne c _ z fun _ r => by cases r)]; exact z) fun c xs z => by rw [dropH_ne (ne c _ z fun _ r => by cases r)]; exact z
def tRaise (K : PySem.W.Frag) (H₀ : Hp) (E : XK) (te : TE) : TS := fun D σ H => te σ H fun v H1 => ∃ a C D' N dx, v = .ref a ∧ H1 a = some (ExO a C dx) ∧ XC K C D' N ∧ H₀ a = none ∧ E (.ref C) dx (dropH H1 a)
theorem ps_raise {e : Expr} {te : TE} {pos : Pos} {E : XK} (hc : X.calm = true) (hx : X.ex = []) (l : Leaves X E) (he : PE X e te) : PS X (.Raise (some e) none pos) (tRaise X.K X.H₀ E te) := by
  intro pins s σ H En I h
  rw [arm_exec_Raise]
  refine wpAny_bind (wpAny_standAt ?_)
  show wpAny _ _ (raiseStmt X.env (some (do let v ← eval e X.env; standAt pos; pure v)) none) _ _ s
  unfold raiseStmt
  refine wpAny_bind (wpAny_bind (thn (he pins s σ H _ I h) fun v s1 ⟨x, H1, I1, rx, a, C, D', N, dx, ex, ea, c, n0, q⟩ => wpAny_bind (wpAny_standAt (wpAny_pure ?_))))
  subst ex
  obtain rfl : v = Value.ref a := rx
  obtain ⟨nm, qn, bs, sn, sub, ab, col, dd, k0, k1, k2, k3, k5, lk⟩ := c.sh
  have hC := I1.kIn _ _ lk
  obtain ⟨⟨t0, eo⟩, _, _⟩ := (show ObjOk X.prog X.w H1 s1.heap a (ExO a C dx) from I1.hok a _ ea)
  have hh := I1.ok.hd hc
  have I2 := I1.dropX ea
  have nloc : ∀ b, H1 b = none → b ≠ a := fun b n z => by subst z; rw [ea] at n; cases n
  have own : Own X pins (dropH H1 a) a := by
    refine ⟨?_, dropH_same, Ne.symm (nloc _ I1.free), fun x c e => nloc c (I1.freeC x c e), fun p hp => nloc _ (I1.pin p hp).2.1, fun hb => nloc a (I1.stkFree a hb) rfl⟩
    cases e1 : X.s₀.heap.get? a with
    | none => rfl
    | some o =>
      have := I1.base.free a o e1 n0 (by rw [hx]; simp)
      rw [ea] at this; cases this
  have hE : X.xe (.ref a) s1 := l pins σ (dropH H1 a) s1 a C dx none I2 ⟨own, _, _, eo, rfl⟩ (.inl rfl) q
  have inB : (Value.ref C :: .ref D' :: bmVE).contains (.type "BaseException") = true := by simp
  obtain ⟨hp, g, d, tk, os⟩ := s1
  repeat (first | with_reducible refine wpAny_loadPart_at eo ?_ | with_reducible refine wpAny_loadPart_at hC ?_ | (with_reducible refine wpAny_isSubtype_exc hC ?_; rw [inB]) | wp_step)
  exact wpAny_raiseNew_none hh hE
end
end L2
set_option Elab.async false
set_option linter.all false
set_option maxRecDepth 100000
set_option maxHeartbeats 4000000
namespace L2
open PySem PySem.Spec PyProof.Rows
def excW (a C : Addr) (dx : Option Addr) (h : Heap) : Prop := ∃ vs sl, h.get? a = some ⟨.ref C, dx, .fields vs, sl⟩
def ExW (a C : Addr) (dx : Option Addr) : HO := .ext (excW a C dx)
theorem exW_ok {P : Program} {w : World} {H : Hp} {h : Heap} {a C : Addr} {dx : Option Addr} {vs : Array Value} {sl : Array (Option Value)} (e : h.get? a = some ⟨.ref C, dx, .fields vs, sl⟩) : ObjOk P w H h a (ExW a C dx) :=
  ⟨⟨vs, sl, e⟩, ⟨_, e⟩, fun h1 h2 ⟨v, l, e1⟩ k => ⟨v, l, k _ e1⟩⟩
section
variable {X : Cx} {pins : List (Addr × Obj)} {σ : St} {H H' : Hp} {s : Shared} {a C D N : Addr} {dx : Option Addr} {A' : Around}
theorem Inv.track (I : Inv X pins σ H s) (o : Own X pins H a) {vs : Array Value} {sl : Array (Option Value)} (e : s.heap.get? a = some ⟨.ref C, dx, .fields vs, sl⟩) : Inv X pins σ (upd H a (ExW a C dx)) s := by
  have nn : ∀ b, b ≠ a → H b = none → upd H a (ExW a C dx) b = none := fun b h n => by rw [upd_ne h]; exact n
  have tr : ∀ b u, H b = some u → upd H a (ExW a C dx) b = some u := fun b u q => by rw [upd_ne (ne_of_none q o.free)]; exact q
  refine ⟨I.ok, I.os, I.bare, ⟨I.base.keep, I.base.slot, fun b ob q n hx => nn b (fun z => by subst z; rw [o.new] at q; cases q) (I.base.free b ob q n hx), I.base.there, fun b xs q => tr _ _ (I.base.tups b xs q), fun b ob u q => tr _ _ (I.base.frzs b ob u q), fun b ps q => ?_⟩, I.loc, I.cell, nn _ (Ne.symm o.loc) I.free, fun x c q => nn c (o.cell x c q) (I.freeC x c q), fun p hp => ?_, fun b u q => ?_, I.len⟩
  · obtain ⟨more, e1⟩ := I.base.tbls b ps q
    exact ⟨more, tr _ _ e1⟩
  · obtain ⟨e1, n, r⟩ := I.pin p hp
    exact ⟨e1, nn _ (o.pin p hp) n, r⟩
  · by_cases hb : b = a
    · subst hb
      rw [upd_same] at q
      cases q
      exact exW_ok e
    · rw [upd_ne hb] at q
      exact (I.hok b u q).stay (fun _ _ _ z => z) (fun c z => tr _ _ z) fun c xs z => tr _ _ z
abbrev Cx.late (X : Cx) (A' : Around) : Cx := { X with A := A', calm := false }
theorem Cx.Ok.late (ok : X.Ok) (hA : A'.frames = X.A.frames) : (X.late A').Ok :=
  ⟨ok.mod, ok.kind, ok.glob, ok.blt, ok.above, ok.inj, ok.has, ok.cab, fun z => (nomatch z), hA.trans ok.frames, ok.stk, ok.exf, ok.bs, ok.bsz, ok.noex, ok.exfs, ok.funs, ok.frf⟩
theorem Inv.late (I : Inv X pins σ H s) (hA : A'.frames = X.A.frames) : Inv (X.late A') pins σ H s := ⟨I.ok.late hA, I.os, I.bare, I.base, I.loc, I.cell, I.free, I.freeC, I.pin, I.hok, I.len⟩
theorem Inv.unlate (ok : X.Ok) (I : Inv (X.late A') pins σ H s) : Inv X pins σ H s := ⟨ok, I.os, I.bare, I.base, I.loc, I.cell, I.free, I.freeC, I.pin, I.hok, I.len⟩
def XT (K : PySem.W.Frag) (T : Addr) : Prop := ∃ nm q N bs bm hd sn sub ab col dd k0 k1 k2 k3 k5 nid, K.lookup T = some (excClassObj nm q T N bs bm hd sn sub ab col dd k0 k1 k2 k3 k5 nid) ∧ bm.contains (.type "BaseException") = true
def hdl (K : PySem.W.Frag) (T : Addr) (j : Nat) (ts : TS) (En : Ends) (σ : St) : XK := fun c dx H => ∃ C D N, c = .ref C ∧ XC K C D N ∧ (T = D ∨ T = C) ∧
  ∀ a, H a = none → ts { nx := fun σ' H' => En.nx (σ'.set j none) H', rt := En.rt } (σ.set j (some (.ref a))) (upd H a (ExW a C dx))
theorem Inv.goes {E : Value → Shared → Prop} {M : Model} {A : Around} {j : Nat} {n : Str} {pos : Pos} {Q : Unit → Shared → Prop} (I : Inv X pins σ H s) (hN : X.N.Nodup) (hj : X.N[j]? = some n) (hl : X.env.scope.names.lookup n = some .local)
    (q : ∀ s', Inv X pins (σ.set j none) H s' → Q () s') : wpAny M A (do bindName X.env n .none; unbindBehindTheSuite X.env n pos) Q E s := by
  obtain ⟨m, hn, hlk⟩ := I.loc
  refine wpAny_nameGoes_keeps hl hn (by rw [I.ok.kind]; rfl) fun h' v hn' hs => q _ ?_
  have oth : ∀ b, b ≠ X.env.locals → h'.get? b = s.heap.get? b := fun b hb => hs.2 b hb
  have old : ∀ b o, X.s₀.heap.get? b = some o → b ≠ X.env.locals := fun b o e => Nat.ne_of_lt (Nat.lt_of_lt_of_le (Heap.lt_size e) I.ok.above)
  refine ⟨I.ok, I.os, I.bare, ⟨fun b o e n' hb hx => (oth b (old b o e)).trans (I.base.keep b o e n' hb hx), fun b o e n' hb hx => ?_, I.base.free, fun b o e hx => ?_, I.base.tups, I.base.frzs, I.base.tbls⟩, ⟨_, hn', fun i x u e1 e2 e3 => ?_⟩, fun x c e => ?_, I.free, I.freeC, fun p hp => ?_, fun b u e => ?_, by simpa using I.len⟩
  · obtain ⟨sl, z⟩ := I.base.slot b o e n' hb hx
    exact ⟨sl, (oth b (old b o e)).trans z⟩
  · obtain ⟨o', z⟩ := I.base.there b o e hx
    exact ⟨o', (oth b (old b o e)).trans z⟩
  · have hij : i ≠ j := fun z => by
      subst z
      rw [List.getElem?_set] at e2
      simp at e2
    rw [List.getElem?_set_ne (Ne.symm hij)] at e2
    obtain ⟨u', r, l⟩ := hlk i x u e1 e2 e3
    refine ⟨u', r, ?_⟩
    rcases l with ⟨k, z⟩ | ⟨k, c, e, z⟩
    · refine .inl ⟨k, ?_⟩
      have : x ≠ n := fun z => hij (nodup_ix hN e1 (z ▸ hj))
      simp [this, z]
    · exact .inr ⟨k, c, e, z.sameBut hs (I.cne x c e)⟩
  · obtain ⟨w', z⟩ := I.cell x c e
    exact ⟨w', z.sameBut hs (I.cne x c e)⟩
  · obtain ⟨e, n', ne, nf, d⟩ := I.pin p hp
    exact ⟨(oth p.1 ne).trans e, n', ne, nf, d⟩
  · refine (I.hok b u e).stay (fun c v hc z => (oth c ?_).trans z) (fun _ z => z) fun _ _ z => z
    rintro rfl
    rcases hc with rfl | hc
    · rw [I.free] at e; cases e
    · rw [I.free] at hc; cases hc
theorem try_core {T : Addr} {j : Nat} {n tn : Str} {p5 p6 p7 : Pos} {body suite : List Stmt} {b₀ : Stmt} {ts : TS} {En : Ends} {σ₀ : St} (hs : X.stack = X.env :: X.outer ∧ X.env.frame = some X.env.locals) (hx : X.ex = []) (hxe : ∀ e s, ¬ X.xe e s) (hN : X.N.Nodup) (hj : X.N[j]? = some n) (hl : X.env.scope.names.lookup n = some .local)
    (xt : XT X.K T) (hg : Gl X tn) (hm : X.mg tn = some (.ref T)) (hd : (tn == ("__debug__" : Str)) = false) (hst : ∀ A', A'.frames = X.A.frames → A'.depth = X.A.depth → A'.units = X.A.units → A'.guards = X.A.guards → PSs (X.late A') (b₀ :: suite) ts) (I : Inv X pins σ₀ H s)
    (hb : wpAny (model X.prog X.w) X.A (execs body X.env) (SP X pins En) (fun e s' => ∃ a C dx H' σ, e = .ref a ∧ Inv X pins σ H' s' ∧ FlS X pins H' s'.heap a C dx (some .none) ∧ hdl X.K T j ts En σ (.ref C) dx H') s) :
    wpAny (model X.prog X.w) X.A (exec (.Try body [.ExceptHandler (some (.Name tn p5)) (some n) (b₀ :: suite) p6] [] [] p7) X.env) (SP X pins En) X.xe s := by
  refine wpAny_Try_except (wpAny_mono hb (fun f s1 q => ?_) fun e s1 ⟨a, C, dx, H1, σ, ee, I1, f1, C', D, N, ec, c, ht, q⟩ => ?_)
  · cases f with
    | next => exact wpAny_execs_nil q
    | ret v => exact q
    | brk => exact q
    | cont => exact q
  subst ee
  cases ec
  refine station I1 rfl hs hx f1 (.inr rfl) fun s2 I2 f2 => land I2 f2 fun s3 I3 f3 => ?_
  have fr : ∀ h : Option Value, (X.A.mark h).frames = X.A.frames := fun h => rfl
  have I3' := I3.late (A' := X.A.mark (some (.ref a))) (fr _)
  refine wpAny_handleBy_cons (codeAny_handlers_test (ld_glob (X := X.late (X.A.mark (some (.ref a)))) I3' hg hm ?_ hd)) (by intro z; cases z)
  obtain ⟨nm, qn, bs, sn, sub, ab, col, dd, k0, k1, k2, k3, k5, lk⟩ := c.sh
  obtain ⟨nm', q', N', bs', bm', hd', sn', sub', ab', col', dd', j0, j1, j2, j3, j5, nid', lkT, hbT⟩ := xt
  obtain ⟨own, vs, sl, ea, r3⟩ := f3
  have hC := I3.kIn _ _ lk
  have hT := I3.kIn _ _ lkT
  have hin : (Value.ref C :: .ref D :: bmVE).contains (.ref T) = true := by rcases ht with rfl | rfl <;> simp
  obtain ⟨hh, g, d, tk, os⟩ := s3
  refine matches_sub hC hT ea rfl (by rw [List.contains_cons, hbT, Bool.or_true]) hin (codeAny_handlers_suite_as ?_)
  refine land I3 ⟨own, vs, sl, ea, r3⟩ fun s4 I4 f4 => ?_
  obtain ⟨own4, vs4, sl4, ea4, r4⟩ := f4
  have I5 := (I4.track own4 ea4).late (A' := X.A.mark (some (.ref a))) (fr _)
  refine store_ok (X := X.late (X.A.mark (some (.ref a)))) I5 hN hj (.inl hl) (v := .ref a) rfl (fun s5 I6 => ?_) (.inr hl)
  refine wpAny_mono (hst _ (fr _) rfl rfl rfl pins s5 _ _ _ I6 (q a own4.free)) (fun f s6 z => ?_) fun e s6 z => absurd z (hxe e s6)
  show wpAny _ _ (do bindName X.env n .none; unbindBehindTheSuite X.env n p6) _ _ _
  cases f with
  | next =>
    obtain ⟨σ', H', I7, q7⟩ := z
    exact (I7.unlate I.ok).goes hN hj hl fun s7 I8 => ⟨_, _, I8, q7⟩
  | ret v =>
    obtain ⟨v', σ', H', I7, rv, q7⟩ := z
    exact (I7.unlate I.ok).goes hN hj hl fun s7 I8 => ⟨v', _, _, I8, rv, q7⟩
  | brk =>
    obtain ⟨σ', H', I7, q7⟩ := z
    exact q7.elim
  | cont =>
    obtain ⟨σ', H', I7, q7⟩ := z
    exact q7.elim
theorem call_at {k : Nat} {f : Addr} {fd : FuncData} {ps : List Str} {sp : Sp} {dvs : List V} {ds : List Value} {EK : XK} {x : Str} {p pos : Pos} {e : Expr} {es : List Expr} {t : TA} {Q : VK} {E' : Value → Shared → Prop} (F : FnOk X.prog X.w X.K X.mg X.base (CXE X.prog X.w) k f fd ps sp) (hr : Room k X.A) (hg : Gl X x) (hm : X.mg x = some (.ref f)) (hk : PySem.W.keepIn X.K (.ref f) = true) (hb : Binds X.K fd ps ds) (hd : Vals dvs ds)
    (ha : PA X (e :: es) t) (hx : X.ex = []) (hxe : ∀ e s, ¬ X.xe e s) (I : Inv X pins σ H s) (h : t σ H fun vs H1 => sp (vs ++ dvs) H1 Q EK)
    (hE : ∀ a C dx H' s', Inv X pins σ H' s' → FlS X pins H' s'.heap a C dx (some .none) → EK (.ref C) dx H' → E' (.ref a) s')
    (hdb : (x == ("__debug__" : Str)) = false := by decide) (he : starEach (e :: es) X.env = (false, eval e X.env) :: starEach es X.env := by rfl) (hpl : (backTo pos (starEach es X.env)).any (·.1) = false := by rfl) :
    wpAny (model X.prog X.w) X.A (eval (.Call (.Name x p) (e :: es) [] pos) X.env) (EP X pins σ Q) E' s := by
  refine wpAny_Call_Name_kw (ld_glob I hg hm ?_ hdb)
  refine PySem.W.callWith_K (h₀ := X.base) I.ok.mod.kin hk (wpAny_mono (ha pos pins s σ H _ I h) (fun us s1 ⟨vs, H1, I1, r, q⟩ => ⟨I1.kIn, ?_⟩) fun e s z => absurd z (hxe e s)) he hpl
  have r2 : Vals (vs ++ dvs) (us ++ ds) := r.append hd
  have hl : (us ++ ds).length = ps.length := by rw [← r2.length]; exact F.len _ _ _ _ q
  refine wpAny_call (codeAny_mono (F.run X.A X.stack s1 H1 ⟨us, []⟩ (us ++ ds) (vs ++ dvs) Q EK hr I1.env0 (hb s1 us I1.kIn hl) r2 q) fun r s' hq => ?_)
  cases r with
  | error e =>
    obtain ⟨a, C, dx, H', rfl, I', f', hE'⟩ := cx_at (H1 := H1) I1 rfl rfl hx hq
    exact hE a C dx H' s' I' f' hE'
  | ok fl =>
    cases fl with
    | ret u => exact I1.after hq
    | next => exact False.elim hq
    | brk => exact False.elim hq
    | cont => exact False.elim hq
def tTryA (K : PySem.W.Frag) (T : Addr) (i j : Nat) (sp : Sp) (dvs : List V) (t : TA) (ts : TS) : TS := fun En σ H => t σ H fun vs H1 => sp (vs ++ dvs) H1 (fun v H2 => En.nx (σ.set i (some v)) H2) (hdl K T j ts En σ)
theorem ps_tryA {T : Addr} {i j : Nat} {y n tn : Str} {p1 p4 p5 p6 p7 : Pos} {suite : List Stmt} {b₀ : Stmt} {ts : TS} {k : Nat} {f : Addr} {fd : FuncData} {ps : List Str} {sp : Sp} {dvs : List V} {ds : List Value} {x : Str} {p pos : Pos} {e : Expr} {es : List Expr} {t : TA}
    (F : FnOk X.prog X.w X.K X.mg X.base (CXE X.prog X.w) k f fd ps sp) (hr : Room k X.A) (hg : Gl X x) (hm : X.mg x = some (.ref f)) (hk : PySem.W.keepIn X.K (.ref f) = true) (hb : Binds X.K fd ps ds) (hd : Vals dvs ds) (ha : PA X (e :: es) t)
    (xt : XT X.K T) (hgT : Gl X tn) (hmT : X.mg tn = some (.ref T)) (hst : ∀ A', A'.frames = X.A.frames → A'.depth = X.A.depth → A'.units = X.A.units → A'.guards = X.A.guards → PSs (X.late A') (b₀ :: suite) ts)
    (hs : X.stack = X.env :: X.outer ∧ X.env.frame = some X.env.locals) (hx : X.ex = []) (hxe : ∀ e s, ¬ X.xe e s) (hN : X.N.Nodup) (hi : X.N[i]? = some y) (hy : X.env.scope.names.lookup y = some .local) (hj : X.N[j]? = some n) (hl : X.env.scope.names.lookup n = some .local)
    (hdT : (tn == ("__debug__" : Str)) = false := by decide) (hdb : (x == ("__debug__" : Str)) = false := by decide) (he : starEach (e :: es) X.env = (false, eval e X.env) :: starEach es X.env := by rfl) (hpl : (backTo pos (starEach es X.env)).any (·.1) = false := by rfl)
    (hsw : swapsWith (.Call (.Name x p) (e :: es) [] pos) (some (.Name y p1)) p4.line X.env = pure false := by rfl) :
    PS X (.Try [.Assign [.Name y p1] (.Call (.Name x p) (e :: es) [] pos) p4] [.ExceptHandler (some (.Name tn p5)) (some n) (b₀ :: suite) p6] [] [] p7) (tTryA X.K T i j sp dvs t ts) := by
  intro pins s σ H En I h
  refine try_core hs hx hxe hN hj hl xt hgT hmT hdT hst I ?_
  refine wpAny_execs_cons (wpAny_Assign_Name (wpAny_mono (call_at (σ := σ) F hr hg hm hk hb hd ha hx hxe I h (fun a C dx H' s' I' f' q => ⟨a, C, dx, H', σ, rfl, I', f', q⟩) hdb he hpl) (fun v s1 ⟨z, H1, I1, r1, q1⟩ => ?_) fun _ _ z => z) hsw)
  exact store_ok I1 hN hi (.inl hy) r1 (fun s2 I2 => wpAny_execs_nil ⟨_, H1, I2, q1⟩) (.inr hy)
end
end L2
set_option Elab.async false
set_option linter.all false
set_option maxRecDepth 100000
set_option maxHeartbeats 4000000
namespace L2
open PySem PySem.Spec PyProof.Rows
section
variable {X : Cx}
end
section
variable {P : Program} {w : World} {K : PySem.W.Frag} {mg : Str → Option Value} {base : Heap}
theorem Fun.okE {x qual : Str} {st : Stmt} {f : Addr} {fd : FuncData} {N ps : List Str} {k : Nat} {sp : Sp} (F : Fun K x qual st f fd) (S : FnScope N ps (defScope st)) (len : ∀ vs H Q E, sp vs H Q E → vs.length = ps.length)
    (hbody : ∀ (cdv : Value) (A : Around) (outer : List Env) (s : Shared) (H : Hp) (vs : List V) (Q : VK) (E : XK), Room k (A.deeper (envOfC qual (defScope st) s.heap.objs.size f cdv)) → sp vs H Q E →
      ∃ t, PSs (cxOf (CXE P w) P w K mg base N qual (defScope st) f cdv A outer s H E) (defBody st) t ∧ t { nx := fun _ H' => Q .non H', rt := Q } (start N vs) H) : FnOk P w K mg base (CXE P w) (k + 1) f fd ps sp := by
  obtain ⟨oc, od, kV, doc, pm, an, cdv, ct, osl, rfl, lk, hcd⟩ := F.ex
  exact fn_of lk hcd S len fun A outer s H vs Q E hr hsp => hbody cdv A outer s H vs Q E hr hsp
end
section
variable {X : Cx}
def ExAtW (H : Hp) (a C : Addr) : Prop := ∃ dx, H a = some (ExW a C dx) ∧ ∀ d, dx = some d → ∃ fs, H d = some (.xd fs)
theorem ExAtW.inst {pins : List (Addr × Obj)} {σ : St} {H : Hp} {s : Shared} {a C : Addr} (I : Inv X pins σ H s) (e : ExAtW H a C) : ∃ o od, PySem.W.InstAt s.heap a o C od := by
  obtain ⟨dx, ea, ed⟩ := e
  obtain ⟨⟨vs, sl, eo⟩, _, _⟩ := (show ObjOk X.prog X.w H s.heap a (ExW a C dx) from I.hok a _ ea)
  cases dx with
  | none => exact ⟨_, none, eo, rfl, rfl, True.intro⟩
  | some d =>
    obtain ⟨fs, e⟩ := ed d rfl
    obtain ⟨mA, ⟨od, es, ep, h1, _⟩, _⟩ := (show ObjOk X.prog X.w H s.heap d (.xd fs) from I.hok d _ e)
    exact ⟨_, some od, eo, rfl, rfl, h1⟩
def tupRefs (H : Hp) (c : Addr) (cs : List Addr) : Prop := H c = some (.tup (cs.map V.ref))
def rIsW (K : PySem.W.Frag) : List V → Hp → VK → Prop := fun xs H Q => match xs with
  | [.ref a, .ty n] => ∃ C D N b, ExAtW H a C ∧ XC K C D N ∧ XI K C ∧ PySem.W.kitOne K (.ref C) (.type n) = some b ∧ Q (.bl b) H
  | [.ref a, .ref c] => ∃ C D N b, ExAtW H a C ∧ XC K C D N ∧ XI K C ∧ (PySem.W.kitOne K (.ref C) (.ref c) = some b ∨ ∃ cs, tupRefs H c cs ∧ PySem.W.kitAny K (.ref C) (cs.map Value.ref) = some b) ∧ Q (.bl b) H
  | _ => False
theorem rIsW_ty (K : PySem.W.Frag) (a : Addr) (n : String) (H : Hp) (Q : VK) : rIsW K [.ref a, .ty n] H Q = (∃ C D N b, ExAtW H a C ∧ XC K C D N ∧ XI K C ∧ PySem.W.kitOne K (.ref C) (.type n) = some b ∧ Q (.bl b) H) := rfl
theorem rIsW_ref (K : PySem.W.Frag) (a c : Addr) (H : Hp) (Q : VK) : rIsW K [.ref a, .ref c] H Q = (∃ C D N b, ExAtW H a C ∧ XC K C D N ∧ XI K C ∧ (PySem.W.kitOne K (.ref C) (.ref c) = some b ∨ ∃ cs, tupRefs H c cs ∧ PySem.W.kitAny K (.ref C) (cs.map Value.ref) = some b) ∧ Q (.bl b) H) := rfl
theorem vals_refs : ∀ {cs : List Addr} {us : List Value}, Vals (cs.map V.ref) us → us = cs.map Value.ref
  | [], _, .nil => rfl
  | c :: cs, _, .cons r t => by
    cases r
    rw [vals_refs t]
    rfl
theorem call_isW {K : PySem.W.Frag} (hK : X.K = K) : CallR X (.builtin "isinstance") (rIsW K) := by
  subst hK
  intro pins s σ H xs us Q I r h
  unfold rIsW at h
  split at h
  · rename_i a n
    obtain ⟨C, D, N, b, ea, c, xi, e, q⟩ := h
    obtain ⟨u, w', rfl, rx, rc⟩ := vals2 r
    cases rx
    cases rc
    exact PySem.W.kia_one (kitx_exc c xi) I.kIn (ea.inst I) e (fun z => nomatch z) fun tk => ⟨.bl b, H, I.tok tk, rfl, q⟩
  · rename_i a n
    obtain ⟨C, D, N, b, ea, c, xi, e, q⟩ := h
    obtain ⟨u, w', rfl, rx, rc⟩ := vals2 r
    cases rx
    cases rc
    rcases e with e | ⟨cs, et, e⟩
    · exact PySem.W.kia_one (kitx_exc c xi) I.kIn (ea.inst I) e (fun z => nomatch z) fun tk => ⟨.bl b, H, I.tok tk, rfl, q⟩
    · obtain ⟨its, r1, p1, _⟩ := I.tuple (SqT.of et)
      obtain ⟨⟨cl, dd, data, sl⟩, ho, hc, n', hd⟩ := id p1
      simp only at hc hd
      subst hc hd
      rw [vals_refs r1] at ho
      exact PySem.W.kia_tup (kitx_exc c xi) I.kIn (ea.inst I) ho e (fun z => nomatch z) fun tk => ⟨.bl b, H, I.tok tk, rfl, q⟩
  · exact h.elim
def tExcFldW (K : PySem.W.Frag) (ta : TE) (f : Str) : TE := fun σ H Q => ta σ H fun x H1 => ∃ a C D N dx fs v, x = .ref a ∧ H1 a = some (ExW a C (some dx)) ∧ H1 dx = some (.xd fs) ∧ XC K C D N ∧ PySem.W.findIn K (.ref C) f = some none ∧ fs.lookup f = some v ∧ Q v H1
theorem pe_excFldW {e : Expr} {f : Str} {pos : Pos} {ta : TE} (he : PE X e ta) (hb : attributeBase e f X.env (eval e X.env) = eval e X.env) : PE X (.Attribute e f pos) (tExcFldW X.K ta f) := by
  intro pins s σ H Q I h
  refine attr_of hb (thn (he pins s σ H _ I h) fun u s1 ⟨x, H1, I1, rx, a, C, D, N, dx, fs, v, ex, ea, ed, c, nf, l, q⟩ => ?_)
  subst ex
  obtain rfl : u = Value.ref a := rx
  obtain ⟨nm, qn, bs, sn, sub, ab, col, dd, k0, k1, k2, k3, k5, lk⟩ := c.sh
  have hC := I1.kIn _ _ lk
  obtain ⟨⟨vs, sl, eo⟩, _, _⟩ := (show ObjOk X.prog X.w H1 s1.heap a (ExW a C (some dx)) from I1.hok a _ ea)
  obtain ⟨mA, hns, hr⟩ := (show ObjOk X.prog X.w H1 s1.heap dx (.xd fs) from I1.hok dx _ ed)
  obtain ⟨u', hu, ru⟩ := RelO.some_of (v := v) (o := mA f) (by rw [← l]; exact hr f)
  have F1 := Finds.of (M := model X.prog X.w) I1.kIn c.ga
  have F2 := Finds.of (M := model X.prog X.w) I1.kIn c.gx
  have F3 := Finds.of (M := model X.prog X.w) I1.kIn nf
  have ho := PySem.W.handedOut_of (handed_of ru)
  obtain ⟨hh, g, d, tk, os⟩ := s1
  exact exc_getAttr (by decide) hC F1 F2 F3 eo rfl (fun c e => by cases e) rfl hns hu ho fun tk' => ⟨v, H1, I1.tok _, ru, q⟩
end
end L2
set_option Elab.async false
set_option linter.all false
set_option maxRecDepth 100000
set_option maxHeartbeats 4000000
namespace L2
open PySem PySem.Spec PyProof.Rows
section
variable {X : Cx}
def rUp : V → List V → Hp → VK → Prop := fun x vs H Q => match x, vs with
  | .str z, [] => Builtin.Str.tooLong (Txt.upper z).length = false ∧ Q (.str (Txt.upper z)) H
  | _, _ => False
theorem rUp_str (z : Str) (H : Hp) (Q : VK) : rUp (.str z) [] H Q = (Builtin.Str.tooLong (Txt.upper z).length = false ∧ Q (.str (Txt.upper z)) H) := rfl
theorem mt_up : MtM X "str.upper" rUp := by
  intro pins s σ H x vs v us Q I rx rv h
  unfold rUp at h
  split at h
  · rename_i z
    obtain ⟨hf, q⟩ := h
    obtain ⟨t, rfl⟩ := rx
    cases rv
    exact call_gives PySem.F.slot_str_upper (typeIs_str s z t) PySem.F.entry_str_upper (PySem.F.args_str_upper_1 _) (gives_str_upper z t hf) ⟨fit_le hf, ⟨.str _, H, I.tok _, ⟨_, rfl⟩, q⟩⟩
  · exact h.elim
theorem tyV_str (K : PySem.W.Frag) (z : Str) (H : Hp) : tyV K "str" (.str z) H = True := by simp [tyV]
theorem qpe_up {o : Expr} {to : TE} {apos cpos : Pos} (ho : QE X o to) (hbase : attributeBase o "upper" X.env (eval o X.env) = eval o X.env := by rfl) (hline : (apos.endLine == cpos.line) = true := by rfl) :
    QE X (.Call (.Attribute o "upper" apos) [] [] cpos) (tBM0 X.K "str" rUp to) := ⟨pe_bm0 PySem.F.plainAttrs_str PySem.F.slot_str_upper PySem.F.type_str_upper mt_up ho.h hbase hline⟩
theorem qps_raise {e : Expr} {te : TE} {pos : Pos} {E : XK} {K : PySem.W.Frag} (hK : X.K = K) (hc : X.calm = true) (hx : X.ex = []) (l : Leaves X E) (he : QE X e te) : QS X (.Raise (some e) none pos) (tRaise K X.H₀ E te) := by subst hK; exact ⟨ps_raise hc hx l he.h⟩
theorem qpe_excFldW {e : Expr} {f : Str} {pos : Pos} {ta : TE} {K : PySem.W.Frag} (hK : X.K = K) (he : QE X e ta) (hb : attributeBase e f X.env (eval e X.env) = eval e X.env) : QE X (.Attribute e f pos) (tExcFldW K ta f) := by subst hK; exact ⟨pe_excFldW he.h hb⟩
theorem qps_tryA {K : PySem.W.Frag} {T : Addr} {i j : Nat} {y n tn : Str} {p1 p4 p5 p6 p7 : Pos} {suite : List Stmt} {b₀ : Stmt} {ts : TS} {k : Nat} {f : Addr} {fd : FuncData} {ps : List Str} {sp : Sp} {x : Str} {p pos : Pos} {e : Expr} {es : List Expr} {t : TA}
    (hK : X.K = K) (F : FnOk X.prog X.w K X.mg X.base (CXE X.prog X.w) k f fd ps sp) (hr : Room k X.A) (hg : Gl X x) (hm : X.mg x = some (.ref f)) (hk : PySem.W.keepIn K (.ref f) = true) (hb : Binds K fd ps []) (ha : QA X (e :: es) t)
    (xt : XT K T) (hgT : Gl X tn) (hmT : X.mg tn = some (.ref T)) (hst : ∀ A', A'.frames = X.A.frames → A'.depth = X.A.depth → A'.units = X.A.units → A'.guards = X.A.guards → QSs (X.late A') (b₀ :: suite) ts)
    (hs : X.stack = X.env :: X.outer ∧ X.env.frame = some X.env.locals) (hx : X.ex = []) (hxe : ∀ e s, ¬ X.xe e s) (hN : X.N.Nodup) (hi : X.N[i]? = some y) (hy : X.env.scope.names.lookup y = some .local) (hj : X.N[j]? = some n) (hl : X.env.scope.names.lookup n = some .local)
    (hdT : (tn == ("__debug__" : Str)) = false := by decide) (hdb : (x == ("__debug__" : Str)) = false := by decide) (he : starEach (e :: es) X.env = (false, eval e X.env) :: starEach es X.env := by rfl) (hpl : (backTo pos (starEach es X.env)).any (·.1) = false := by rfl)
    (hsw : swapsWith (.Call (.Name x p) (e :: es) [] pos) (some (.Name y p1)) p4.line X.env = pure false := by rfl) :
    QS X (.Try [.Assign [.Name y p1] (.Call (.Name x p) (e :: es) [] pos) p4] [.ExceptHandler (some (.Name tn p5)) (some n) (b₀ :: suite) p6] [] [] p7) (tTryA K T i j sp [] t ts) := by
  subst hK
  exact ⟨ps_tryA F hr hg hm hk hb .nil ha.h xt hgT hmT (fun A' h1 h2 h3 h4 => (hst A' h1 h2 h3 h4).h) hs hx hxe hN hi hy hj hl hdT hdb he hpl hsw⟩
end
end L2
set_option Elab.async false
set_option linter.all false
set_option maxRecDepth 100000
set_option maxHeartbeats 4000000
namespace L2
open PySem PySem.Spec PyProof.Rows
section
variable {prog : Program} {w : World} {A : Around} {E : Value → Shared → Prop} {s : Shared}
theorem tupNext_item {h : Heap} {g : Array GenState} {d : Drawn} {t : Nat} {os : OsState} {it a : Addr} {i : Nat} {vs : Array Value} {u : Value} {Q : Value → Shared → Prop} (hi : h.IsTupleIter it a i) (ha : h.IsTuple a vs) (hu : vs[i]? = some u)
    (q : ∀ h', h'.IsTupleIter it a (i + 1) → Heap.SameBut it h h' → Q u ⟨h', g, d, t, os⟩) : wpAny (model prog w) A (Builtin.SmallTypes.nextOf (.ref it)) Q E ⟨h, g, d, t, os⟩ := by
  obtain ⟨⟨ci, di, dti, si⟩, e1, c1, d1⟩ := id hi
  obtain ⟨⟨ca, da, dta, sa⟩, e2, c2, n2, d2⟩ := ha
  dsimp only at c1 d1 c2 d2
  subst c1 d1 c2 d2
  have sl := PySem.F.slot_tuple_iterator_next
  have hT : (⟨h, g, d, t, os⟩ : Shared).TypeIs (.ref it) "tuple_iterator" := hi.typeIs
  have fin := q _ ⟨_, Heap.get?_update_self (Obj.mapFields (·.setIfInBounds 1 (rawInt (i + 1)))) e1 rfl, rfl, by simp [Obj.mapFields, rawInt]⟩ (.update ..)
  refine wpAny_bind (wpAny_callSpecial?_slot hT sl (wpAny_call_entry sl hT PySem.F.entry_tuple_iterator_next ?_ (PySem.F.args_tuple_iterator_next_1 _)))
  unfold Builtin.«tuple_iterator.__next__»
  repeat (any_goals (first | assumption | with_reducible refine wpAny_loadPart_at e1 ?_ | with_reducible refine wpAny_loadPart_at e2 ?_ | wp_step))
  have e3 : vs[((i : Nat) : Int).toNat]? = some u := hu
  rw [e3]
  exact wpAny_bind (wpAny_setField e1 rfl (by simp) (wpAny_pure ⟨u, rfl, wpAny_pure fin⟩))
theorem tupNext_end {h : Heap} {g : Array GenState} {d : Drawn} {t : Nat} {os : OsState} {it a : Addr} {i : Nat} {vs : Array Value} {Q : Value → Shared → Prop} (hh : A.handled = none) (hi : h.IsTupleIter it a i) (ha : h.IsTuple a vs) (hu : vs[i]? = none)
    (q : ∀ h' e, Heap.ExtBut it h h' → (∃ o, h'.get? e = some o ∧ o.cls = .type "StopIteration") → E (.ref e) ⟨h', g, d, t, os⟩) : wpAny (model prog w) A (Builtin.SmallTypes.nextOf (.ref it)) Q E ⟨h, g, d, t, os⟩ := by
  obtain ⟨⟨ci, di, dti, si⟩, e1, c1, d1⟩ := id hi
  obtain ⟨⟨ca, da, dta, sa⟩, e2, c2, n2, d2⟩ := ha
  dsimp only at c1 d1 c2 d2
  subst c1 d1 c2 d2
  have sl := PySem.F.slot_tuple_iterator_next
  have hT : (⟨h, g, d, t, os⟩ : Shared).TypeIs (.ref it) "tuple_iterator" := hi.typeIs
  have h1 : A.in1.handled = none := hh
  refine wpAny_bind (wpAny_callSpecial?_slot hT sl (wpAny_call_entry sl hT PySem.F.entry_tuple_iterator_next ?_ (PySem.F.args_tuple_iterator_next_1 _)))
  unfold Builtin.«tuple_iterator.__next__»
  repeat (any_goals (first | assumption | with_reducible refine wpAny_loadPart_at e1 ?_ | with_reducible refine wpAny_loadPart_at e2 ?_ | wp_step))
  have e3 : vs[((i : Nat) : Int).toNat]? = none := hu
  rw [e3]
  refine wpAny_bind (wpAny_rule (wpAny_bind (wpAny_setField e1 rfl (by simp) ?_)))
  unfold Builtin.SmallTypes.stopIteration
  have fm : firstArgMember (.type "StopIteration") [] = pure .none := rfl
  unfold newExc
  repeat (any_goals (first | assumption | rw [fm] | wp_step))
  exact wpAny_raiseNew_none h1 (q _ _ (((Heap.SameBut.update ..).extBut.push _).push _) ⟨_, Heap.get?_push_size _ rfl, rfl⟩)
theorem dr_tup (hh : A.handled = none) (it a : Addr) (ne : a ≠ it) (vs : Array Value) : Draws prog w A it [it, a] vs.size (fun i v => vs[i]? = some v) (fun i h => h.IsTupleIter it a i ∧ h.IsTuple a vs) where
  live := fun _ _ st => let ⟨o, ho, _⟩ := st.1; ⟨o, ho⟩
  frame := fun _ _ _ st hk => by
    obtain ⟨⟨o, ho, r⟩, ⟨o2, ho2, r2⟩⟩ := st
    exact ⟨⟨o, hk it (by simp) o ho, r⟩, ⟨o2, hk a (by simp) o2 ho2, r2⟩⟩
  item := fun i s Q E hi st hQ => by
    obtain ⟨hp, g, d, t, os⟩ := s
    obtain ⟨o2, ho2, r2⟩ := st.2
    exact tupNext_item st.1 st.2 (u := vs[i]) (by simp [hi]) fun h' hit' hs' => hQ _ h' t (by simp [hi]) ⟨hit', ⟨o2, (hs'.2 a ne).trans ho2, r2⟩⟩ hs'
  done := fun s Q E st hE => by
    obtain ⟨hp, g, d, t, os⟩ := s
    exact tupNext_end hh st.1 st.2 (by simp) hE
open AutoSeq1 (wpAny_loadPart') in
theorem enumT_new (a : Addr) (vs : Array Value) (n : Nat) (dct : Option Addr) (sl : Array (Option Value)) :
    Meets (Builtin.«enumerate.__new__» ⟨[.type "enumerate", .ref a], []⟩) (fun _ R s => s.heap.get? a = some ⟨.type "tuple", dct, .seq vs n, sl⟩ ∧
      R (.ok (.ret (.ref (s.heap.push { cls := .type "tuple_iterator", data := .fields #[.ref a, .int 0 0] }).objs.size)))
        { s with heap := (s.heap.push { cls := .type "tuple_iterator", data := .fields #[.ref a, .int 0 0] }).push { cls := .type "enumerate", data := .fields #[.none, .bool false, .ref s.heap.objs.size, rawInt 0, .none, .none] } }) :=
  .of_wp fun prog w A R s h => by
    obtain ⟨hp, g, d, tk, os⟩ := s; obtain ⟨ha, h⟩ := h
    have hsb := sub_enumerate
    have hT : Heap.IsTuple (Shared.heap ⟨hp, g, d, tk, os⟩) a vs := ⟨_, ha, rfl, n, rfl⟩
    wp_walk using wpAny_loadPart' ha
    refine wpAny_stack_any fun k => wpAny_pure ?_
    split <;> (try (rename_i c _ _ _ _ _; generalize (c == Value.type "enumerate") = b; cases b)) <;> (wp_walk using wpAny_loadPart' ha, wpAny_pyIter_tuple hT) <;> exact ⟨_, rfl, h⟩
theorem call_enumT {a : Addr} {vs : Array Value} {Q : Value → Shared → Prop} (ht : s.heap.IsTuple a vs)
    (q : ∀ h', IsEnum h' (s.heap.objs.size + 1) s.heap.objs.size 0 .none → h'.IsTupleIter s.heap.objs.size a 0 → (∀ b o, s.heap.get? b = some o → h'.get? b = some o) → Q (.ref (s.heap.objs.size + 1)) { s with heap := h' }) :
    wpAny (model prog w) A (call (.type "enumerate") [.ref a]) Q E s := by
  obtain ⟨⟨c, dct, dt, sl⟩, ha, hc, n, hd⟩ := ht
  dsimp only at hc hd
  subst hc hd
  refine callType_new PySem.F.called_enumerate (by decide) (PySem.F.typeCall_enumerate_1 _) (PySem.F.newCall_enumerate_1 _) (fun obj => PySem.F.args_object_init_2 obj _) PySem.F.entry_enumerate_new (enumT_new a vs n dct sl) ⟨ha, ?_⟩
  have hz : (s.heap.push { cls := .type "tuple_iterator", data := .fields #[.ref a, .int 0 0] }).objs.size = s.heap.objs.size + 1 := Heap.size_push ..
  have he : IsEnum ((s.heap.push { cls := .type "tuple_iterator", data := .fields #[.ref a, .int 0 0] }).push { cls := .type "enumerate", data := .fields #[.none, .bool false, .ref s.heap.objs.size, rawInt 0, .none, .none] }) (s.heap.objs.size + 1) s.heap.objs.size 0 .none := by
    have e := Heap.get?_push_size (s.heap.push { cls := .type "tuple_iterator", data := .fields #[.ref a, .int 0 0] }) (o := { cls := .type "enumerate", data := .fields #[.none, .bool false, .ref s.heap.objs.size, rawInt 0, .none, .none] }) rfl
    rw [hz] at e; exact e
  show _ ∧ _
  rw [hz]
  exact ⟨⟨_, he, rfl⟩, q _ he ⟨_, Heap.get?_push_of_some _ (Heap.get?_push_size _ rfl), rfl, rfl⟩ fun b o x => Heap.get?_push_of_some _ (Heap.get?_push_of_some _ x)⟩
end
def ItE (K : PySem.W.Frag) (a : Addr) : It := ⟨fun i H => ∃ xs x, SqT K H a xs ∧ xs[i]? = some x, fun i H x H' => ∃ T y, H T = none ∧ x = .ref T ∧ (∀ xs, SqT K H a xs → xs[i]? = some y) ∧ H' = upd H T (.tup [.int (i : Int), y]), fun i H => ∃ xs, SqT K H a xs ∧ xs.length = i⟩
theorem turn_enumT {P : Program} {w : World} {K : PySem.W.Frag} {elts : List Expr} {kk : Nat} {pos : Pos} (a e it : Addr) (ne : e ≠ it) : Turn P w K (.Tuple elts kk pos) (ItE K a) [e, it] e (fun i h => (∃ old, IsEnum h e it i old) ∧ h.IsTupleIter it a i) where
  mem := by simp
  obj := fun i h st b hb => by
    obtain ⟨⟨old, he⟩, ⟨o, ho, hc, hd⟩⟩ := st
    rcases List.mem_cons.mp hb with rfl | hb
    · exact ⟨_, he, fun v z => by cases z⟩
    · rw [List.mem_singleton.mp hb]
      exact ⟨o, ho, fun v z => by rw [hd] at z; cases z⟩
  keep := fun i h h' st k => by
    obtain ⟨⟨old, he⟩, ⟨o, ho, r⟩⟩ := st
    exact ⟨⟨old, k e (by simp) _ he⟩, ⟨o, k it (by simp) o ho, r⟩⟩
  item := by
    intro X hP hw hK hc i pins s σ H E I hf st hg
    subst hP hw hK
    obtain ⟨xs, x, hq, hx⟩ := hg
    obtain ⟨its, rv, p, hz⟩ := I.tuple hq
    obtain ⟨u, hu, ru⟩ := rv.get hx
    have fr : ∀ b ∈ [e, it], b ≠ a := fun b hb z => by
      subst z
      obtain ⟨o, eo, hcl⟩ : ∃ o, s.heap.get? b = some o ∧ o.cls ≠ .type "tuple" := by
        obtain ⟨⟨old, he⟩, ⟨o, ho, hc', hd⟩⟩ := st
        rcases List.mem_cons.mp hb with rfl | hb
        · exact ⟨_, he, by simp⟩
        · rw [List.mem_singleton.mp hb]
          exact ⟨o, ho, by rw [hc']; simp⟩
      obtain ⟨o2, ho2, hc2, _⟩ := p
      rw [eo] at ho2
      cases ho2
      exact hcl hc2
    have WA := WalksT.enumerateD (dr_tup (prog := X.prog) (w := X.w) (A := X.A.in1) (show X.A.in1.handled = none from I.ok.hd hc) it a (fr it (by simp)).symm its.toArray) e ne (by simp [ne, fr e (by simp)]) (by simp)
    have hlt : i < its.toArray.size := by
      rw [List.size_toArray]
      exact (List.getElem?_eq_some_iff.mp hu).1
    refine WA.item i s _ _ hlt ⟨st.1, st.2, p⟩ fun T vs h' tk hp hT htup mid kk' => ⟨_, rfl, ?_⟩
    have nTw := WA.apart _ _ _ mid
    refine WA.go _ _ _ i T { s with heap := h', toks := tk } _ _ mid fun h'' st'' k'' => ?_
    have tup' : IsTup h'' T vs := by
      obtain ⟨o, eo, r⟩ := htup
      exact ⟨o, k'' T o nTw eo, r⟩
    have hv : Vals [V.int (i : Int), x] vs.toList := by
      obtain ⟨t', u', hu', rfl⟩ := hp
      rw [show its.toArray[i]? = some u from by simpa using hu] at hu'
      cases hu'
      exact .cons ⟨t', rfl⟩ (.cons ru .nil)
    refine ⟨.ref T, upd H T (.tup [.int (i : Int), x]), ?_, rfl, ⟨T, x, I.hok.fresh hT, rfl, fun ys hy => by rw [I.tuple_inj hy hq]; exact hx, rfl⟩, ⟨st''.1, st''.2.1⟩, fun b hb => ?_⟩
    · refine I.turnedNew (fp := [e, it]) (wr := [e, it]) hf (fun b o hb eo => k'' b o hb (kk' b o hb eo)) hT (by simpa using tup') hv (by show 2 ≤ sizeLine; decide) fun b hb => ?_
      obtain ⟨⟨old, he⟩, ⟨⟨o, ho, _⟩, _⟩⟩ := st''
      rcases List.mem_cons.mp hb with rfl | hb
      · exact ⟨_, he⟩
      · rw [List.mem_singleton.mp hb]; exact ⟨o, ho⟩
    · have hlt : b < s.heap.objs.size := by
        obtain ⟨⟨old, he⟩, ⟨o, ho, _⟩⟩ := st
        rcases List.mem_cons.mp hb with rfl | hb
        · exact Heap.lt_size he
        · rw [List.mem_singleton.mp hb]; exact Heap.lt_size ho
      rw [upd_ne (Nat.ne_of_lt (Nat.lt_of_lt_of_le hlt hT))]
      exact (hf b hb).1
  done := by
    intro X hP hw hK hc i pins s σ H E I hf st hg
    subst hP hw hK
    obtain ⟨xs, hq, hi⟩ := hg
    obtain ⟨its, rv, p, hz⟩ := I.tuple hq
    have fr : ∀ b ∈ [e, it], b ≠ a := fun b hb z => by
      subst z
      obtain ⟨o, eo, hcl⟩ : ∃ o, s.heap.get? b = some o ∧ o.cls ≠ .type "tuple" := by
        obtain ⟨⟨old, he⟩, ⟨o, ho, hc', hd⟩⟩ := st
        rcases List.mem_cons.mp hb with rfl | hb
        · exact ⟨_, he, by simp⟩
        · rw [List.mem_singleton.mp hb]
          exact ⟨o, ho, by rw [hc']; simp⟩
      obtain ⟨o2, ho2, hc2, _⟩ := p
      rw [eo] at ho2
      cases ho2
      exact hcl hc2
    have WA := WalksT.enumerateD (dr_tup (prog := X.prog) (w := X.w) (A := X.A.in1) (show X.A.in1.handled = none from I.ok.hd hc) it a (fr it (by simp)).symm its.toArray) e ne (by simp [ne, fr e (by simp)]) (by simp)
    have hn : its.toArray.size = i := by rw [List.size_toArray, ← rv.length]; exact hi
    refine WA.done s _ _ (by rw [hn]; exact ⟨st.1, st.2, p⟩) fun h' tk kk' => ⟨rfl, ?_⟩
    have nw : ∀ b u, H b = some u → b ∉ [e, it] := fun b u eo hb => by rw [(hf b hb).1] at eo; cases eo
    refine I.step (g' := s.gens) (d' := s.drawn) (ch := [e, it]) (fun b hb => ?_) (fun b o _ _ hc e _ => kk' b o hc e) (fun b o _ _ hc e _ => ⟨o.slots, kk' b o hc e⟩) (fun b o hc e n => n) (fun b o hc e => ⟨o, kk' b o hc e⟩)
      (fun _ _ e => e) (fun _ _ _ e => e) (fun b ps e => ⟨#[], by rw [e]; simp⟩) (fun m hm => ?_) (fun b u e => ?_) I.bare
    · obtain ⟨_, f1, _, f3, f4, f5⟩ := hf b hb
      exact ⟨f3, f1, f4, f5⟩
    · obtain ⟨o, es, ep, ho, rr⟩ := hm
      exact ⟨o, es, ep, kk' _ o (fun z => (hf _ z).2.1 rfl) ho, rr⟩
    · refine (I.hok b u e).stay (fun d v hd q => kk' d v ?_ q) (fun _ q => q) fun _ _ q => q
      rcases hd with rfl | hd
      · exact nw _ _ e
      · exact nw _ _ hd
  self := fun A i s Q E st q => by
    obtain ⟨⟨old, he⟩, _⟩ := st
    exact wpAny_pyIter_enum he q
theorem loop_ET {K : PySem.W.Frag} {a : Addr} {xs : List V} {g : TG} {tb : TS} {D : Ends} {σ : L2.St} {H : Hp} (Pv : Nat → L2.St → Hp → Prop) (h0 : Pv 0 σ H) (hl : ∀ i σ H, i ≤ xs.length → Pv i σ H → H a = some (.tup xs))
    (hs : ∀ i x σ H T, xs[i]? = some x → Pv i σ H → H T = none → g (.ref T) σ (upd H T (.tup [.int (i : Int), x])) fun σ2 H2 => tb { D with nx := Pv (i + 1), ct := Pv (i + 1), bk := D.nx } σ2 H2) (hd : ∀ σ H, Pv xs.length σ H → D.nx σ H) : LoopR (ItE K a) g tb D σ H := by
  refine ⟨fun i m σ H => m = xs.length - i ∧ i ≤ xs.length ∧ Pv i σ H, ⟨xs.length, by simp, Nat.zero_le _, h0⟩, ?_⟩
  rintro i m σ H ⟨rfl, hi, p⟩
  have q : SqT K H a xs := SqT.of (hl i σ H hi p)
  by_cases hlt : i < xs.length
  · refine .inr ⟨⟨xs, xs[i], q, by simp [hlt]⟩, Pv (i + 1), fun σ' H' p' => ⟨xs.length - (i + 1), by omega, rfl, hlt, p'⟩, fun x H' y => ?_⟩
    obtain ⟨T, y', hT, e1, hy, e2⟩ := y
    subst e1 e2
    exact hs i y' σ H T (hy xs q) p hT
  · have e : i = xs.length := by omega
    subst e
    exact .inl ⟨⟨xs, q, rfl⟩, hd σ H p⟩
section
variable {X : Cx}
def iEnumT (K : PySem.W.Frag) (ta : TA) : TI := fun σ H R => ta σ H fun vs H1 => ∃ a, vs = [.ref a] ∧ (∃ xs, SqT K H1 a xs) ∧ R (ItE K a) H1
theorem pi_enumT {K : PySem.W.Frag} {a : Expr} {ta : TA} {p pos tpos : Pos} {elts : List Expr} {kk : Nat} (hK : X.K = K) (hg : Gl X "enumerate") (hm : X.mg "enumerate" = none) (ha : PA X [a] ta) (hs : starEach [a] X.env = [(false, eval a X.env)] := by rfl) :
    PI X (.Tuple elts kk tpos) (.Call (.Name "enumerate" p) [a] [] pos) (iEnumT K ta) := by
  subst hK
  intro pins s σ H R I h
  refine Call_ (ld_blt I hg hm bt_enumerate (PyProof.Rows.callWith_type1 (thn (ha pos pins s σ H _ I h) fun us s1 ⟨vs, H1, I1, r1, q1⟩ => ?_) hs rfl))
  obtain ⟨ad, e, ⟨xs, hx⟩, q⟩ := q1
  subst e
  obtain ⟨u, rfl, ru⟩ := vals1 r1
  cases ru
  obtain ⟨its, rv, pt, hz⟩ := I1.tuple hx
  refine call_enumT (vs := its.toArray) pt fun h' he hi hk => ?_
  have I2 : Inv X pins σ H1 { s1 with heap := h' } := I1.kept (t' := s1.toks) hk
  refine wpAny_pyIter_enum he ⟨s1.heap.objs.size + 1, [s1.heap.objs.size + 1, s1.heap.objs.size], _, _, H1, rfl, I2, turn_enumT ad (s1.heap.objs.size + 1) s1.heap.objs.size (Nat.succ_ne_self _), ⟨⟨.none, he⟩, hi⟩, fun b hb => ?_, q⟩
  have hb' : s1.heap.objs.size ≤ b := by
    rcases List.mem_cons.mp hb with rfl | hb
    · omega
    · rw [List.mem_singleton.mp hb]; exact Nat.le_refl _
  exact I1.fpOk (H' := H1) hb' (I1.hok.fresh hb')
theorem qpi_enumT {K : PySem.W.Frag} {a : Expr} {ta : TA} {p pos tpos : Pos} {elts : List Expr} {kk : Nat} (hK : X.K = K) (hg : Gl X "enumerate") (hm : X.mg "enumerate" = none) (ha : QA X [a] ta) (hs : starEach [a] X.env = [(false, eval a X.env)] := by rfl) :
    QI X (.Tuple elts kk tpos) (.Call (.Name "enumerate" p) [a] [] pos) (iEnumT K ta) := ⟨pi_enumT hK hg hm ha.h hs⟩
end
end L2
set_option Elab.async false
set_option linter.all false
set_option maxRecDepth 100000
set_option maxHeartbeats 4000000
namespace L2
open PySem PySem.Spec PyProof.Rows
section
variable {X : Cx}
def rAddX : R2 := fun x y H Q => ∃ a b xs ys, x = .ref a ∧ y = .ref b ∧ H a = some (.tup xs) ∧ H b = some (.tup ys) ∧ xs.length + ys.length ≤ sizeLine ∧ ∀ p H', Kp [] H H' → H' p = some (.tup (xs ++ ys)) → Q (.ref p) H'
theorem op_addX : OpR X (binaryOp .Add) rAddX := by
  intro pins s σ H x y v u Q I rx ry h
  obtain ⟨a, b, xs, ys, rfl, rfl, ha, hb, hz, q⟩ := h
  by_cases hx : xs = []
  · subst hx
    cases rx
    cases ry
    obtain ⟨its, r1, p1, _⟩ := I.tuple (SqT.of ha)
    obtain ⟨its2, r2, p2, _⟩ := I.tuple (SqT.of hb)
    cases r1
    obtain ⟨⟨cls, dd, data, sl⟩, ho, hc, n, hd⟩ := id p1
    obtain ⟨⟨cls2, dd2, data2, sl2⟩, ho2, hc2, n2, hd2⟩ := id p2
    simp only at hc hd hc2 hd2
    subst hc hd hc2 hd2
    exact concat_meets ⟨_, ho, rfl⟩ ⟨_, ho2, rfl⟩ noFill_tuple_add seq_tuple_add PySem.F.slot_tuple_add PySem.F.entry_tuple_add (PySem.F.args_tuple_add_2 _ _)
      (HT.tuple_add0 a b its2.toArray n n2 dd dd2 sl sl2) ⟨ho, ho2, .ref b, H, I, rfl, q b H (Kp.refl _ _) (by simpa using hb)⟩
  · exact op_catT pins s σ H _ _ v u Q I rx ry ⟨a, b, xs, ys, rfl, rfl, SqT.of ha, SqT.of hb, hx, hz, fun e => q a H (Kp.refl _ _) (by rw [e, List.append_nil]; exact ha), fun e p hp => q p _ ((Kp.refl [] H).new hp) upd_same⟩
end
end L2
set_option Elab.async false
set_option linter.all false
set_option maxRecDepth 100000
set_option maxHeartbeats 4000000
namespace L2
open PySem PySem.Spec PyProof.Rows
section
variable {prog : Program} {w : World} {A : Around} {E : Value → Shared → Prop} {s : Shared} {i1 i2 : Addr} {f1 f2 : List Addr} {n1 n2 : Nat} {P1 P2 : Nat → Value → Prop} {S1 S2 : Nat → Heap → Prop}
abbrev ZO (f0 f1 : Value) (TI TO : Addr) : Obj := { cls := .type "zip", dict := none, data := .fields #[f0, f1, .bool false, .ref TI, .ref TO], slots := #[] }
end
theorem Inv.walked {X : Cx} {pins : List (Addr × Obj)} {σ : L2.St} {H : Hp} {s : Shared} {h' : Heap} {t' : Nat} {wr : List Addr} (I : Inv X pins σ H s) (hf : ∀ b ∈ wr, FpOk X pins H b) (k : ∀ b o, b ∉ wr → s.heap.get? b = some o → h'.get? b = some o) :
    Inv X pins σ H { s with heap := h', toks := t' } := by
  have nw : ∀ b u, H b = some u → b ∉ wr := fun b u e hb => by rw [(hf b hb).1] at e; cases e
  refine I.step (g' := s.gens) (d' := s.drawn) (ch := wr) (fun b hb => ?_) (fun b o _ _ hc e _ => k b o hc e) (fun b o _ _ hc e _ => ⟨o.slots, k b o hc e⟩) (fun b o hc e n => n) (fun b o hc e => ⟨o, k b o hc e⟩)
    (fun _ _ e => e) (fun _ _ _ e => e) (fun b ps e => ⟨#[], by rw [e]; simp⟩) (fun m hm => ?_) (fun b u e => ?_) I.bare
  · obtain ⟨_, f1, _, f3, f4, f5⟩ := hf b hb
    exact ⟨f3, f1, f4, f5⟩
  · obtain ⟨o, es, ep, ho, rr⟩ := hm
    exact ⟨o, es, ep, k _ o (fun z => (hf _ z).2.1 rfl) ho, rr⟩
  · refine (I.hok b u e).stay (fun d v hd q => k d v ?_ q) (fun _ q => q) fun _ _ q => q
    rcases hd with rfl | hd
    · exact nw _ _ e
    · exact nw _ _ hd
section
abbrev ztO (a : Addr) : Obj := { cls := .type "tuple_iterator", data := .fields #[.ref a, .int 0 0] }
structure ZM (h h' : Heap) (a b : Addr) : Prop where
  z : h'.get? (h.objs.size + 4) = some (ZO .none (.bool false) (h.objs.size + 2) (h.objs.size + 3))
  ti : IsPair h' (h.objs.size + 2) (.ref h.objs.size) (.ref (h.objs.size + 1))
  to : IsPair h' (h.objs.size + 3) .none .none
  i1 : h'.IsTupleIter h.objs.size a 0
  i2 : h'.IsTupleIter (h.objs.size + 1) b 0
  old : ∀ c o, h.get? c = some o → h'.get? c = some o
def zmH (h : Heap) (a b : Addr) : Heap := ((((h.push (ztO a)).push (ztO b)).push { cls := .type "tuple", data := .seq #[.ref h.objs.size, .ref (h.objs.size + 1)] }).push { cls := .type "tuple", data := .seq #[.none, .none] }).push (ZO .none (.bool false) (h.objs.size + 2) (h.objs.size + 3))
theorem zm_of (h : Heap) (a b : Addr) : ZM h (zmH h a b) a b := by
  have P : ∀ (k : Heap) (o : Obj) {c : Addr} {u : Obj}, k.get? c = some u → (k.push o).get? c = some u := fun k o {c u} e => Heap.get?_push_of_some o e
  have t1 : (h.push (ztO a)).objs.size = h.objs.size + 1 := by rw [Heap.size_push]
  have t2 : ((h.push (ztO a)).push (ztO b)).objs.size = h.objs.size + 2 := by rw [Heap.size_push, t1]
  have t3 : (((h.push (ztO a)).push (ztO b)).push { cls := .type "tuple", data := .seq #[.ref h.objs.size, .ref (h.objs.size + 1)] }).objs.size = h.objs.size + 3 := by rw [Heap.size_push, t2]
  have t4 : ((((h.push (ztO a)).push (ztO b)).push { cls := .type "tuple", data := .seq #[.ref h.objs.size, .ref (h.objs.size + 1)] }).push { cls := .type "tuple", data := .seq #[.none, .none] }).objs.size = h.objs.size + 4 := by rw [Heap.size_push, t3]
  unfold zmH
  refine ⟨?_, ?_, ?_, ⟨_, P _ _ (P _ _ (P _ _ (P _ _ (Heap.get?_push_size _ rfl)))), rfl, rfl⟩, ⟨ztO b, ?_, rfl, rfl⟩, fun c o e => P _ _ (P _ _ (P _ _ (P _ _ (P _ _ e))))⟩
  · rw [← t4]; exact Heap.get?_push_size _ rfl
  · rw [← t2]; exact P _ _ (P _ _ (Heap.get?_push_size _ rfl))
  · rw [← t3]; exact P _ _ (Heap.get?_push_size _ rfl)
  · rw [← t1]; exact P _ _ (P _ _ (P _ _ (Heap.get?_push_size _ rfl)))
theorem meets_zipTT (a b : Addr) (va vb : Array Value) :
    Meets (Builtin.«zip.__new__» ⟨[.type "zip", .ref a, .ref b], []⟩) (fun _ R s => s.heap.IsTuple a va ∧ s.heap.IsTuple b vb ∧ R (.ok (.ret (.ref (s.heap.objs.size + 4)))) { s with heap := zmH s.heap a b }) :=
  .of_wp fun prog w A R s h => by
    obtain ⟨hp, g, d, tk, os⟩ := s
    obtain ⟨ha, hb, h⟩ := h
    have hsub := sub_zip
    have hb' : (Heap.push hp (ztO a)).IsTuple b vb := hb.push _
    have t1 : (hp.push (ztO a)).objs.size = hp.objs.size + 1 := by rw [Heap.size_push]
    have t2 : ((hp.push (ztO a)).push (ztO b)).objs.size = hp.objs.size + 2 := by rw [Heap.size_push, t1]
    wp_walk using wpAny_pyIter_tuple ha, wpAny_pyIter_tuple hb'
    refine ⟨_, rfl, ?_⟩
    have e : ∀ n : Nat, n + 1 + 1 + 1 + 1 = n + 4 := fun _ => rfl
    simp only [Heap.size_push]
    exact h
theorem call_zipTT {prog : Program} {w : World} {A : Around} {E : Value → Shared → Prop} {s : Shared} {a b : Addr} {va vb : Array Value} {Q : Value → Shared → Prop} (ha : s.heap.IsTuple a va) (hb : s.heap.IsTuple b vb)
    (q : ∀ h', ZM s.heap h' a b → Q (.ref (s.heap.objs.size + 4)) { s with heap := h' }) : wpAny (model prog w) A (call (.type "zip") [.ref a, .ref b]) Q E s := by
  refine callType_new PySem.F.called_zip (by decide) (PySem.F.typeCall_zip_2 _ _) (PySem.F.newCall_zip_2 _ _) (fun obj => PySem.F.args_object_init_3 obj _ _) PySem.F.entry_zip_new (meets_zipTT a b va vb) ⟨ha, hb, ?_⟩
  have m := zm_of s.heap a b
  exact ⟨⟨_, m.z, rfl⟩, q _ m⟩
end
section
variable {P : Program} {w : World} {K : PySem.W.Frag}
end
section
variable {X : Cx}
end
end L2
set_option Elab.async false
set_option linter.all false
set_option maxRecDepth 100000
set_option maxHeartbeats 4000000
namespace L2
open PySem PySem.Spec PyProof.Rows
section
variable {X : Cx}
end
end L2
set_option Elab.async false
set_option linter.all false
set_option maxRecDepth 100000
set_option maxHeartbeats 4000000
namespace L2
open PySem PySem.Spec PyProof.Rows
section
variable {X : Cx}
end
end L2
set_option Elab.async false
set_option linter.all false
set_option maxRecDepth 100000
set_option maxHeartbeats 4000000
namespace L2
open PySem PySem.Spec PyProof.Rows
section
variable {P : Program} {w : World} {A : Around} {R : Result → Shared → Prop} {I : Addr} {fp wr : List Addr} {n : Nat} {Pv : Nat → Value → Prop} {St : Nat → Heap → Prop}
end
section
variable {X : Cx}
end
end L2
set_option Elab.async false
set_option linter.all false
set_option maxRecDepth 100000
set_option maxHeartbeats 4000000
namespace L2
open PySem PySem.Spec PyProof.Rows
section
end
section
variable {P : Program} {w : World} {K : PySem.W.Frag}
theorem za_more {z TI TO i1 i2 a b : Addr} (D : ZA z TI TO i1 i2 [i1] [i2]) (na : ∀ d ∈ [z, TI, TO, i1, i2], d ≠ a) (nb : ∀ d ∈ [z, TI, TO, i1, i2], d ≠ b) : ZA z TI TO i1 i2 [i1, a] [i2, b] :=
  ⟨D.TIz, D.TOz, D.i1z, D.i2z, D.TITO, D.TIi1, D.TIi2, D.TOi1, D.TOi2, D.i12, by simpa using ⟨D.i1z.symm, na z (by simp)⟩, by simpa using ⟨D.i2z.symm, nb z (by simp)⟩,
    by simpa using ⟨D.TOi1, na TO (by simp)⟩, by simpa using ⟨D.TOi2, nb TO (by simp)⟩, by simpa using ⟨D.i12, nb i1 (by simp)⟩, by simpa using ⟨D.i12.symm, na i2 (by simp)⟩⟩
end
section
variable {X : Cx}
end
end L2
set_option Elab.async false
set_option linter.all false
set_option maxRecDepth 100000
set_option maxHeartbeats 4000000
namespace L2
open PySem PySem.Spec PyProof.Rows
end L2
set_option Elab.async false
set_option linter.all false
set_option maxRecDepth 100000
set_option maxHeartbeats 4000000
namespace L2
open PySem PySem.Spec PyProof.Rows
section
variable {X : Cx} {pins : List (Addr × Obj)} {σ : L2.St} {H : Hp} {s : Shared} {scope : Scope} {Nc : List Str} {js : List (Option Nat)} {fp : List Addr}
end
section
variable {X : Cx} {scope : Scope} {Nc : List Str} {js : List (Option Nat)} {elt tg iter : Expr} {pos : Pos} {wi : TI} {g : TG} {te : TE}
end
end L2
set_option Elab.async false
set_option linter.all false
set_option maxRecDepth 100000
set_option maxHeartbeats 4000000
namespace L2
open PySem PySem.Spec PyProof.Rows
section
variable {X : Cx} {scope : Scope} {Nc : List Str} {js : List (Option Nat)} {elt tg iter : Expr} {pos : Pos} {wi : TI} {g : TG} {te : TE}
end
end L2
set_option Elab.async false
set_option linter.all false
set_option maxRecDepth 100000
set_option maxHeartbeats 4000000
namespace L2
open PySem PySem.Spec PyProof.Rows
section
variable {prog : Program} {w : World} {A : Around} {E : Value → Shared → Prop} {s : Shared}
end
end L2
set_option Elab.async false
set_option linter.all false
set_option maxRecDepth 100000
set_option maxHeartbeats 4000000
namespace L2
open PySem PySem.Spec PyProof.Rows
section
variable {prog : Program} {w : World} {A : Around} {R : Result → Shared → Prop} {I : Addr} {fp wr : List Addr} {G : Array GenState → Array GenState → Prop} {n : Nat} {P : Nat → Value → Prop} {St : Nat → Shared → Prop}
end
section
variable {prog : Program} {w : World} {A : Around} {E : Value → Shared → Prop} {s : Shared}
end
end L2
set_option Elab.async false
set_option linter.all false
set_option maxRecDepth 100000
set_option maxHeartbeats 4000000
namespace L2
open PySem PySem.Spec PyProof.Rows
section
variable {prog : Program} {w : World} {A : Around} {E : Value → Shared → Prop} {s : Shared}
end
end L2
set_option Elab.async false
set_option linter.all false
set_option maxRecDepth 100000
set_option maxHeartbeats 4000000
namespace L2
open PySem PySem.Spec PyProof.Rows
section
variable {prog : Program} {w : World} {A : Around} {E : Value → Shared → Prop} {s : Shared}
end
end L2
set_option Elab.async false
set_option linter.all false
set_option maxRecDepth 100000
set_option maxHeartbeats 4000000
namespace L2
open PySem PySem.Spec PyProof.Rows
section
variable {prog : Program} {w : World} {A : Around} {E : Value → Shared → Prop} {s : Shared}
end
end L2
set_option Elab.async false
set_option linter.all false
set_option maxRecDepth 100000
set_option maxHeartbeats 4000000
namespace L2
open PySem PySem.Spec PyProof.Rows
section
variable {X : Cx} {pins : List (Addr × Obj)} {σ : L2.St} {H : Hp} {s : Shared}
end
end L2
set_option Elab.async false
set_option linter.all false
set_option maxRecDepth 100000
set_option maxHeartbeats 4000000
namespace L2
open PySem PySem.Spec PyProof.Rows
section
variable {prog : Program} {w : World} {A : Around} {E : Value → Shared → Prop} {R : Result → Shared → Prop} {I : Addr} {fp wr : List Addr} {n : Nat} {P : Nat → Value → Prop} {St : Nat → Heap → Prop} {s : Shared}
end
section
variable {X : Cx}
end
end L2
set_option Elab.async false
set_option linter.all false
set_option maxRecDepth 100000
set_option maxHeartbeats 4000000
namespace L2
open PySem PySem.Spec PyProof.Rows
section
variable {X : Cx}
end
end L2
set_option Elab.async false
set_option linter.all false
set_option maxRecDepth 100000
set_option maxHeartbeats 4000000
namespace L2
open PySem PySem.Spec PyProof.Rows
abbrev FZ (o : Obj) : HO := .frz o (.ext fun _ => True)
section
variable {P : Program} {w : World} {H H' : Hp} {h h' : Heap} {a : Addr} {o : Obj} {cs : List Addr}
theorem FZ.get (x : HOk P w H h) (e : H a = some (FZ o)) : h.get? a = some o := (x a _ e).1
theorem FZ.mk (e : h.get? a = some o) : ObjOk P w H h a (FZ o) := ⟨e, trivial, ⟨o, e⟩, fun _ _ _ _ => trivial⟩
def hideC (H : Hp) (cs : List Addr) : Hp := fun b => if b ∈ cs then none else H b
def backC (H H' : Hp) (cs : List Addr) : Hp := fun b => if b ∈ cs then H b else H' b
theorem hideC_in (m : a ∈ cs) : hideC H cs a = none := if_pos m
theorem hideC_out (m : a ∉ cs) : hideC H cs a = H a := if_neg m
theorem hideC_some {u : HO} (e : hideC H cs a = some u) : a ∉ cs ∧ H a = some u := by
  by_cases m : a ∈ cs
  · rw [hideC_in m] at e; cases e
  · exact ⟨m, by rwa [hideC_out m] at e⟩
theorem hideC_none (e : H a = none) : hideC H cs a = none := by unfold hideC; split <;> first | rfl | exact e
theorem backC_in (m : a ∈ cs) : backC H H' cs a = H a := if_pos m
theorem backC_out (m : a ∉ cs) : backC H H' cs a = H' a := if_neg m
theorem HOk.hideC (x : HOk P w H h) (fz : ∀ c ∈ cs, ∃ o, H c = some (FZ o)) : HOk P w (hideC H cs) h := fun b u q => by
  obtain ⟨_, q'⟩ := hideC_some q
  refine (x b u q').stay (fun _ _ _ z => z) (fun c z => ?_) fun c xs z => ?_
  · rw [hideC_out fun m => by obtain ⟨o, e⟩ := fz c m; rw [z] at e; cases e]; exact z
  · rw [hideC_out fun m => by obtain ⟨o, e⟩ := fz c m; rw [z] at e; cases e]; exact z
theorem Un.backC {fs : List Addr} (u : Un fs [] (hideC H cs) H' h h') (fz : ∀ c ∈ cs, ∃ o, H c = some (FZ o)) : Un fs [] H (backC H H' cs) h h' where
  keep := fun b o e n hb hx => u.keep b o e (hideC_none n) hb hx
  slot := fun b o e n hb hx => u.slot b o e (hideC_none n) hb hx
  free := fun b o e n hx => by
    rw [backC_out fun m => by obtain ⟨o, z⟩ := fz b m; rw [n] at z; cases z]
    exact u.free b o e (hideC_none n) hx
  there := u.there
  tups := fun b xs e => by
    have m : b ∉ cs := fun m => by obtain ⟨o, z⟩ := fz b m; rw [e] at z; cases z
    rw [backC_out m]; exact u.tups b xs (by rw [hideC_out m]; exact e)
  frzs := fun b o u' e => by
    by_cases m : b ∈ cs
    · rw [backC_in m]; exact e
    · rw [backC_out m]; exact u.frzs b o u' (by rw [hideC_out m]; exact e)
  tbls := fun b ps e => by
    have m : b ∉ cs := fun m => by obtain ⟨o, z⟩ := fz b m; rw [e] at z; cases z
    obtain ⟨more, q⟩ := u.tbls b ps (by rw [hideC_out m]; exact e)
    exact ⟨more, by rw [backC_out m]; exact q⟩
theorem HOk.backC {fs : List Addr} (x : HOk P w H h) (x' : HOk P w H' h') (u : Un fs [] (L2.hideC H cs) H' h h') (fz : ∀ c ∈ cs, ∃ o, H c = some (FZ o)) (nf : ∀ c ∈ cs, c ∉ fs) : HOk P w (backC H H' cs) h' := fun b v q => by
  by_cases m : b ∈ cs
  · rw [backC_in m] at q
    obtain ⟨o, e⟩ := fz b m
    rw [e] at q
    cases Option.some.inj q
    exact FZ.mk (u.keep b o (FZ.get x e) (hideC_in m) (nf b m) (by simp))
  · rw [backC_out m] at q
    have no : ∀ c ∈ cs, H' c = none := fun c hc => by
      obtain ⟨o, e⟩ := fz c hc
      exact u.free c o (FZ.get x e) (hideC_in hc) (by simp)
    refine (x' b v q).stay (fun _ _ _ z => z) (fun c z => ?_) fun c xs z => ?_
    · rw [backC_out fun hc => by rw [no c hc] at z; cases z]; exact z
    · rw [backC_out fun hc => by rw [no c hc] at z; cases z]; exact z
theorem Kp.backC {S : List Addr} (k : Kp S (L2.hideC H cs) H') : Kp S H (backC H H' cs) := by
  refine ⟨fun b o e n => ?_, fun b xs e => ?_, fun b o e => ?_⟩
  · by_cases m : b ∈ cs
    · rw [backC_in m]; exact e
    · rw [backC_out m]; exact k.old b o (by rw [hideC_out m]; exact e) n
  · by_cases m : b ∈ cs
    · rw [backC_in m]; exact e
    · rw [backC_out m]; exact k.tup b xs (by rw [hideC_out m]; exact e)
  · by_cases m : b ∈ cs
    · exact ⟨o, by rw [backC_in m]; exact e⟩
    · rw [backC_out m]; exact k.dom b o (by rw [hideC_out m]; exact e)
end
structure LamScope (ps fs : List Str) (sc : Scope) : Prop where
  kind : sc.kind = .function
  co : sc.isCoroutine = false
  gen : sc.isGenerator = false
  nd : (ps ++ fs).Nodup
  par : ∀ x ∈ ps, sc.names.lookup x = some .local
  nocell : ∀ y ∈ sc.names, y.2 ≠ .cell
  fr : ∀ x ∈ fs, sc.names.lookup x = some .free
  only : ∀ x, sc.names.lookup x = some .free → x ∈ fs
def cxLam (P : Program) (w : World) (K : PySem.W.Frag) (mg : Str → Option Value) (base : Heap) (N : List Str) (qual : Str) (scope : Scope) (f : Addr) (cd : Value) (cl : List (Str × Addr)) (A : Around) (outer : List Env) (s : Shared) (H : Hp) : Cx where
  prog := P
  w := w
  K := K
  mg := mg
  base := base
  A := A.deeper (PySem.W.envX qual scope s.heap.objs.size f cd cl)
  N := N
  s₀ := s
  H₀ := H
  env := PySem.W.envX qual scope s.heap.objs.size f cd cl
  outer := outer
  stack := PySem.W.envX qual scope s.heap.objs.size f cd cl :: outer
  ex := []
  calm := true
  fn := fun _ => false
  pn := []
  xe := fun _ _ => False
structure Caps (H : Hp) (cl : List (Str × Addr)) (fs : List Str) (ws : List V) : Prop where
  len : ws.length = fs.length
  at_ : ∀ (i : Nat) (x : Str) (v : V), fs[i]? = some x → ws[i]? = some v → ∃ c o u, cl.lookup x = some c ∧ H c = some (FZ o) ∧ o.data = .cell (some u) ∧ RelV v u
  has : ∀ x ∈ fs, ∃ c, cl.lookup x = some c
  fz : ∀ p ∈ cl, ∃ o u, H p.2 = some (FZ o) ∧ o.data = .cell u
  inj : ∀ x y c, cl.lookup x = some c → cl.lookup y = some c → x = y
def CodeZ (H : Hp) (c : Addr) (qual : Str) : Prop := ∃ oc vs t, H c = some (FZ oc) ∧ oc.data = .fields vs ∧ vs[1]? = some (.str qual t)
theorem zip_get {α β : Type} : ∀ {l : List α} {m : List β} {i : Nat} {x : α} {y : β}, l[i]? = some x → m[i]? = some y → (l.zip m)[i]? = some (x, y)
  | [], _, _, _, _, h, _ => by simp at h
  | _ :: _, [], _, _, _, _, h => by simp at h
  | _ :: _, _ :: _, 0, _, _, h, h' => by simp at h h'; subst h; subst h'; rfl
  | _ :: l, _ :: m, i + 1, _, _, h, h' => by
    simp at h h'
    simpa using zip_get (l := l) (m := m) h h'
theorem lookup_rev {ps : List Str} {us : List Value} (nd : ps.Nodup) {i : Nat} {x : Str} {u : Value} (h : ps[i]? = some x) (h' : us[i]? = some u) : (ps.zip us).reverse.lookup x = some u := by
  have key : ∀ (l : List (Str × Value)), (l.map Prod.fst).Nodup → (x, u) ∈ l → l.lookup x = some u := by
    intro l
    induction l with
    | nil => intro _ m; cases m
    | cons q l ih =>
      intro nd m
      obtain ⟨y, v⟩ := q
      rw [List.map_cons, List.nodup_cons] at nd
      rcases List.mem_cons.mp m with e | m
      · cases e; simp [List.lookup]
      · have : x ≠ y := fun e => nd.1 (by rw [← e]; exact List.mem_map.mpr ⟨(x, u), m, rfl⟩)
        rw [List.lookup_cons]
        have b : (x == y) = false := by simpa using this
        rw [b]
        exact ih nd.2 m
  refine key _ ?_ (List.mem_reverse.mpr (List.mem_of_getElem? (zip_get h h')))
  rw [List.map_reverse]
  refine (List.reverse_perm _).nodup_iff.mpr ?_
  have : ∀ (l : List Str) (m : List Value), ((l.zip m).map Prod.fst).Sublist l := by
    intro l
    induction l with
    | nil => intro m; simp
    | cons y l ih =>
      intro m
      cases m with
      | nil => simp
      | cons v m => exact (ih m).cons₂ y
  exact nd.sublist (this ps us)
section
variable {P : Program} {w : World} {K : PySem.W.Frag} {mg : Str → Option Value} {base : Heap} {k : Nat} {f c' : Addr} {name qual : Str} {params : Arguments} {body : Expr} {scope : Scope} {pm ct : Value} {ps fs : List Str} {cl : List (Str × Addr)} {sp : Sp}
theorem inv_lam {A : Around} {outer : List Env} {s : Shared} {h1 : Heap} {tk : Tok} {H : Hp} {us : List Value} {vs ws : List V} (S : LamScope ps fs scope) (hd : A.handled = none) (e0 : Env0 P w K mg base A outer s H) (hl : vs.length = ps.length) (r : Vals vs us) (cap : Caps H cl fs ws)
    (hns : h1.Ns s.heap.objs.size fun y => (ps.zip us).reverse.lookup y) (hk : ∀ b o, s.heap.get? b = some o → h1.get? b = some o) :
    Inv (cxLam P w K mg base (ps ++ fs) qual scope f (.ref c') cl A outer s (hideC H (cl.map Prod.snd))) [] (vs.map some ++ ws.map some) (hideC H (cl.map Prod.snd)) { s with heap := h1, toks := tk } := by
  have fz : ∀ c ∈ cl.map Prod.snd, ∃ o, H c = some (FZ o) := fun c hc => by
    obtain ⟨p, hp, rfl⟩ := List.mem_map.mp hc
    obtain ⟨o, u, e, _⟩ := cap.fz p hp
    exact ⟨o, e⟩
  have hok := HOk.hideC e0.hok fz
  have inC : ∀ x c, cl.lookup x = some c → c ∈ cl.map Prod.snd := fun x c e => List.mem_map.mpr ⟨(x, c), PySem.mem_of_lookup e, rfl⟩
  have noA : ∀ b : Addr, b ∉ (cxLam P w K mg base (ps ++ fs) qual scope f (.ref c') cl A outer s (hideC H (cl.map Prod.snd))).ex := fun b z => absurd (show b ∈ ([] : List Addr) from z) (by simp)
  refine ⟨⟨e0.mod, S.kind, rfl, rfl, Nat.le_refl _, cap.inj, fun y hy => ?_, fun y c z => (by cases z), fun _ => hd, Around.frames_deeper e0.frames, .inr ⟨rfl, rfl⟩, fun b z => absurd z (noA b), fun b o e => ⟨(e0.bs b o e).1, hideC_none (e0.bs b o e).2⟩, e0.bsz, fun b _ _ => noA b, fun b z => absurd z (noA b), e0.funs, fun b z => hideC_none (e0.frf b z)⟩,
    rfl, e0.bare, Un.kept hk, ⟨_, hns, fun i y v q1 q2 q3 => ?_⟩, fun y c h => ?_, hideC_none (e0.hok.fresh (Nat.le_refl _)), fun y c h => hideC_in (inC y c h), fun p hp => absurd (show p ∈ ([] : List (Addr × Obj)) from hp) (by simp), hok.kept hk, ?_⟩
  · have hy : scope.names.lookup y = some .cell ∨ scope.names.lookup y = some .free := hy
    rcases hy with hy | hy
    · exact absurd rfl (S.nocell _ (PySem.mem_of_lookup hy))
    · exact cap.has y (S.only y hy)
  · have q1 : (ps ++ fs)[i]? = some y := q1
    by_cases hi : i < ps.length
    · rw [List.getElem?_append_left hi] at q1
      rw [List.getElem?_append_left (by rw [List.length_map]; omega), List.getElem?_map] at q2
      have ha : vs[i]? = some v := by
        cases e : vs[i]? with
        | none => rw [e] at q2; cases q2
        | some a => rw [e] at q2; cases q2; rfl
      obtain ⟨u, hu, rv⟩ := r.get ha
      exact ⟨u, rv, .inl ⟨S.par y (List.mem_of_getElem? q1), lookup_rev (S.nd.sublist (List.sublist_append_left _ _)) q1 hu⟩⟩
    · rw [List.getElem?_append_right (by omega)] at q1
      rw [List.getElem?_append_right (by rw [List.length_map]; omega), List.length_map, hl, List.getElem?_map] at q2
      have ha : ws[i - ps.length]? = some v := by
        cases e : ws[i - ps.length]? with
        | none => rw [e] at q2; cases q2
        | some a => rw [e] at q2; cases q2; rfl
      obtain ⟨c, o, u, e1, e2, e3, rv⟩ := cap.at_ _ y v q1 ha
      exact ⟨u, rv, .inr ⟨.inr (S.fr y (List.mem_of_getElem? q1)), c, e1, o, hk _ _ (FZ.get e0.hok e2), e3⟩⟩
  · obtain ⟨o, u, e, d⟩ := cap.fz (y, c) (PySem.mem_of_lookup h)
    exact ⟨u, o, hk _ _ (FZ.get e0.hok e), d⟩
  · show (vs.map some ++ ws.map some).length = (ps ++ fs).length
    rw [List.length_append, List.length_append, List.length_map, List.length_map, hl, cap.len]
theorem fn_lam (S : LamScope ps fs scope) (len : ∀ vs H Q E, sp vs H Q E → vs.length = ps.length)
    (hbody : ∀ (vs : List V) (H : Hp) (Q : VK) (E : XK), sp vs H Q E → H f = some (FZ (PySem.W.kla_obj name qual params body scope cl pm c' ct)) ∧ CodeZ H c' qual ∧ ∃ ws, Caps H cl fs ws ∧
      ∀ (A : Around) (outer : List Env) (s : Shared), Room k (A.deeper (PySem.W.envX qual scope s.heap.objs.size f (.ref c') cl)) →
        ∃ t, PE (cxLam P w K mg base (ps ++ fs) qual scope f (.ref c') cl A outer s (hideC H (cl.map Prod.snd))) body t ∧ t (vs.map some ++ ws.map some) (hideC H (cl.map Prod.snd)) fun v H' => (∀ c ∈ cl.map Prod.snd, H' c = none) → Q v (backC H H' (cl.map Prod.snd))) :
    FnOk P w K mg base CX0 (k + 1) f (PySem.W.kla_fn name qual params body scope cl pm (.ref c') ct) ps sp := by
  refine ⟨len, fun A outer s H args us vs Q E hr e0 hb r hsp => ?_⟩
  have hl := len _ _ _ _ hsp
  obtain ⟨hf, ⟨oc, vc, tc, hc, hoc, hv1⟩, ws, cap, hb0⟩ := hbody vs H Q E hsp
  have lim : s.heap.NoLimit := e0.mod.nolimit.keeps fun b o e => (e0.bs b o e).1
  have fz : ∀ c ∈ cl.map Prod.snd, ∃ o, H c = some (FZ o) := fun c hc => by
    obtain ⟨p, hp, rfl⟩ := List.mem_map.mp hc
    obtain ⟨o, u, e, _⟩ := cap.fz p hp
    exact ⟨o, e⟩
  refine PySem.W.kla_callFunE hr.depth (FZ.get e0.hok hf) rfl S.co S.gen rfl ⟨c', oc, vc, tc, rfl, FZ.get e0.hok hc, hoc, hv1⟩ (hb _ _ _ _ ?_)
  refine wpAny_newFunctionEnv S.nocell (fun y hy => S.par _ (List.of_mem_zip hy).1) (fun h1 hns hsb => ⟨lim.fresh _ hsb, ?_⟩) S.kind
  show codeAny _ _ (.expr body (PySem.W.envX qual scope s.heap.objs.size f (.ref c') cl)) _ _
  have hk : ∀ b o, s.heap.get? b = some o → h1.get? b = some o := fun b o e => hsb.extBut b o (Nat.ne_of_lt (Heap.lt_size e)) (Heap.get?_push_of_some _ e)
  obtain ⟨t, ht, hq⟩ := hb0 A outer s (hr.deeper _)
  have I := inv_lam (f := f) (c' := c') (qual := qual) (tk := s.toks + (ps.zip us).length) S hr.hd e0 hl r cap hns hk
  refine PySem.W.kla_codeExpr (wpAny_mono (ht [] _ _ _ _ I hq) (fun u s' hs => ?_) fun e s' hs => False.elim hs)
  obtain ⟨v, H', J, rv, q⟩ := hs
  have nf : ∀ c ∈ cl.map Prod.snd, c ∉ frs outer := fun c hc z => by
    obtain ⟨o, e⟩ := fz c hc
    rw [e0.frf c z] at e; cases e
  exact ⟨v, _, J.os, J.bare, Un.backC J.base fz, HOk.backC e0.hok J.hok J.base fz nf, rv, q fun c hc => by
    obtain ⟨o, e⟩ := fz c hc
    exact J.base.free c o (FZ.get e0.hok e) (hideC_in hc) (by intro z; exact absurd (show c ∈ ([] : List Addr) from z) (by simp))⟩
end
end L2
set_option Elab.async false
set_option linter.all false
set_option maxRecDepth 100000
set_option maxHeartbeats 4000000
namespace L2
open PySem PySem.Spec PyProof.Rows
section
variable {X : Cx}
def tCallD (P : Program) (w : World) (K : PySem.W.Frag) (mg : Str → Option Value) (base : Heap) (k i : Nat) (t : TA) : TE := fun σ H Q => ∃ (f : Addr) (o : Obj) (fd : FuncData) (ps : List Str) (sp : Sp), σ[i]? = some (some (.ref f)) ∧ o.data = .func fd ∧
  FnOk P w K mg base CX0 k f fd ps sp ∧ Binds K fd ps [] ∧ t σ H fun vs H1 => H1 f = some (FZ o) ∧ sp vs H1 Q E0
theorem pe_callD {P : Program} {w : World} {K : PySem.W.Frag} {mg : Str → Option Value} {base : Heap} (hP : X.prog = P) (hw : X.w = w) (hK : X.K = K) (hM : X.mg = mg) (hB : X.base = base) {k : Nat} {x : Str} {p pos : Pos} {e : Expr} {es : List Expr} {t : TA} (i : Nat) (hr : Room k X.A) (ha : PA X (e :: es) t)
    (hN : X.N[i]? = some x := by rfl) (hv : Vis X.env.scope x := by first | exact Or.inl rfl | exact Or.inr (Or.inl rfl) | exact Or.inr (Or.inr rfl))
    (hdb : (x == ("__debug__" : Str)) = false := by decide) (hcd : (x == ("__classdict__" : Str)) = false := by decide) (he : starEach (e :: es) X.env = (false, eval e X.env) :: starEach es X.env := by rfl) :
    PE X (.Call (.Name x p) (e :: es) [] pos) (tCallD P w K mg base k i t) := by
  subst hP; subst hw; subst hK; subst hM; subst hB
  intro pins s σ H Q I h
  obtain ⟨f, o, fd, ps, sp, e0, hd, F, hb, h⟩ := h
  refine wpAny_Call_Name_kw (thn (pe_var hN hv hdb hcd pins s σ H (fun v H' => v = .ref f ∧ t σ H' fun vs H1 => H1 f = some (FZ o) ∧ sp vs H1 Q E0) I ⟨_, e0, rfl, h⟩) fun u s1 ⟨v, H1, I1, r, hv1, h1⟩ => ?_)
  subst hv1
  cases r
  refine callWith_def (o := o) (fd := fd) hd (thn (ha pos pins s1 σ H1 _ I1 h1) fun us s2 ⟨vs, H2, I2, r2, q1, q2⟩ => ⟨FZ.get I2.hok q1, ?_⟩) he
  exact run_fn F hr hb .nil pass0 I2 r2 (by rw [List.append_nil]; exact q2)
def showC (H : Hp) (cs : List (Addr × Obj)) : Hp := fun b => match cs.lookup b with
  | some o => some (FZ o)
  | none => H b
theorem showC_in {H : Hp} {cs : List (Addr × Obj)} {b : Addr} {o : Obj} (e : cs.lookup b = some o) : showC H cs b = some (FZ o) := by unfold showC; rw [e]
theorem showC_out {H : Hp} {cs : List (Addr × Obj)} {b : Addr} (e : cs.lookup b = none) : showC H cs b = H b := by unfold showC; rw [e]
theorem lookup_mem {cs : List (Addr × Obj)} {b : Addr} (h : b ∈ cs.map Prod.fst) : ∃ o, cs.lookup b = some o := by
  cases e : cs.lookup b with
  | some o => exact ⟨o, rfl⟩
  | none =>
    obtain ⟨p, hp, rfl⟩ := List.mem_map.mp h
    have := List.lookup_eq_none_iff.mp e p hp
    simp at this
theorem lookup_notin {cs : List (Addr × Obj)} {b : Addr} (h : b ∉ cs.map Prod.fst) : cs.lookup b = none := by
  refine List.lookup_eq_none_iff.mpr fun p hp => ?_
  simp only [bne_iff_ne, ne_eq]
  rintro rfl
  exact h (List.mem_map.mpr ⟨p, hp, rfl⟩)
theorem Inv.env0C {pins : List (Addr × Obj)} {σ : St} {H : Hp} {s : Shared} {cs : List (Addr × Obj)} (I : Inv X pins σ H s) (hc : ∀ b o, cs.lookup b = some o → s.heap.get? b = some o ∧ H b = none ∧ X.base.get? b = none ∧ b ∉ frs X.stack) :
    Env0 X.prog X.w X.K X.mg X.base X.A X.stack s (showC H cs) := by
  have e := I.env0
  refine ⟨e.frames, e.mod, fun b o q => ⟨(e.bs b o q).1, ?_⟩, e.bsz, e.funs, fun b hb => ?_, fun b u q => ?_, e.bare⟩
  · cases z : cs.lookup b with
    | some o' => rw [(hc b o' z).2.2.1] at q; cases q
    | none => rw [showC_out z]; exact (e.bs b o q).2
  · cases z : cs.lookup b with
    | some o' => exact absurd hb (hc b o' z).2.2.2
    | none => rw [showC_out z]; exact e.frf b hb
  · cases z : cs.lookup b with
    | some o' =>
      rw [showC_in z] at q
      cases Option.some.inj q
      exact FZ.mk (hc b o' z).1
    | none =>
      rw [showC_out z] at q
      have no : ∀ c, (∃ v, H c = some v) → showC H cs c = H c := fun c ⟨v, hv⟩ => showC_out (by
        cases y : cs.lookup c with
        | none => rfl
        | some o => rw [(hc c o y).2.1] at hv; cases hv)
      exact (e.hok b u q).stay (fun _ _ _ y => y) (fun c y => by rw [no c ⟨_, y⟩]; exact y) fun c xs y => by rw [no c ⟨_, y⟩]; exact y
theorem Un.hideS {fs : List Addr} {P : Program} {w : World} {H H' : Hp} {h h' : Heap} {cs : List (Addr × Obj)} (u : Un fs [] (showC H cs) H' h h') (x' : HOk P w H' h') (hc : ∀ b o, cs.lookup b = some o → h.get? b = some o ∧ H b = none) : Un fs [] H (hideC H' (cs.map Prod.fst)) h h' := by
  have out : ∀ b v, H b = some v → cs.lookup b = none := fun b v e => by
    cases y : cs.lookup b with
    | none => rfl
    | some o => rw [(hc b o y).2] at e; cases e
  have nin : ∀ b v, H b = some v → b ∉ cs.map Prod.fst := fun b v e m => by
    obtain ⟨o, y⟩ := lookup_mem m
    rw [out b v e] at y; cases y
  have kept : ∀ b o, cs.lookup b = some o → h'.get? b = some o := fun b o z => FZ.get x' (u.frzs b o _ (showC_in z))
  refine ⟨fun b o e n hb hx => ?_, fun b o e n hb hx => ?_, fun b o e n hx => ?_, u.there, fun b xs e => ?_, fun b o v e => ?_, fun b ps e => ?_⟩
  · cases z : cs.lookup b with
    | some o' =>
      have := (hc b o' z).1
      rw [e] at this; cases this
      exact kept b o z
    | none => exact u.keep b o e (by rw [showC_out z]; exact n) hb hx
  · cases z : cs.lookup b with
    | some o' =>
      have := (hc b o' z).1
      rw [e] at this; cases this
      exact ⟨o.slots, kept b o z⟩
    | none => exact u.slot b o e (by rw [showC_out z]; exact n) hb hx
  · cases z : cs.lookup b with
    | some o' =>
      refine hideC_in (Classical.byContradiction fun m => ?_)
      rw [lookup_notin m] at z; cases z
    | none => exact hideC_none (u.free b o e (by rw [showC_out z]; exact n) hx)
  · rw [hideC_out (nin b _ e)]; exact u.tups b xs (by rw [showC_out (out b _ e)]; exact e)
  · rw [hideC_out (nin b _ e)]; exact u.frzs b o v (by rw [showC_out (out b _ e)]; exact e)
  · obtain ⟨more, q⟩ := u.tbls b ps (by rw [showC_out (out b _ e)]; exact e)
    exact ⟨more, by rw [hideC_out (nin b _ e)]; exact q⟩
variable {pins : List (Addr × Obj)} {σ : St} {H : Hp} {s : Shared}
theorem run_fnC {k : Nat} {f : Addr} {fd : FuncData} {ps : List Str} {sp : Sp} {Q : VK} {us : List Value} {vs : List V} {cs : List (Addr × Obj)} (F : FnOk X.prog X.w X.K X.mg X.base CX0 k f fd ps sp) (hr : Room k X.A) (hb : Binds X.K fd ps [])
    (I : Inv X pins σ H s) (r : Vals vs us) (hc : ∀ b o, cs.lookup b = some o → s.heap.get? b = some o ∧ H b = none ∧ X.base.get? b = none ∧ b ∉ frs X.stack)
    (h : sp vs (showC H cs) (fun v H2 => Q v (hideC H2 (cs.map Prod.fst))) E0) : wpAny (model X.prog X.w) X.A (call (.ref f) us) (EP X pins σ Q) X.xe s := by
  have hl : us.length = ps.length := by rw [← r.length]; exact F.len _ _ _ _ h
  have hbb := hb s us I.kIn (by rw [List.append_nil]; exact hl)
  rw [List.append_nil] at hbb
  refine wpAny_call (codeAny_mono (F.run X.A X.stack s (showC H cs) ⟨us, []⟩ us vs _ E0 hr (I.env0C hc) hbb r h) fun r s' hq => ?_)
  cases r with
  | error e => exact False.elim hq
  | ok fl =>
    cases fl with
    | ret u =>
      obtain ⟨v, H', os, bare, un, hok, rv, q⟩ := hq
      refine I.after ⟨v, _, os, bare, Un.hideS un hok fun b o z => ⟨(hc b o z).1, (hc b o z).2.1⟩, HOk.hideC hok fun c m => ?_, rv, q⟩
      obtain ⟨o, z⟩ := lookup_mem m
      exact ⟨o, un.frzs c o _ (showC_in z)⟩
    | next => exact False.elim hq
    | brk => exact False.elim hq
    | cont => exact False.elim hq
def CellsAt (σ : St) (H : Hp) (js : List (Nat × Addr)) (cs : List (Addr × Obj)) : Prop :=
  Paired (fun (j : Nat × Addr) (p : Addr × Obj) => p.1 = j.2 ∧ H j.2 = none ∧ ∃ v u, σ[j.1]? = some (some v) ∧ p.2.data = .cell (some u) ∧ RelV v u) js cs
def tCallC (js : List (Nat × Addr)) (sp : Sp) (t : TA) : TE := fun σ H Q => t σ H fun vs H1 => (∀ j ∈ js, ∃ v, σ[j.1]? = some (some v)) ∧ ∀ cs, CellsAt σ H1 js cs → sp vs (showC H1 cs) (fun v H2 => Q v (hideC H2 (cs.map Prod.fst))) E0
theorem Inv.cellAt (I : Inv X pins σ H s) {i : Nat} {c : Addr} {x : Str} {v : V} (hN : X.N[i]? = some x) (hk : X.env.kindOf x = some .cell) (hf : X.fn x = true) (hl : X.env.cells.lookup x = some c) (e : σ[i]? = some (some v)) :
    ∃ o u, s.heap.get? c = some o ∧ o.data = .cell (some u) ∧ RelV v u ∧ H c = none ∧ X.base.get? c = none ∧ c ∉ frs X.stack := by
  obtain ⟨m, hns, loc⟩ := I.loc
  obtain ⟨u, rv, lk⟩ := loc i x v hN e (.inr (.inl hk))
  rcases lk with ⟨k, _⟩ | ⟨_, c', e', o, ho, hd⟩
  · rw [hk] at k; cases k
  · rw [hl] at e'
    cases Option.some.inj e'
    have ge := I.ok.cab x c hf hl
    refine ⟨o, u, ho, hd, rv, I.freeC x c hl, Heap.get?_none_of_le (Nat.le_trans I.ok.bsz ge), fun hb => ?_⟩
    rcases List.mem_cons.mp (I.stkSub c hb) with z | z
    · obtain ⟨ol, es, ep, e1, e2, _⟩ := hns
      rw [← z, ho] at e1
      cases Option.some.inj e1
      rw [hd] at e2; cases e2
    · obtain ⟨_, ob, hob, _⟩ := I.ok.funs.mem z
      exact absurd (Heap.lt_size hob) (Nat.not_lt.mpr ge)
theorem cells_of (I : Inv X pins σ H s) : ∀ {js : List (Nat × Addr)}, (∀ j ∈ js, ∃ x, X.N[j.1]? = some x ∧ X.env.kindOf x = some .cell ∧ X.fn x = true ∧ X.env.cells.lookup x = some j.2) → (∀ j ∈ js, ∃ v, σ[j.1]? = some (some v)) →
    ∃ cs, CellsAt σ H js cs ∧ ∀ b o, cs.lookup b = some o → s.heap.get? b = some o ∧ H b = none ∧ X.base.get? b = none ∧ b ∉ frs X.stack
  | [], _, _ => ⟨[], .nil, fun b o z => by cases z⟩
  | j :: js, h1, h2 => by
    obtain ⟨cs, pr, hc⟩ := cells_of I (js := js) (fun i hi => h1 i (.tail _ hi)) fun i hi => h2 i (.tail _ hi)
    obtain ⟨x, e1, e2, e3, e4⟩ := h1 j (.head _)
    obtain ⟨v, e5⟩ := h2 j (.head _)
    obtain ⟨o, u, q1, q2, q3, q4, q5, q6⟩ := I.cellAt e1 e2 e3 e4 e5
    refine ⟨(j.2, o) :: cs, .cons ⟨rfl, q4, v, u, e5, q2, q3⟩ pr, fun b o' z => ?_⟩
    rw [List.lookup_cons] at z
    split at z
    · rename_i hb
      cases Option.some.inj z
      have : b = j.2 := by simpa using hb
      subst this
      exact ⟨q1, q4, q5, q6⟩
    · exact hc b o' z
theorem pe_callC {k : Nat} {f : Addr} {fd : FuncData} {ps : List Str} {sp : Sp} {x : Str} {p pos : Pos} {e : Expr} {es : List Expr} {t : TA} (js : List (Nat × Addr)) (hjs : ∀ j ∈ js, ∃ x, X.N[j.1]? = some x ∧ X.env.kindOf x = some .cell ∧ X.fn x = true ∧ X.env.cells.lookup x = some j.2)
    (F : FnOk X.prog X.w X.K X.mg X.base CX0 k f fd ps sp) (hr : Room k X.A) (hg : Gl X x) (hm : X.mg x = some (.ref f)) (hk : PySem.W.keepIn X.K (.ref f) = true) (hb : Binds X.K fd ps []) (ha : PA X (e :: es) t)
    (hdb : (x == ("__debug__" : Str)) = false := by decide) (he : starEach (e :: es) X.env = (false, eval e X.env) :: starEach es X.env := by rfl) (hpl : (backTo pos (starEach es X.env)).any (·.1) = false := by rfl) :
    PE X (.Call (.Name x p) (e :: es) [] pos) (tCallC js sp t) := by
  intro pins s σ H Q I h
  refine wpAny_Call_Name_kw (ld_glob I hg hm ?_ hdb)
  refine PySem.W.callWith_K (h₀ := X.base) I.ok.mod.kin hk (thn (ha pos pins s σ H _ I h) fun us s1 ⟨vs, H1, I1, r, hb1, q⟩ => ⟨I1.kIn, ?_⟩) he hpl
  obtain ⟨cs, pr, hc⟩ := cells_of I1 hjs hb1
  exact run_fnC F hr hb I1 r hc (q cs pr)
end
end L2
set_option Elab.async false
set_option linter.all false
set_option maxRecDepth 100000
set_option maxHeartbeats 4000000
namespace L2
open PySem PySem.Spec PyProof.Rows
theorem among_snoc {pos pos' : Pos} {c : Value} (l : List Value) (h : TriplesOk l) {v : Value} (e : codeAmong pos' (l ++ [rawInt pos.line, rawInt pos.col, c]) = some v) : codeAmong pos' l = some v ∨ v = c := by
  fun_induction TriplesOk l with
  | case1 =>
    simp only [List.nil_append, codeAmong, rawInt] at e
    split at e
    · exact .inr (Option.some.inj e).symm
    · cases e
  | case2 a t b u x rest ih =>
    simp only [List.cons_append, codeAmong] at e ⊢
    split at e
    · rename_i hc; rw [if_pos hc]; exact .inl e
    · rename_i hc; rw [if_neg hc]; exact ih h e
  | case3 l h1 h2 => exact h.elim
def TabOk (H : Hp) (Pt : Addr) (qual : Str) : Prop := ∃ ps, H Pt = some (.tbl ps) ∧ TriplesOk ps.toList ∧ ∀ pos cv, codeAmong pos ps.toList = some cv → ∃ c, cv = .ref c ∧ CodeZ H c qual
theorem CodeZ.kp {S : List Addr} {H H' : Hp} {c : Addr} {qual : Str} (k : Kp S H H') (n : c ∉ S) (x : CodeZ H c qual) : CodeZ H' c qual := let ⟨oc, vs, t, e, r⟩ := x; ⟨oc, vs, t, k.old _ _ e n, r⟩
def tLam (Pt : Addr) (qual : Str) (params : Arguments) (body : Expr) (scope : Scope) (cl : List (Str × Addr)) (pm : Value) : TE := fun σ H Q => TabOk H Pt qual ∧ ∀ f c ct H', H f = none → Kp [Pt] H H' → H' f = some (FZ (PySem.W.kla_obj "<lambda>" qual params body scope cl pm c ct)) → CodeZ H' c qual → TabOk H' Pt qual → Q (.ref f) H'
section
variable {X : Cx}
theorem pe_lambda {params : Arguments} {body : Expr} {scope : Scope} {pos : Pos} {c Pt : Addr} {cl : List (Str × Addr)} (hdef : defaultsOf params X.env = ([], [])) (hcl : closureFor scope X.env = pure cl) (hcode : X.env.code = .ref c) (hC : PySem.W.CodeHd X.base c Pt) (hbt : X.base.BuiltinsAt X.mg Pt) :
    PE X (.Lambda params body scope pos) (tLam Pt (X.env.qual ++ "<lambda>") params body scope cl ((X.mg "__name__").getD .none)) := by
  intro pins s σ H Q I h
  obtain ⟨⟨ps, hP, ht, hin⟩, h⟩ := h
  have oP : s.heap.get? Pt = some (PySem.W.tabObj ps) := I.hok Pt _ hP
  have hgs : s.heap.Ns mainGlobals X.mg := I.mod.glob.keeps I.bk
  have hgP : mainGlobals ≠ Pt := fun q => by
    obtain ⟨o, es, ep, e, hd, _⟩ := hgs
    rw [q, oP] at e; cases e; cases hd
  have hb : s.heap.BuiltinsAt X.mg Pt := let ⟨bm, o, b1, b2, b3, b4, b5, r⟩ := hbt; ⟨bm, o, b1, b2, b3, b4, I.bk _ _ b5, r⟩
  have C := hC.keeps I.bk
  refine PySem.W.kla_eval hdef ?_
  cases hf : codeAmong pos ps.toList with
  | some cv =>
    obtain ⟨c', rfl, cz⟩ := hin pos cv hf
    refine PySem.W.kla_makeFunctionHit (mg := X.mg) hcl I.ok.glob hgs hcode C oP ht hf hb fun ctv h' tk hk hsz => ?_
    have hf : H h'.objs.size = none := I.hok.fresh hsz
    have kp : Kp [Pt] H (upd H h'.objs.size (FZ (PySem.W.kla_obj "<lambda>" (X.env.qual ++ "<lambda>") params body scope cl ((X.mg "__name__").getD .none) c' ctv))) := (Kp.refl [Pt] H).new hf
    have kp0 : Kp [] H (upd H h'.objs.size (FZ (PySem.W.kla_obj "<lambda>" (X.env.qual ++ "<lambda>") params body scope cl ((X.mg "__name__").getD .none) c' ctv))) := (Kp.refl [] H).new hf
    refine ⟨.ref h'.objs.size, _, I.laid (t' := tk) (fun b u e => Heap.get?_push_of_some _ (hk b u e)) hsz (FZ.mk (Heap.get?_push_size _ rfl)), rfl, h _ c' ctv _ hf kp upd_same (cz.kp kp0 (by simp)) ⟨ps, kp0.old _ _ hP (by simp), ht, fun p v e => ?_⟩⟩
    obtain ⟨c2, e2, z⟩ := hin p v e
    exact ⟨c2, e2, z.kp kp0 (by simp)⟩
  | none =>
    refine PySem.W.kla_makeFunction (mg := X.mg) hcl I.ok.glob hgs hcode C oP ht hf hgP hb fun c' ctv h' tk hx hge hlt hrec htb => ?_
    obtain ⟨c₂, oc, vs, t, e2, hoc, hd, hv⟩ := hrec
    cases e2
    have lP : Pt < s.heap.objs.size := Heap.lt_size oP
    have lt : ∀ b u, H b = some u → b < s.heap.objs.size := fun b u e => (I.hok b u e).lt
    have nPc : Pt ≠ c' := Nat.ne_of_lt (Nat.lt_of_lt_of_le lP hge)
    have nPf : Pt ≠ h'.objs.size := Nat.ne_of_lt (Nat.lt_trans (Nat.lt_of_lt_of_le lP hge) hlt)
    have ncf : c' ≠ h'.objs.size := Nat.ne_of_lt hlt
    have fC : H c' = none := I.hok.fresh hge
    have fF : H h'.objs.size = none := I.hok.fresh (Nat.le_trans hge (Nat.le_of_lt hlt))
    let o1 : Obj := PySem.W.kla_obj "<lambda>" (X.env.qual ++ "<lambda>") params body scope cl ((X.mg "__name__").getD .none) c' ctv
    let ps' : Array Value := ps ++ #[rawInt pos.line, rawInt pos.col, .ref c']
    let H' : Hp := upd (upd (upd H Pt (.tbl ps')) c' (FZ oc)) h'.objs.size (FZ o1)
    have eF : H' h'.objs.size = some (FZ o1) := upd_same
    have eC : H' c' = some (FZ oc) := by show upd _ _ _ c' = _; rw [upd_ne ncf, upd_same]
    have eP : H' Pt = some (.tbl ps') := by show upd _ _ _ Pt = _; rw [upd_ne nPf, upd_ne nPc, upd_same]
    have eO : ∀ b, b ≠ Pt → b ≠ c' → b ≠ h'.objs.size → H' b = H b := fun b n1 n2 n3 => by show upd _ _ _ b = _; rw [upd_ne n3, upd_ne n2, upd_ne n1]
    have eS : ∀ b, b < s.heap.objs.size → b ≠ Pt → H' b = H b := fun b l n => eO b n (Nat.ne_of_lt (Nat.lt_of_lt_of_le l hge)) (Nat.ne_of_lt (Nat.lt_trans (Nat.lt_of_lt_of_le l hge) hlt))
    have kp : Kp [Pt] H H' := by
      refine ⟨fun b o e n => ?_, fun b xs e => ?_, fun b o e => ?_⟩
      · rw [eS b (lt b _ e) (by simpa using n)]; exact e
      · rw [eS b (lt b _ e) (fun z => by rw [z, hP] at e; cases e)]; exact e
      · by_cases z : b = Pt
        · exact ⟨_, by rw [z]; exact eP⟩
        · exact ⟨o, by rw [eS b (lt b _ e) z]; exact e⟩
    have kept : ∀ b o, b ≠ Pt → s.heap.get? b = some o → (h'.push o1).get? b = some o := fun b o n e => Heap.get?_push_of_some _ (hx b o n e)
    have un : Un (frs X.stack) [] H H' s.heap (h'.push o1) := by
      refine ⟨fun b o e n _ _ => kept b o (fun z => by rw [z, hP] at n; cases n) e, fun b o e n _ _ => ⟨o.slots, kept b o (fun z => by rw [z, hP] at n; cases n) e⟩, fun b o e n _ => ?_, fun b o e _ => ?_, fun b xs e => kp.tup b xs e, fun b o u e => ?_, fun b qs e => ?_⟩
      · rw [eS b (Heap.lt_size e) (fun z => by rw [z, hP] at n; cases n)]; exact n
      · by_cases z : b = Pt
        · exact ⟨_, by rw [z]; exact Heap.get?_push_of_some _ htb⟩
        · exact ⟨o, kept b o z e⟩
      · exact kp.old b _ e (by simp; intro z; rw [z, hP] at e; cases e)
      · by_cases z : b = Pt
        · subst z
          rw [hP] at e
          cases Option.some.inj e
          exact ⟨_, eP⟩
        · exact ⟨#[], by rw [eS b (lt b _ e) z, e]; simp⟩
    have hok : HOk X.prog X.w H' (h'.push o1) := fun b u q => by
      by_cases z1 : b = h'.objs.size
      · subst z1
        rw [eF] at q
        cases Option.some.inj q
        exact FZ.mk (Heap.get?_push_size _ rfl)
      · by_cases z2 : b = c'
        · subst z2
          rw [eC] at q
          cases Option.some.inj q
          exact FZ.mk (Heap.get?_push_of_some _ hoc)
        · by_cases z3 : b = Pt
          · subst z3
            rw [eP] at q
            cases Option.some.inj q
            exact Heap.get?_push_of_some _ htb
          · rw [eO b z3 z2 z1] at q
            refine (I.hok b u q).stay (fun d v hd' e => kept d v ?_ e) (fun d e => ?_) fun d xs e => kp.tup d xs e
            · rcases hd' with rfl | hd'
              · exact z3
              · intro z; rw [z, hP] at hd'; cases hd'
            · exact kp.old d _ e (by simp; intro z; rw [z, hP] at e; cases e)
    have nC : ∀ c2, (∃ o, H c2 = some (FZ o)) → c2 ∉ [Pt] := fun c2 ⟨o, e⟩ m => by
      rw [List.mem_singleton.mp m, hP] at e; cases e
    refine ⟨.ref h'.objs.size, H', I.call (g' := s.gens) (d' := s.drawn) (t' := tk) (ch := []) un hok I.bare (fun b z => absurd z (by simp)), rfl, h _ c' ctv H' fF kp eF ⟨oc, vs, t, eC, hd, hv⟩ ⟨ps', eP, ?_, fun p v e => ?_⟩⟩
    · have hl : ps'.toList = ps.toList ++ [rawInt pos.line, rawInt pos.col, .ref c'] := by simp [ps']
      rw [hl]; exact TriplesOk_snoc _ _ _ _ ht
    · have hl : ps'.toList = ps.toList ++ [rawInt pos.line, rawInt pos.col, .ref c'] := by simp [ps']
      rw [hl] at e
      rcases among_snoc _ ht e with e | rfl
      · obtain ⟨c2, e2, z⟩ := hin p v e
        exact ⟨c2, e2, z.kp kp (nC c2 (let ⟨oc, _, _, q, _⟩ := z; ⟨oc, q⟩))⟩
      · exact ⟨c', rfl, oc, vs, t, eC, hd, hv⟩
end
end L2
set_option Elab.async false
set_option linter.all false
set_option maxRecDepth 100000
set_option maxHeartbeats 4000000
namespace L2
open PySem PySem.Spec PyProof.Rows
theorem codeTab {h : Heap} {c P : Addr} {ps : Array Value} (C : PySem.W.CodeHd h c P) (e : h.get? P = some (PySem.W.tabObj ps)) : isCodeTable h P := (C.tab e).isCodeTable
theorem law_callT {P : Program} {w : World} {K : PySem.W.Frag} {mg mb : Str → Option Value} {CX : CXT} {k : Nat} {fa a : Addr} {fd : FuncData} {x : Str} {sp : Sp} {s₁ : Shared} {vs : List Value} {ns : List Int} {ts : List Addr}
    (KX : K.In s₁.heap) (hns : s₁.heap.Ns mainGlobals mg) (hb : s₁.heap.Ns builtinsNs mb) (hbb : ∀ x : Str, x ≠ "__name__" → mb x = bootBuiltins x) (hlim : s₁.heap.NoLimit) (hg : s₁.gens = #[])
    (ha : s₁.heap.get? a = some { cls := .type "list", data := .seq vs.toArray }) (hi : IntsAre vs ns) (hl : ns.length ≤ sizeLine) (hr : Room k callerA)
    (hts : ∀ t ∈ ts, s₁.heap.get? t = some (PySem.W.tabObj #[])) (hcd : ∀ t ∈ ts, ∃ c, PySem.W.CodeHd s₁.heap c t) (hKt : ∀ t ∈ ts, K.lookup t = none) (hbm : ∀ t ∈ ts, s₁.heap.BuiltinsAt mg t)
    (F : ∀ base : Heap, K.In base → base.Ns mainGlobals mg → (∀ t ∈ ts, base.BuiltinsAt mg t) → FnOk P w K mg base CX k fa fd [x] sp) (hbind : ∀ (s : Shared) (u : Value), BindsTo s fd ⟨[u], []⟩ [(x, u)])
    (hsp : ∀ H : Hp, SqL K H a (ns.map V.int) → (∀ t ∈ ts, H t = some (.tbl #[])) → sp [.ref a] H (fun v _ => v = .bl true) fun _ _ _ => False)
    (hCX : ∀ H e s', CX [] H s₁ (fun _ _ _ => False) e s' → False) :
    codeAny (model P w) callerA (.call (.ref fa) ⟨[.ref a], []⟩) (fun r s' => r = .ok (.ret (.bool true)) ∧ OldK s₁.heap s'.heap ∧ s'.os = s₁.os ∧ AllBare s'.gens) s₁ := by
  have rv := vals_ints hi
  have lenV := hi.length
  have naT : a ∉ ts := fun m => by
    have := hts a m
    rw [ha] at this
    cases this
  have core : ∀ H : Hp, (∀ b, H b = none ∨ (∃ o xs, H b = some (.frz o (.lst xs))) ∨ b ∈ ts) → (∀ t ∈ ts, H t = some (.tbl #[])) → SqL K H a (ns.map V.int) → HOk P w H s₁.heap → (∀ b, H b ≠ none → b = a ∨ b ∈ ts) → (H a ≠ none → K.lookup a = none) →
      codeAny (model P w) callerA (.call (.ref fa) ⟨[.ref a], []⟩) (fun r s' => r = .ok (.ret (.bool true)) ∧ OldK s₁.heap s'.heap ∧ s'.os = s₁.os ∧ AllBare s'.gens) s₁ := by
    intro H hO hT hS hok hA hK
    have base_of : ∀ {b : Addr} {o : Obj}, s₁.heap.get? b = some o → H b = none → (hidT s₁.heap H).get? b = some o := fun e n => hidT_get e n
    have noB : ∀ {b : Addr} {o : Obj}, s₁.heap.get? b = some o → (∀ vs n, o.data ≠ .seq vs n) → (∀ vs, o.data ≠ .fields vs) → H b = none := fun {b o} e d1 d2 => by
      cases q : H b with
      | none => rfl
      | some u =>
        rcases hA b (by rw [q]; simp) with e' | e'
        · subst e'
          rw [ha] at e; cases e
          exact absurd rfl (d1 _ _)
        · rw [hts b e'] at e; cases e
          exact absurd rfl (d2 _)
    have nsK : ∀ {b : Addr} {m : Str → Option Value}, s₁.heap.Ns b m → (hidT s₁.heap H).Ns b m := fun {b m} ⟨o, es, ep, e, d, r⟩ => ⟨o, es, ep, base_of e (noB e (by rw [d]; nofun) (by rw [d]; nofun)), d, r⟩
    have hKb : K.In (hidT s₁.heap H) := fun b o e => base_of (KX b o e) (by
      cases q : H b with
      | none => rfl
      | some u =>
        rcases hA b (by rw [q]; simp) with e' | e'
        · subst e'
          rw [hK (by rw [q]; simp)] at e; cases e
        · rw [hKt b e'] at e; cases e)
    have hBb : ∀ t ∈ ts, (hidT s₁.heap H).BuiltinsAt mg t := fun t ht => let ⟨bm, o, b1, b2, b3, b4, b5, b6, b7, b8⟩ := hbm t ht
      ⟨bm, o, b1, b2, b3, b4, base_of b5 (noB b5 (by rw [b8]; nofun) (by rw [b8]; nofun)), b6, b7, b8⟩
    have hM : Mod K mg (hidT s₁.heap H) := ⟨hKb, nsK hns, ⟨mb, nsK hb, hbb⟩, let ⟨mc, h1, h2⟩ := hlim; ⟨mc, nsK h1, h2⟩⟩
    have e0 : Env0 P w K mg (hidT s₁.heap H) callerA [] s₁ H := ⟨rfl, hM, fun b o e => of_hidT e, Nat.le_of_eq (hidT_size _ _), trivial, fun b hb => absurd (show b ∈ ([] : List Addr) from hb) (by simp), hok, .of_eq hg⟩
    refine codeAny_mono ((F _ hKb (nsK hns) hBb).run callerA [] s₁ H ⟨[.ref a], []⟩ [.ref a] [.ref a] _ _ hr e0 (hbind s₁ (.ref a)) (.cons rfl .nil) (hsp H hS hT)) fun r s' h => ?_
    cases r with
    | error e => exact (hCX H e s' h).elim
    | ok fl =>
      cases fl with
      | next => exact False.elim h
      | brk => exact False.elim h
      | cont => exact False.elim h
      | ret u =>
        obtain ⟨v, H', os, bare, un, hok', r', q⟩ := h
        have q' : v = .bl true := q
        subst q'
        obtain rfl : u = Value.bool true := r'
        have grown : ∀ b ∈ ts, ∃ ps, s'.heap.get? b = some (PySem.W.tabObj ps) := fun b m => by
          obtain ⟨more, e⟩ := un.tbls b #[] (hT b m)
          exact ⟨_, hok' b _ e⟩
        have keep : ∀ b o, b ∉ ts → s₁.heap.get? b = some o → s'.heap.get? b = some o := fun b o m e => by
          cases q : H b with
          | none => exact un.keep b o e q (by intro z; exact absurd (show b ∈ ([] : List Addr) from z) (by simp)) (by simp)
          | some u =>
            rcases hO b with z | ⟨ob, xs, z⟩ | z
            · rw [q] at z; cases z
            · have z2 := un.frzs b ob _ z
              obtain ⟨e1, _⟩ := hok b _ z
              obtain ⟨e2, _⟩ := hok' b _ z2
              rw [e] at e1; cases e1
              exact e2
            · exact absurd z m
        refine ⟨rfl, ⟨fun b o e => ?_, fun b o e => ?_⟩, os, bare⟩
        · by_cases m : b ∈ ts
          · obtain ⟨c, hc⟩ := hcd b m
            obtain ⟨ps, hP⟩ := grown b m
            have e2 := hts b m
            rw [e] at e2
            cases Option.some.inj e2
            exact .inr (.inl ⟨codeTab hc (hts b m), rfl, #[], ps, rfl, by rw [Array.empty_append]; exact hP⟩)
          · exact .inl (keep b o m e)
        · by_cases m : b ∈ ts
          · obtain ⟨ps, hP⟩ := grown b m
            exact ⟨_, hP⟩
          · exact ⟨o, keep b o m e⟩
  cases hk : K.lookup a with
  | some o =>
    have e := KX a o hk
    rw [ha] at e
    cases e
    refine core (fun b => if b ∈ ts then some (.tbl #[]) else none) (fun b => ?_) (fun t m => if_pos m) (.inr ⟨_, vs.toArray, _, hk, rfl, rfl, rfl, by rw [List.size_toArray, lenV]; exact hl, by simpa using rv⟩) (fun b u z => ?_) (fun b z => ?_) fun z => absurd (if_neg naT) z
    · by_cases m : b ∈ ts
      · exact .inr (.inr m)
      · exact .inl (if_neg m)
    · by_cases m : b ∈ ts
      · have z' := (if_pos m).symm.trans z
        cases z'
        exact hts b m
      · have z' := (if_neg m).symm.trans z
        cases z'
    · by_cases m : b ∈ ts
      · exact .inr m
      · exact absurd (if_neg m) z
  | none =>
    refine core (fun b => if b ∈ ts then some (.tbl #[]) else if b = a then some (.frz { cls := .type "list", data := .seq vs.toArray } (.lst (ns.map V.int))) else none) (fun b => ?_) (fun t m => if_pos m) (.inl (.inr ⟨{ cls := .type "list", data := .seq vs.toArray }, (if_neg naT).trans (if_pos rfl)⟩)) (fun b u z => ?_) (fun b z => ?_) fun _ => hk
    · by_cases m : b ∈ ts
      · exact .inr (.inr m)
      · by_cases hb : b = a
        · exact .inr (.inl ⟨_, _, (if_neg m).trans (if_pos hb)⟩)
        · exact .inl ((if_neg m).trans (if_neg hb))
    · by_cases m : b ∈ ts
      · have z' := (if_pos m).symm.trans z
        cases z'
        exact hts b m
      · by_cases hb : b = a
        · have z' := ((if_neg m).trans (if_pos hb)).symm.trans z
          cases z'
          subst hb
          exact ⟨ha, by rw [List.length_map]; exact hl, vs, _, rv, ha⟩
        · have z' := ((if_neg m).trans (if_neg hb)).symm.trans z
          cases z'
    · by_cases m : b ∈ ts
      · exact .inr m
      · by_cases hb : b = a
        · exact .inl hb
        · exact absurd ((if_neg m).trans (if_neg hb)) z
theorem walk_ofT {l : PySem.W.OpenLaw} {n k : Nat} {q : Program} {loose : List Str} {XP : (Str → Option Value) → Heap → Prop} {YP : World → Heap → Prop} {d : DefRec} {K : Params → PySem.W.Frag} {CX : World → CXT} {sp : World → Sp} {x : Str} {ts : List Addr}
    (hn : l.most = some n) (hn2 : n ≤ sizeLine) (hdf : d.params.defaults = []) (hr : Room k callerA)
    (hY : ∀ (w : World) (h : Heap), YP w h → (K w.params).In h) (hT : ∀ (w : World) (h : Heap), YP w h → ∀ t ∈ ts, h.get? t = some (PySem.W.tabObj #[]))
    (hC : ∀ (w : World) (h : Heap), (K w.params).In h → ∀ t ∈ ts, ∃ c, PySem.W.CodeHd h c t) (hN : ∀ w : World, ∀ t ∈ ts, (K w.params).lookup t = none)
    (F : ∀ (w : World) (mg : Str → Option Value) (fa : Addr) (h : Heap), (K w.params).In h → h.Ns mainGlobals mg → mg d.name = some (.ref fa) →
      ∃ fd : FuncData, (∀ (s : Shared) (u : Value), BindsTo s fd ⟨[u], []⟩ [(x, u)]) ∧
        ∀ base : Heap, (K w.params).In base → base.Ns mainGlobals mg → (∀ t ∈ ts, base.BuiltinsAt mg t) → FnOk l.prog w (K w.params) mg base (CX w) k fa fd [x] (sp w))
    (hsp : ∀ (w : World) (H : Hp) (a : Addr) (ns : List Int), ns.length ≤ n → SqL (K w.params) H a (ns.map V.int) → (∀ t ∈ ts, H t = some (.tbl #[])) → sp w [.ref a] H (fun v _ => v = .bl true) fun _ _ _ => False)
    (hCX : ∀ (w : World) (H : Hp) (s : Shared) (e : Value) (s' : Shared), CX w [] H s (fun _ _ _ => False) e s' → False) :
    PySem.W.WalkO q loose XP YP l.row.toRowW d [] (fun f vs => PySem.call f vs) := by
  refine Att.attach_call hn hdf fun w s₀ s₁ mg mb fa o pm cd doc a vs ns G Y ho hd hcd hmg hobj hints hlen hg => ?_
  have KX := hY w _ Y
  have TX := hT w _ Y
  obtain ⟨fd, hb, hF⟩ := F w mg fa _ KX G.T.g hmg
  refine law_callT (ts := ts) KX G.T.g G.T.b G.T.builtins G.T.nolimit hg hobj hints (Nat.le_trans hlen hn2) hr TX (hC w _ KX) (hN w) (fun t ht => ?_) hF hb (fun H hS hT => hsp w H a ns hlen hS hT) fun H e s' => hCX w H s₁ e s'
  obtain ⟨bm, ob, b1, b2, b3, b4, b5, b6⟩ := G.T.bmain
  refine ⟨bm, ob, b1, b2, fun q => ?_, fun q => ?_, b3, b4, b5, b6⟩
  · obtain ⟨o, es, ep, e, hd, _⟩ := G.T.g
    rw [q, e] at b3; cases b3; rw [hd] at b6; cases b6
  · rw [q, TX t ht] at b3; cases b3; cases b4
end L2
set_option Elab.async false
set_option linter.all false
set_option maxRecDepth 100000
set_option maxHeartbeats 4000000
namespace L2
open PySem PySem.Spec PyProof.Rows
def KDict (P : Program) (w : World) (K : PySem.W.Frag) (a : Addr) (kvs : List (Key × V)) : Prop := ∀ h : Heap, K.In h → ∃ vs, KV kvs vs ∧ h.DictOf (mixKind P w) a vs
abbrev entS (w : World) (p : Str × Tok × Value) : DictEntry := { hash := PyData.keyHash w.params p.1, key := .str p.1 p.2.1, val := p.2.2 }
theorem KDict.of {P : Program} {w : World} {K : PySem.W.Frag} {a : Addr} {kvs : List (Key × V)} {l : List (Str × Tok × Value)} {es : Array DictEntry} {ep : Nat} (lk : K.lookup a = some { cls := .type "dict", data := .dict es ep }) (he : es.toList = l.map (entS w))
    (hv : KV kvs (l.map fun p => ((Sum.inr p.1 : Key), p.2.2))) (nd : (kvs.map Prod.fst).Nodup) : KDict P w K a kvs := fun h hK => by
  refine ⟨l.map fun p => ((Sum.inr p.1 : Key), p.2.2), hv, _, es, ep, hK _ _ lk, ⟨rfl, rfl, rfl⟩, rfl, fun e hm => ?_, ?_, ?_⟩
  · have : e ∈ es.toList := Array.mem_toList_iff.mpr hm
    rw [he] at this
    obtain ⟨p, _, rfl⟩ := List.mem_map.mp this
    exact ⟨.inr p.1, by simp [mixKind, keyIs, Value.isStrOf], rfl⟩
  · rw [he]
    clear he hv nd lk
    induction l with
    | nil => exact .nil
    | cons p l ih => exact .cons (by simp [mixKind, keyIs, Value.isStrOf]) rfl ih
  · have : ∀ {kvs : List (Key × V)} {vs : List (Key × Value)}, KV kvs vs → vs.map Prod.fst = kvs.map Prod.fst := fun {kvs vs} r => by
      induction r with
      | nil => rfl
      | cons h _ ih => rw [List.map_cons, List.map_cons, ih, h.1]
    have e2 := this hv
    rw [show (List.map (fun x => x.1) (List.map (fun p : Str × Tok × Value => ((Sum.inr p.1 : Key), p.2.2)) l)) = _ from e2]
    exact nd
section
variable {X : Cx} {o i : Expr} {td ty : TE} {pos : Pos}
def tDGetK (P : Program) (w : World) (K : PySem.W.Frag) (td ty : TE) : TE := fun σ H Q => td σ H fun x H1 => ty σ H1 fun y H2 => ∃ a kvs k v, x = .ref a ∧ KDict P w K a kvs ∧ y = kV k ∧ valV kvs k = some v ∧ Q v H2
theorem pe_dgetK {P : Program} {w : World} {K : PySem.W.Frag} (hP : X.prog = P) (hw : X.w = w) (hK : X.K = K) (ho : PE X o td) (hi : PE X i ty) (hs : NoSl i) : PE X (.Subscript o i pos) (tDGetK P w K td ty) := by
  subst hP; subst hw; subst hK
  intro pins s σ H Q I h
  refine subD_of PySem.F.slot_dict_getitem.lookup hs (thn (ho pins s σ H _ I h) fun u s1 ⟨x, H1, I1, rx, q1⟩ => thn (hi pins s1 σ H1 _ I1 q1) fun iv s2 ⟨y, H2, I2, ry, a, kvs, k, v, ex, D, ey, l, q2⟩ => ?_)
  subst ex
  subst ey
  obtain rfl : u = Value.ref a := rx
  obtain ⟨vs, rel, dd⟩ := D _ I2.kIn
  obtain ⟨w', hw, rw'⟩ := RelO.some_of (v := v) (o := valueAt vs k) (by rw [← l]; exact rel.val k)
  exact ⟨dd.typeIs, wpAny_getItem_of (kV_is ry) dd.mapOf hw ⟨v, H2, I2.tok _, rw', q2⟩⟩
theorem qpe_dgetK {P : Program} {w : World} {K : PySem.W.Frag} (hP : X.prog = P) (hw : X.w = w) (hK : X.K = K) (ho : QE X o td) (hi : QE X i ty) (hs : NoSl i) : QE X (.Subscript o i pos) (tDGetK P w K td ty) := ⟨pe_dgetK hP hw hK ho.h hi.h hs⟩
theorem qpe_callD {P : Program} {w : World} {K : PySem.W.Frag} {mg : Str → Option Value} {base : Heap} (hP : X.prog = P) (hw : X.w = w) (hK : X.K = K) (hM : X.mg = mg) (hB : X.base = base) {k : Nat} {x : Str} {p pos : Pos} {e : Expr} {es : List Expr} {t : TA} (i : Nat) (hr : Room k X.A) (ha : QA X (e :: es) t)
    (hN : X.N[i]? = some x := by rfl) (hv : Vis X.env.scope x := by first | exact Or.inl rfl | exact Or.inr (Or.inl rfl) | exact Or.inr (Or.inr rfl))
    (hdb : (x == ("__debug__" : Str)) = false := by decide) (hcd : (x == ("__classdict__" : Str)) = false := by decide) (he : starEach (e :: es) X.env = (false, eval e X.env) :: starEach es X.env := by rfl) :
    QE X (.Call (.Name x p) (e :: es) [] pos) (tCallD P w K mg base k i t) := ⟨pe_callD hP hw hK hM hB i hr ha.h hN hv hdb hcd he⟩
theorem qpe_callC {k : Nat} {f : Addr} {fd : FuncData} {ps : List Str} {sp : Sp} {x : Str} {p pos : Pos} {e : Expr} {es : List Expr} {t : TA} (js : List (Nat × Addr)) (hjs : ∀ j ∈ js, ∃ x, X.N[j.1]? = some x ∧ X.env.kindOf x = some .cell ∧ X.fn x = true ∧ X.env.cells.lookup x = some j.2)
    (F : FnOk X.prog X.w X.K X.mg X.base CX0 k f fd ps sp) (hr : Room k X.A) (hg : Gl X x) (hm : X.mg x = some (.ref f)) (hk : PySem.W.keepIn X.K (.ref f) = true) (hb : Binds X.K fd ps []) (ha : QA X (e :: es) t)
    (hdb : (x == ("__debug__" : Str)) = false := by decide) (he : starEach (e :: es) X.env = (false, eval e X.env) :: starEach es X.env := by rfl) (hpl : (backTo pos (starEach es X.env)).any (·.1) = false := by rfl) :
    QE X (.Call (.Name x p) (e :: es) [] pos) (tCallC js sp t) := ⟨pe_callC js hjs F hr hg hm hk hb ha.h hdb he hpl⟩
theorem qpe_lambda {params : Arguments} {body : Expr} {scope : Scope} {pos : Pos} {c Pt : Addr} {cl : List (Str × Addr)} {qual : Str} {pm : Value} (hq : X.env.qual ++ "<lambda>" = qual) (hpm : (X.mg "__name__").getD .none = pm) (hcode : X.env.code = .ref c) (hC : PySem.W.CodeHd X.base c Pt) (hbt : X.base.BuiltinsAt X.mg Pt)
    (hdef : defaultsOf params X.env = ([], []) := by rfl) (hcl : closureFor scope X.env = pure cl := by rfl) : QE X (.Lambda params body scope pos) (tLam Pt qual params body scope cl pm) := by
  subst hq; subst hpm
  exact ⟨pe_lambda hdef hcl hcode hC hbt⟩
end
theorem Fun.okC {P : Program} {w : World} {K : PySem.W.Frag} {mg : Str → Option Value} {base : Heap} {x qual : Str} {st : Stmt} {f : Addr} {fd : FuncData} {N ps : List Str} {k : Nat} {sp : Sp} (F : Fun K x qual st f fd) (S : FnScope N ps (defScope st)) (len : ∀ vs H Q E, sp vs H Q E → vs.length = ps.length)
    (hbody : ∀ (A : Around) (outer : List Env) (s : Shared) (H : Hp) (vs : List V) (Q : VK) (E : XK), Room k (A.deeper (envOfC qual (defScope st) s.heap.objs.size f fd.code)) → sp vs H Q E →
      ∃ t, PSs (cxOf CX0 P w K mg base N qual (defScope st) f fd.code A outer s H E).nox (defBody st) t ∧ t { nx := fun _ H' => Q .non H', rt := Q } (start N vs) H) : FnOk P w K mg base CX0 (k + 1) f fd ps sp := by
  obtain ⟨oc, od, kV, doc, pm, an, cdv, ct, osl, rfl, lk, hcd⟩ := F.ex
  refine fn_of lk hcd S len fun A outer s H vs Q E hr hsp => ?_
  obtain ⟨t, h, q⟩ := hbody A outer s H vs Q E hr hsp
  exact ⟨t, h.nox, q⟩
theorem Caps.kp {S : List Addr} {H H' : Hp} {cl : List (Str × Addr)} {fs : List Str} {ws : List V} (k : Kp S H H') (n : ∀ p ∈ cl, p.2 ∉ S) (c : Caps H cl fs ws) : Caps H' cl fs ws :=
  ⟨c.len, fun i x v e1 e2 => let ⟨a, o, u, h1, h2, h3, h4⟩ := c.at_ i x v e1 e2; ⟨a, o, u, h1, k.old _ _ h2 (n (x, a) (PySem.mem_of_lookup h1)), h3, h4⟩, c.has, fun p hp => let ⟨o, u, e, d⟩ := c.fz p hp; ⟨o, u, k.old _ _ e (n p hp), d⟩, c.inj⟩
theorem TabOk.kp {S : List Addr} {H H' : Hp} {Pt : Addr} {qual : Str} (k : Kp S H H') (n : Pt ∉ S) (hc : ∀ c o, H c = some (FZ o) → c ∉ S) (x : TabOk H Pt qual) : TabOk H' Pt qual :=
  let ⟨ps, e, t, h⟩ := x
  ⟨ps, k.old _ _ e n, t, fun p v q => let ⟨c, e2, z⟩ := h p v q; ⟨c, e2, z.kp k (let ⟨oc, _, _, q, _⟩ := z; hc c oc q)⟩⟩
end L2
set_option Elab.async false
set_option linter.all false
set_option maxRecDepth 100000
set_option maxHeartbeats 4000000
namespace L2
open PySem PySem.Spec PyProof.Rows
section
variable {X : Cx} {tg : Expr}
end
end L2
set_option Elab.async false
set_option linter.all false
set_option maxRecDepth 100000
set_option maxHeartbeats 4000000
namespace L2
open PySem PySem.Spec PyProof.Rows
section
variable {X : Cx}
theorem op_isT : OpR X (compareOp .Is) (fun x y H Q => ∃ c d, x = .bl c ∧ y = .bl d ∧ Q (.bl (c == d)) H) := by
  intro pins s σ H x y v u Q I rx ry h
  obtain ⟨c, d, rfl, rfl, q⟩ := h
  cases rx
  cases ry
  exact PyProof.Rows.is_bool ⟨.bl (c == d), H, I, rfl, q⟩
def tDNotInK (P : Program) (w : World) (K : PySem.W.Frag) (ty td : TE) : TE := fun σ H Q => ty σ H fun y H1 => td σ H1 fun x H2 => ∃ a kvs k, x = .ref a ∧ KDict P w K a kvs ∧ (a == sysModules) = false ∧ y = kV k ∧ Q (.bl (!(valV kvs k).isSome)) H2
theorem qpc_dnotinK {P : Program} {w : World} {K : PySem.W.Frag} (hP : X.prog = P) (hw : X.w = w) (hK : X.K = K) {i o : Expr} {ty td : TE} (hi : QE X i ty) (ho : QE X o td) : QC X .NotIn i o (tDNotInK P w K ty td) := by
  subst hP; subst hw; subst hK
  refine ⟨fun pins s σ H Q I h => ?_⟩
  refine thn (hi.h pins s σ H _ I h) fun iv s1 ⟨y, H1, I1, ry, q1⟩ => thn (ho.h pins s1 σ H1 _ I1 q1) fun u s2 ⟨x, H2, I2, rx, a, kvs, k, ex, D, hs, ey, q2⟩ => ?_
  subst ex
  subst ey
  obtain rfl : u = Value.ref a := rx
  obtain ⟨vs, rel, dd⟩ := D _ I2.kIn
  refine wpAny_notIn_of (kV_is ry) hs dd.mapOf ?_
  rw [← (rel.val k).isSome_eq]
  exact ⟨.bl _, H2, I2.tok _, rfl, q2⟩
end
def ItZK (K : PySem.W.Frag) (a b : Addr) : It := ⟨fun i H => ∃ xs ys x y, SqT K H a xs ∧ SqT K H b ys ∧ xs[i]? = some x ∧ ys[i]? = some y,
  fun i H v H' => ∃ T x y, H T = none ∧ v = .ref T ∧ (∀ xs, SqT K H a xs → xs[i]? = some x) ∧ (∀ ys, SqT K H b ys → ys[i]? = some y) ∧ H' = upd H T (.tup [x, y]), fun i H => ∃ xs ys, SqT K H a xs ∧ SqT K H b ys ∧ i = min xs.length ys.length⟩
section
variable {P : Program} {w : World} {K : PySem.W.Frag}
def ZTK (a b z TI TO i1 i2 : Addr) (i : Nat) (h : Heap) : Prop := IsZip h z TI TO .none ∧ IsPair h TI (.ref i1) (.ref i2) ∧ (∃ x y, IsPair h TO x y) ∧ h.IsTupleIter i1 a i ∧ h.IsTupleIter i2 b i
theorem ZTK.tys {a b z TI TO i1 i2 : Addr} {i : Nat} {h : Heap} (t : ZTK a b z TI TO i1 i2 i h) : ∀ c ∈ [z, TI, TO, i1, i2], ∃ o, h.get? c = some o ∧ (∀ v, o.data ≠ .cell v) := by
  obtain ⟨e0, e1, ⟨x, y, e2⟩, ⟨o3, e3, _, d3⟩, ⟨o4, e4, _, d4⟩⟩ := t
  intro c hc
  simp only [List.mem_cons, List.not_mem_nil, or_false] at hc
  rcases hc with rfl | rfl | rfl | rfl | rfl
  · exact ⟨_, e0, fun v q => by cases q⟩
  · exact ⟨_, e1, fun v q => by cases q⟩
  · exact ⟨_, e2, fun v q => by cases q⟩
  · exact ⟨_, e3, fun v q => by rw [d3] at q; cases q⟩
  · exact ⟨_, e4, fun v q => by rw [d4] at q; cases q⟩
theorem Inv.apartT {X : Cx} {pins : List (Addr × Obj)} {σ : St} {H : Hp} {s : Shared} (I : Inv X pins σ H s) {c d : Addr} {xs : List V} (h : SqT X.K H c xs) (f : FpOk X pins H d) : d ≠ c := by
  rintro rfl
  rcases h with (h | ⟨_, h⟩) | ⟨o, its, n, hk, _⟩
  · rw [f.1] at h; cases h
  · rw [f.1] at h; cases h
  · have hb := I.ok.mod.kin _ _ hk
    rcases f.2.2.2.1 with m | m
    · exact I.ok.noex _ _ hb m
    · exact absurd (Heap.lt_size (I.ok.bs _ _ hb).1) (Nat.not_lt.mpr m)
theorem turn_zipK {elts : List Expr} {kk : Nat} {pos : Pos} (a b z TI TO i1 i2 : Addr) (D : ZA z TI TO i1 i2 [i1] [i2]) : Turn P w K (.Tuple elts kk pos) (ItZK K a b) [z, TI, TO, i1, i2] z (ZTK a b z TI TO i1 i2) where
  mem := .head _
  obj := fun i h st c hc => st.tys c hc
  keep := fun i h h' st k => by
    obtain ⟨e0, e1, ⟨x, y, e2⟩, ⟨o3, e3, r3⟩, ⟨o4, e4, r4⟩⟩ := st
    exact ⟨k z (by simp) _ e0, k TI (by simp) _ e1, ⟨x, y, k TO (by simp) _ e2⟩, ⟨o3, k i1 (by simp) _ e3, r3⟩, ⟨o4, k i2 (by simp) _ e4, r4⟩⟩
  item := by
    intro X hP hw hK hc i pins s σ H E I hf st hg
    subst hP hw hK
    obtain ⟨xs, ys, x', y', hx, hy, gx, gy⟩ := hg
    obtain ⟨va, ra, pa, _⟩ := I.tuple hx
    obtain ⟨vb, rb, pb, _⟩ := I.tuple hy
    obtain ⟨u, hu, ru⟩ := ra.get gx
    obtain ⟨v, hv, rv⟩ := rb.get gy
    have n1 : ∀ d ∈ [z, TI, TO, i1, i2], d ≠ a := fun d hd => I.apartT hx (hf d hd)
    have n2 : ∀ d ∈ [z, TI, TO, i1, i2], d ≠ b := fun d hd => I.apartT hy (hf d hd)
    have h0 : X.A.in1.handled = none := I.ok.hd hc
    have W := walks_zipD (A := X.A) (dr_tup (prog := X.prog) (w := X.w) h0 i1 a (n1 i1 (by simp)).symm va.toArray) (dr_tup (prog := X.prog) (w := X.w) h0 i2 b (n2 i2 (by simp)).symm vb.toArray) (za_more D n1 n2)
    have la : i < va.toArray.size := by rw [List.size_toArray]; exact (List.getElem?_eq_some_iff.mp hu).1
    have lb : i < vb.toArray.size := by rw [List.size_toArray]; exact (List.getElem?_eq_some_iff.mp hv).1
    refine W.item i s _ _ (by omega) ⟨st.1, st.2.1, st.2.2.1, ⟨st.2.2.2.1, pa⟩, ⟨st.2.2.2.2, pb⟩⟩ fun T vs h' tk hp hT htup mid kk' => ⟨_, rfl, ?_⟩
    have nT := W.apart _ _ _ mid
    refine W.go _ _ _ i T { s with heap := h', toks := tk } _ _ mid fun h'' st'' k'' => ?_
    have tup' : IsTup h'' T vs := let ⟨o, eo, r⟩ := htup; ⟨o, k'' T o nT eo, r⟩
    have hv' : Vals [x', y'] vs.toList := by
      obtain ⟨x1, y1, p1, p2, rfl⟩ := hp
      rw [show va.toArray[i]? = some u from by simpa using hu] at p1
      rw [show vb.toArray[i]? = some v from by simpa using hv] at p2
      cases p1
      cases p2
      exact .cons ru (.cons rv .nil)
    have Z' : ZTK a b z TI TO i1 i2 (i + 1) h'' := ⟨st''.1, st''.2.1, st''.2.2.1, st''.2.2.2.1.1, st''.2.2.2.2.1⟩
    refine ⟨.ref T, upd H T (.tup [x', y']), ?_, rfl, ⟨T, x', y', I.hok.fresh hT, rfl, fun zs q => by rw [I.tuple_inj q hx]; exact gx, fun zs q => by rw [I.tuple_inj q hy]; exact gy, rfl⟩, Z', fun c hb => ?_⟩
    · refine I.turnedNew (fp := [z, TI, TO, i1, i2]) (wr := [z, TO, i1, i2]) (fun c hb => hf c (by simp at hb ⊢; rcases hb with r | r | r | r <;> simp [r])) (fun c o hb eo => k'' c o hb (kk' c o hb eo)) hT (by simpa using tup') hv' (by show 2 ≤ sizeLine; decide) fun c hb => ?_
      obtain ⟨o, eo, _⟩ := Z'.tys c (by simp at hb ⊢; rcases hb with r | r | r | r <;> simp [r])
      exact ⟨o, eo⟩
    · obtain ⟨o, eo, _⟩ := st.tys c hb
      rw [upd_ne (Nat.ne_of_lt (Nat.lt_of_lt_of_le (Heap.lt_size eo) hT))]
      exact (hf c hb).1
  done := by
    intro X hP hw hK hc i pins s σ H E I hf st hg
    subst hP hw hK
    obtain ⟨xs, ys, hx, hy, hi⟩ := hg
    obtain ⟨va, ra, pa, _⟩ := I.tuple hx
    obtain ⟨vb, rb, pb, _⟩ := I.tuple hy
    have n1 : ∀ d ∈ [z, TI, TO, i1, i2], d ≠ a := fun d hd => I.apartT hx (hf d hd)
    have n2 : ∀ d ∈ [z, TI, TO, i1, i2], d ≠ b := fun d hd => I.apartT hy (hf d hd)
    have h0 : X.A.in1.handled = none := I.ok.hd hc
    have W := walks_zipD (A := X.A) (dr_tup (prog := X.prog) (w := X.w) h0 i1 a (n1 i1 (by simp)).symm va.toArray) (dr_tup (prog := X.prog) (w := X.w) h0 i2 b (n2 i2 (by simp)).symm vb.toArray) (za_more D n1 n2)
    have hn : min va.toArray.size vb.toArray.size = i := by rw [List.size_toArray, List.size_toArray, ← ra.length, ← rb.length]; exact hi.symm
    refine W.done s _ _ (by rw [hn]; exact ⟨st.1, st.2.1, st.2.2.1, ⟨st.2.2.2.1, pa⟩, ⟨st.2.2.2.2, pb⟩⟩) fun h' tk kk' => ⟨rfl, ?_⟩
    exact I.walked (fun c hb => hf c (by simp at hb ⊢; rcases hb with r | r | r | r <;> simp [r])) kk'
  self := fun A i s Q E st q => wpAny_pyIter_zip st.1 q
end
theorem loop_ZK {K : PySem.W.Frag} {a b : Addr} {xs ys : List V} {g : TG} {tb : TS} {D : Ends} {σ : L2.St} {H : Hp} (Pv : Nat → L2.St → Hp → Prop) (h0 : Pv 0 σ H) (hl : ys.length = xs.length) (ha : ∀ i σ H, i ≤ xs.length → Pv i σ H → SqT K H a xs ∧ SqT K H b ys)
    (hs : ∀ i x y σ H T, xs[i]? = some x → ys[i]? = some y → Pv i σ H → H T = none → g (.ref T) σ (upd H T (.tup [x, y])) fun σ2 H2 => tb { D with nx := Pv (i + 1), ct := Pv (i + 1), bk := D.nx } σ2 H2) (hd : ∀ σ H, Pv xs.length σ H → D.nx σ H) : LoopR (ItZK K a b) g tb D σ H := by
  refine ⟨fun i m σ H => m + i = xs.length ∧ Pv i σ H, ⟨xs.length, rfl, h0⟩, ?_⟩
  rintro i m σ H ⟨hm, p⟩
  obtain ⟨e1, e2⟩ := ha i σ H (by omega) p
  by_cases hi : i < xs.length
  · refine .inr ⟨⟨xs, ys, xs[i], ys[i], e1, e2, by simp [hi], by simp [hl, hi]⟩, Pv (i + 1), fun σ' H' p' => ⟨m - 1, by omega, by omega, p'⟩, fun v H' q => ?_⟩
    obtain ⟨T, x, y, hT, rfl, q1, q2, rfl⟩ := q
    exact hs i x y σ H T (q1 xs e1) (q2 ys e2) p hT
  · obtain rfl : i = xs.length := by omega
    exact .inl ⟨⟨xs, ys, e1, e2, by omega⟩, hd σ H p⟩
section
variable {X : Cx}
def iZipK (K : PySem.W.Frag) (ta : TA) : TI := fun σ H R => ta σ H fun vs H1 => ∃ a b xs ys, vs = [.ref a, .ref b] ∧ SqT K H1 a xs ∧ SqT K H1 b ys ∧ R (ItZK K a b) H1
theorem qpi_zipK {K : PySem.W.Frag} (hK : X.K = K) {a b : Expr} {ta : TA} {p pos tpos : Pos} {elts : List Expr} {kk : Nat} (hg : Gl X "zip") (hm : X.mg "zip" = none) (ha : QA X [a, b] ta) (hs : starEach [a, b] X.env = [(false, eval a X.env), (false, eval b X.env)] := by rfl) (hs2 : starEach [b] X.env = [(false, eval b X.env)] := by rfl) :
    QI X (.Tuple elts kk tpos) (.Call (.Name "zip" p) [a, b] [] pos) (iZipK K ta) := by
  subst hK
  refine ⟨fun pins s σ H R I h => ?_⟩
  refine Call_ (ld_blt I hg hm bt_zip (PyProof.Rows.callWith_type1 (thn (ha.h pos pins s σ H _ I h) fun us s1 ⟨vs, H1, I1, r1, q1⟩ => ?_) (by rw [hs, hs2]) (by rw [hs2]; rfl)))
  obtain ⟨c, d, xs, ys, rfl, ec, ed, q⟩ := q1
  obtain ⟨u1, u2, rfl, ru, rv⟩ := vals2 r1
  cases ru
  cases rv
  obtain ⟨va, ra, pa, _⟩ := I1.tuple ec
  obtain ⟨vb, rb, pb, _⟩ := I1.tuple ed
  refine call_zipTT pa pb fun h' M => ?_
  have I2 : Inv X pins σ H1 { s1 with heap := h' } := I1.kept (t' := s1.toks) M.old
  have D : ZA (s1.heap.objs.size + 4) (s1.heap.objs.size + 2) (s1.heap.objs.size + 3) s1.heap.objs.size (s1.heap.objs.size + 1) [s1.heap.objs.size] [s1.heap.objs.size + 1] := by
    constructor <;> simp <;> omega
  refine wpAny_pyIter_zip M.z ⟨s1.heap.objs.size + 4, _, _, _, H1, rfl, I2, turn_zipK c d _ _ _ _ _ D, ⟨M.z, M.ti, ⟨_, _, M.to⟩, M.i1, M.i2⟩, fun b hb => ?_, q⟩
  have hb' : s1.heap.objs.size ≤ b := by
    simp only [List.mem_cons, List.not_mem_nil, or_false] at hb
    rcases hb with rfl | rfl | rfl | rfl | rfl <;> first | exact Nat.le_refl _ | exact Nat.le_add_right _ _
  exact I1.fpOk (H' := H1) hb' (I1.hok.fresh hb')
end
end L2
set_option Elab.async false
set_option linter.all false
namespace L2
open PySem PySem.Spec PyProof.Rows
section
variable {env : Env} {es : List Expr}
theorem se_Constant {c : Const} {j : Nat} {pos : Pos} : starEach (.Constant c j pos :: es) env = (false, eval (.Constant c j pos) env) :: starEach es env := rfl
theorem se_Name {x : Str} {pos : Pos} : starEach (.Name x pos :: es) env = (false, eval (.Name x pos) env) :: starEach es env := rfl
theorem se_BinOp {a b : Expr} {op : Operator} {pos : Pos} : starEach (.BinOp a op b pos :: es) env = (false, eval (.BinOp a op b pos) env) :: starEach es env := rfl
theorem se_UnaryOp {a : Expr} {op : UnaryOp} {pos : Pos} : starEach (.UnaryOp op a pos :: es) env = (false, eval (.UnaryOp op a pos) env) :: starEach es env := rfl
theorem se_Subscript {a b : Expr} {pos : Pos} : starEach (.Subscript a b pos :: es) env = (false, eval (.Subscript a b pos) env) :: starEach es env := rfl
theorem se_Call {f : Expr} {as : List Expr} {ks} {pos : Pos} : starEach (.Call f as ks pos :: es) env = (false, eval (.Call f as ks pos) env) :: starEach es env := rfl
end
end L2
set_option linter.all false
namespace My
open PySem
def toS (l : List Nat) : Str := ⟨l.toArray⟩
theorem toS_app (l : List Nat) (c : Nat) : toS l ++ (⟨#[c]⟩ : Str) = toS (l ++ [c]) := by
  show (⟨l.toArray ++ #[c]⟩ : Str) = ⟨(l ++ [c]).toArray⟩
  simp
theorem toS_len (l : List Nat) : (toS l).length = l.length := by simp [toS, Str.length]
end My
set_option Elab.async false
set_option linter.all false
set_option maxRecDepth 100000
set_option maxHeartbeats 4000000
namespace My
open PySem L2 PyProof.Rows
def sg (z : Str) : List Nat := z.cps.toList
theorem sg_len (z : Str) : (sg z).length = z.length := by simp [sg, Str.length]
end My
set_option Elab.async false
set_option linter.all false
set_option maxRecDepth 100000
set_option maxHeartbeats 4000000
namespace My
open PySem L2 PyProof.Rows
inductive BW where
  | or | and | beh
inductive RE where
  | nothing | blank | letter (a : Str) | no (i : Nat) | bin (w : BW) (i j : Nat)
def ew : BW → Str
  | .or => "or"
  | .and => "and"
  | .beh => "behind"
def erowV : RE → List V
  | .nothing => [.str "nothing"]
  | .blank => [.str "blank"]
  | .letter a => [.str "letter", .str a]
  | .no i => [.str "not", .int (i : Int)]
  | .bin w i j => [.str (ew w), .int (i : Int), .int (j : Int)]
def RE.ok (k : Nat) : RE → Prop
  | .nothing => True
  | .blank => True
  | .letter a => a.length = 1
  | .no i => i < k
  | .bin _ i j => i < k ∧ j < k
end My
set_option Elab.async false
set_option linter.all false
set_option maxRecDepth 100000
set_option maxHeartbeats 4000000
namespace My
open PySem L2 PyProof.Rows
end My
set_option Elab.async false
set_option linter.all false
set_option maxRecDepth 100000
set_option maxHeartbeats 4000000
namespace My
open PySem L2
local macro_rules
  | `(tactic| simp!) => `(tactic| simp only [tSeq, tIfS, tTest, tOp, tVar, tC, tAsg, gName, gSub, tRet, tNext, tDrop, tAnd, tOr, tNot, tAndV, tNotV, tB, tIf, tChain, tCall, rI0, rI, rAddW_int, rAddW_str, rMulW_int, rMulW_ref, rLtU_int, rLtU_str, rLeU_int, rLeU_str, rIxU_str, rIxU_ref, rLenU_str, rLenU_ref, rMaxU_int, rIntU_int, rIntU_bl, rListU_str, rListU_ref, rPopU_ref, rAppendU_ref, rEqU_int, rEqU_bl, rEqU_str, rEqU_ref, rNeU_int, rNeU_bl, rNeU_str, rNeU_ref, rIsU_ty, rSetU_ref, isL_ref, lstOf_lst, tupOf_tup, seqOf_lst, seqOf_tup, Option.isSome_some, tBML, tCB, tCons, tNil, tLst, tTup, tRevS, tSl, tPart, tNoPart, rSlU_str, iAny, iRng1, iRng2, iEnumT, tFor_eq, tComp, compSt, tUn, rU, rStrK_str, tJnil, tJcons, tJoin, rInU_str, tExcI, tExcInit, sExcSet, tRaise, tTryA, hdl, tExcFldW, rIsW_ty, rIsW_ref, tBM0, tBM, tyV_str, rUp_str, tFmtI, rMulS_str, rAllU_ref, Option.bind_some, Option.bind_none, Option.getD_some, L2.start, List.map_cons, List.map_nil, List.length_cons, List.length_nil, List.cons_append, List.nil_append, List.append_nil, List.cons.injEq, List.replicate, List.getElem?_cons_zero, List.getElem?_cons_succ, List.set_cons_zero, List.set_cons_succ, Nat.reduceSub, Nat.reduceAdd, Nat.reduceLeDiff, Option.some.injEq, V.int.injEq, V.bl.injEq, V.str.injEq, V.ref.injEq, HO.lst.injEq, HO.tup.injEq, exists_eq_left', exists_eq_left, exists_and_left, true_and, and_true, upd_same, upd_upd, atI_0, atI_1, atI_2, Bool.not_true, Bool.not_false, decide_eq_true_eq, Bool.false_eq_true, if_false, if_true, reduceIte, reduceCtorEq, tCallD, tCallC, tLam, tDGetK, tDNotInK, iZipK])
  | `(tactic| simp! [$ls,*]) => `(tactic| simp only [tSeq, tIfS, tTest, tOp, tVar, tC, tAsg, gName, gSub, tRet, tNext, tDrop, tAnd, tOr, tNot, tAndV, tNotV, tB, tIf, tChain, tCall, rI0, rI, rAddW_int, rAddW_str, rMulW_int, rMulW_ref, rLtU_int, rLtU_str, rLeU_int, rLeU_str, rIxU_str, rIxU_ref, rLenU_str, rLenU_ref, rMaxU_int, rIntU_int, rIntU_bl, rListU_str, rListU_ref, rPopU_ref, rAppendU_ref, rEqU_int, rEqU_bl, rEqU_str, rEqU_ref, rNeU_int, rNeU_bl, rNeU_str, rNeU_ref, rIsU_ty, rSetU_ref, isL_ref, lstOf_lst, tupOf_tup, seqOf_lst, seqOf_tup, Option.isSome_some, tBML, tCB, tCons, tNil, tLst, tTup, tRevS, tSl, tPart, tNoPart, rSlU_str, iAny, iRng1, iRng2, iEnumT, tFor_eq, tComp, compSt, tUn, rU, rStrK_str, tJnil, tJcons, tJoin, rInU_str, tExcI, tExcInit, sExcSet, tRaise, tTryA, hdl, tExcFldW, rIsW_ty, rIsW_ref, tBM0, tBM, tyV_str, rUp_str, tFmtI, rMulS_str, rAllU_ref, Option.bind_some, Option.bind_none, Option.getD_some, L2.start, List.map_cons, List.map_nil, List.length_cons, List.length_nil, List.cons_append, List.nil_append, List.append_nil, List.cons.injEq, List.replicate, List.getElem?_cons_zero, List.getElem?_cons_succ, List.set_cons_zero, List.set_cons_succ, Nat.reduceSub, Nat.reduceAdd, Nat.reduceLeDiff, Option.some.injEq, V.int.injEq, V.bl.injEq, V.str.injEq, V.ref.injEq, HO.lst.injEq, HO.tup.injEq, exists_eq_left', exists_eq_left, exists_and_left, true_and, and_true, upd_same, upd_upd, atI_0, atI_1, atI_2, Bool.not_true, Bool.not_false, decide_eq_true_eq, Bool.false_eq_true, if_false, if_true, reduceIte, reduceCtorEq, tCallD, tCallC, tLam, tDGetK, tDNotInK, iZipK, $ls,*])
def top (i : Nat) : Stmt := PySem.Challenge.pw_calmword_k20_expressions_looked_at.main.body.getD i (.Pass ⟨0, 0, 0, 0⟩)
def BoxO (o : HO) : Prop := ∃ c s, o = .lst [.int c, .int s] ∧ 1 ≤ s ∧ s ≤ 2147483629
def spTake : Sp := fun vs H Q _ => ∃ b w o, vs = [.ref b, .int w] ∧ H b = some o ∧ BoxO o ∧ 0 < w ∧ w < 1073741824 ∧ ∀ d o, 0 ≤ d → d < w → BoxO o → Q (.int d) (upd H b o)
def spBox (K : PySem.W.Frag) : Sp := fun vs H Q _ => ∃ (a : Addr) (k : Int) (ns : List Int), vs = [.ref a, .int k] ∧ SqL K H a (ns.map V.int) ∧ 0 ≤ k ∧ k ≤ 1000 ∧ ∀ b o, H b = none → BoxO o → Q (.ref b) (upd H b o)
section
variable {P : Program} {w : World} {K : PySem.W.Frag} {mg : Str → Option Value} {base : Heap}
abbrev s__law_take : Stmt := top 24
theorem sc__law_take : FnScope ["_law_box_here", "_law_wide", "_law_digit", "_law_one"] ["_law_box_here", "_law_wide"] (defScope s__law_take) := ⟨rfl, rfl, rfl, by decide +kernel, rfl, by decide +kernel, by decide +kernel⟩
theorem ok__law_take {f : Addr} {fd : FuncData} (F : Fun K "_law_take" "_law_take" s__law_take f fd) : FnOk P w K mg base CX0 1 f fd ["_law_box_here", "_law_wide"] spTake := by
  refine F.ok sc__law_take (fun vs H Q E h => ?_) (fun cdv A outer s H vs Q E hr h => ?_)
  · obtain ⟨b, w, o, rfl, _⟩ := h
    rfl
  · obtain ⟨b, w, o, rfl, hb, ⟨c, sd, rfl, s1, s2⟩, w0, w1, k⟩ := h
    refine ⟨_, (QSs.h (qpss_cons (qps_if (qpt_cmpR op_gt (qpe_ix ix_U (qpv 0) qpe_int (fun _ _ => rfl)) qpe_int (nomark _)) (qpss_cons (qps_set (i := 2) sc__law_take.nd rfl (by first | exact Or.inl rfl | exact Or.inr rfl) (qpe_op op_mod (qpe_ix ix_U (qpv 0) qpe_int (fun _ _ => rfl)) (qpv 1)))
    (qpss_cons (qps_asg (qpe_op op_fdiv (qpe_ix ix_U (qpv 0) qpe_int (fun _ _ => rfl)) (qpv 1)) (qpg_sub (qpv 0) qpe_int set_U))
    (qpss_one (qps_ret (qpv 2))))) qpss_nil)
    (qpss_cons (qps_set (i := 3) sc__law_take.nd rfl (by first | exact Or.inl rfl | exact Or.inr rfl) (qpe_op op_mod (qpe_op op_mulW (qpe_ix ix_U (qpv 0) qpe_int (fun _ _ => rfl)) qpe_int) qpe_int))
    (qpss_cons (qps_asg (qpe_op op_addW (qpe_op op_mod (qpe_op op_addW (qpe_op op_mulW (qpv 3) qpe_int) qpe_int) qpe_int) qpe_int) (qpg_sub (qpv 0) qpe_int set_U))
    (qpss_one (qps_ret (qpe_op op_mod (qpe_op op_fdiv (qpe_op op_addW (qpe_op op_mulW (qpv 3) qpe_int) (qpe_ix ix_U (qpv 0) qpe_int (fun _ _ => rfl))) qpe_int) (qpv 1)))))))), ?_⟩
    have m1 : ∀ z m : Int, 0 < m → 0 ≤ z % m ∧ z % m < m := fun z m h => ⟨Int.emod_nonneg z (by omega), Int.emod_lt_of_pos z h⟩
    simp! [hb]
    refine ite2 (fun hc => ?_) (fun _ => ?_)
    · refine ⟨w0, ⟨w0, w1⟩, 0, rfl, ?_⟩
      simp! [hb]
      exact k _ _ (m1 c w w0).1 (m1 c w w0).2 ⟨_, _, rfl, s1, s2⟩
    · have q1 := m1 (sd * 69623) 2147483647 (by decide)
      refine ⟨.inl ⟨by omega, by omega⟩, by decide, .inl ⟨by omega, by omega⟩, by decide, 1, rfl, ?_⟩
      simp! [hb]
      have q2 := m1 (sd * 69623 % 2147483647 * 48271 + 30103) 2147483629 (by decide)
      refine ⟨.inl ⟨by omega, by omega⟩, ⟨by decide, by decide⟩, w0, ?_⟩
      exact k _ _ (m1 _ w w0).1 (m1 _ w w0).2 ⟨_, _, rfl, by omega, by omega⟩
structure TBox (mg : Str → Option Value) : Prop where
  n_len : mg "len" = none
  n_int : mg "int" = none
abbrev s__law_box : Stmt := top 23
theorem sc__law_box : FnScope ["_law_script", "_law_k", "_law_cell", "_law_seed"] ["_law_script", "_law_k"] (defScope s__law_box) := ⟨rfl, rfl, rfl, by decide +kernel, rfl, by decide +kernel, by decide +kernel⟩
theorem ok__law_box {f : Addr} {fd : FuncData} (F : Fun K "_law_box" "_law_box" s__law_box f fd) (T : TBox mg) : FnOk P w K mg base CX0 1 f fd ["_law_script", "_law_k"] (spBox K) := by
  refine F.ok sc__law_box (fun vs H Q E h => ?_) (fun cdv A outer s H vs Q E hr h => ?_)
  · obtain ⟨a, k, ns, rfl, _⟩ := h
    rfl
  · obtain ⟨a, k, ns, rfl, hS, k0, k1, kk⟩ := h
    refine ⟨_, (QSs.h (qpss_cons (qps_set (i := 2) sc__law_box.nd rfl (by first | exact Or.inl rfl | exact Or.inr rfl) (qpe_op op_addW (qpe_op op_mulW qpe_int (qpv 1)) qpe_int))
    (qpss_cons (qps_if (qpt_cmpR op_ltU (qpv 1) (qpe_callB call_len_seq (by rfl) T.n_len bt_len (qpa_cons (qpv 0) qpa_nil)) (nomark _)) (qpss_one (qps_set (i := 2) sc__law_box.nd rfl (by first | exact Or.inl rfl | exact Or.inr rfl) (qpe_ix ix_list (qpv 0) (qpv 1) (fun _ _ => rfl)))) (qpss_one (qps_if (qpt_cmpR op_gt (qpe_callB call_len_seq (by rfl) T.n_len bt_len (qpa_cons (qpv 0) qpa_nil)) qpe_int (nomark _)) (qpss_one (qps_set (i := 2) sc__law_box.nd rfl (by first | exact Or.inl rfl | exact Or.inr rfl) (qpe_op op_addW (qpv 2) (qpe_op op_mulW (qpe_op op_mod (qpe_ix ix_list (qpv 0) (qpe_op op_mod (qpv 1) (qpe_callB call_len_seq (by rfl) T.n_len bt_len (qpa_cons (qpv 0) qpa_nil))) (fun _ _ => rfl)) qpe_int) qpe_int)))) qpss_nil)))
    (qpss_cons (qps_set (i := 3) sc__law_box.nd rfl (by first | exact Or.inl rfl | exact Or.inr rfl) (qpe_op op_addW (qpe_op op_mod (qpe_op op_addW (qpe_op op_mulW (qpe_op op_mod (qpv 2) qpe_int) qpe_int) (qpe_op op_mulW qpe_int (qpv 1))) qpe_int) qpe_int))
    (qpss_one (qps_ret (qpe_lst (qpa_cons (qpe_op op_mulW (qpv 2) (qpe_callTy call_intU (by rfl) T.n_int bt_int (qpa_cons (qpe_cmpR op_ge (qpv 2) (qpe_op op_pow qpe_int qpe_int) (nomark _)) qpa_nil))) (qpa_cons (qpv 3) qpa_nil))))))))), ?_⟩
    have m1 : ∀ z m : Int, 0 < m → 0 ≤ z % m ∧ z % m < m := fun z m h => ⟨Int.emod_nonneg z (by omega), Int.emod_lt_of_pos z h⟩
    have tail : ∀ cell : Int, (0 : Int) < 2147483629 ∧ CMul (cell % 2147483629) 48271 ∧ CMul 40692 k ∧ (0 : Int) < 2147483629 ∧ CPow 10 18 ∧ CMul cell (if (10 : Int) ^ (18 : Int).toNat ≤ cell then 1 else 0) ∧ 2 ≤ sizeLine ∧
        ∀ p, H p = none → Q (.ref p) (upd H p (.lst [.int (cell * (if (10 : Int) ^ (18 : Int).toNat ≤ cell then 1 else 0)), .int ((cell % 2147483629 * 48271 + 40692 * k) % 2147483629 + 1)])) := by
      intro cell
      have q1 := m1 cell 2147483629 (by decide)
      have q2 := m1 (cell % 2147483629 * 48271 + 40692 * k) 2147483629 (by decide)
      refine ⟨by decide, .inl ⟨by omega, by omega⟩, .inl ⟨by decide, by decide⟩, by decide, ⟨by decide, by decide, by decide⟩, .inr ?_, by decide, fun p hp => kk p _ hp ⟨_, _, rfl, by omega, by omega⟩⟩
      split <;> constructor <;> decide
    simp!
    refine ⟨.inl ⟨by decide, by decide⟩, ns.map V.int, .inl hS, ?_⟩
    rw [List.length_map]
    refine ite2 (fun h => ?_) (fun h => ?_)
    · obtain ⟨z, hz⟩ : ∃ z, ns[k.toNat]? = some z := ⟨ns[k.toNat]'(by omega), by simp⟩
      refine ⟨a, _, k, .int z, rfl, rfl, hS, atI_of k0 (by rw [List.getElem?_map, hz]; rfl), ?_⟩
      simp!
      exact tail z
    · refine ⟨ns.map V.int, .inl hS, ?_⟩
      rw [List.length_map]
      refine ite2 (fun h2 => ?_) (fun h2 => ?_)
      · refine ⟨ns.map V.int, .inl hS, ?_⟩
        rw [List.length_map]
        have q := m1 k (ns.length : Int) (by omega)
        obtain ⟨z, hz⟩ : ∃ z, ns[(k % (ns.length : Int)).toNat]? = some z := ⟨ns[(k % (ns.length : Int)).toNat]'(by omega), by simp⟩
        refine ⟨by omega, a, _, _, .int z, rfl, rfl, hS, atI_of q.1 (by rw [List.getElem?_map, hz]; rfl), ?_⟩
        simp!
        have q3 := m1 z 2147483629 (by decide)
        refine ⟨by decide, .inl ⟨by omega, by omega⟩, ?_⟩
        exact tail _
      · exact tail _
end
structure Letters (z : Str) (m : Nat) : Prop where
  lo : 1 ≤ z.length
  hi : z.length ≤ m
  az : ∀ c ∈ z.cps.toList, 97 ≤ c ∧ c ≤ 122
  nd : z.cps.toList.Nodup
def chV (c : Nat) : V := .str ⟨#[c]⟩
def spLetters : Sp := fun vs H Q _ => ∃ (b : Addr) (m : Nat) (o : HO), vs = [.ref b, .int (m : Int)] ∧ H b = some o ∧ BoxO o ∧ 1 ≤ m ∧ m ≤ 4 ∧ ∀ z o' H', Letters z m → BoxO o' → H' b = some o' → Kp [b] H H' → Q (.str z) H'
theorem erase_perm {α : Type} : ∀ (l : List α) (i : Nat) (x : α), l[i]? = some x → (x :: l.eraseIdx i).Perm l
  | [], i, x, h => by simp at h
  | a :: l, 0, x, h => by simp at h; subst h; exact List.Perm.refl _
  | a :: l, i + 1, x, h => by
    rw [List.eraseIdx_cons_succ]
    exact (List.Perm.swap _ _ _).trans ((erase_perm l i x (by simpa using h)).cons a)
theorem map_erase {α β : Type} (f : α → β) : ∀ (l : List α) (i : Nat), (l.map f).eraseIdx i = (l.eraseIdx i).map f
  | [], _ => rfl
  | _ :: _, 0 => rfl
  | a :: l, i + 1 => by rw [List.map_cons, List.eraseIdx_cons_succ, List.eraseIdx_cons_succ, List.map_cons, map_erase f l i]
theorem abc_sgn : sgn (Str.ofString "abcdefghijklmnopqrstuvwxyz") = ((List.range 26).map (97 + ·)).map chV := by decide +kernel
structure TLetters (mg : Str → Option Value) (ft : Addr) : Prop where
  n_len : mg "len" = none
  n_list : mg "list" = none
  n_range : mg "range" = none
  m__law_take : mg "_law_take" = some (.ref ft)
section
variable {P : Program} {w : World} {K : PySem.W.Frag} {mg : Str → Option Value} {base : Heap}
abbrev s__law_letters : Stmt := top 25
theorem sc__law_letters : FnScope ["_law_box_here", "_law_most", "_law_pool", "_law_found", "_law_k"] ["_law_box_here", "_law_most"] (defScope s__law_letters) := ⟨rfl, rfl, rfl, by decide +kernel, rfl, by decide +kernel, by decide +kernel⟩
theorem ok__law_letters {f ft : Addr} {fd fdt : FuncData} (F : Fun K "_law_letters" "_law_letters" s__law_letters f fd) (T : TLetters mg ft) (F__law_take : Fun K "_law_take" "_law_take" s__law_take ft fdt) (b__law_take : Binds K fdt ["_law_box_here", "_law_wide"] [])
    (G__law_take : FnOk P w K mg base CX0 1 ft fdt ["_law_box_here", "_law_wide"] spTake) : FnOk P w K mg base CX0 2 f fd ["_law_box_here", "_law_most"] spLetters := by
  refine F.ok sc__law_letters (fun vs H Q E h => ?_) (fun cdv A outer s H vs Q E hr h => ?_)
  · obtain ⟨b, m, o, rfl, _⟩ := h
    rfl
  · obtain ⟨b, m, o, rfl, hb, ho, m1, m4, k⟩ := h
    refine ⟨_, (QSs.h (qpss_cons (qps_set (i := 2) sc__law_letters.nd rfl (by first | exact Or.inl rfl | exact Or.inr rfl) (qpe_callTy (call_listU rfl) (by rfl) T.n_list bt_list (qpa_cons qpe_str qpa_nil)))
    (qpss_cons (qps_set (i := 3) sc__law_letters.nd rfl (by first | exact Or.inl rfl | exact Or.inr rfl) qpe_str)
    (qpss_cons (qps_for PassesOwn.never rfl (qpi_range1 rfl T.n_range (qpa_cons (qpe_op op_addW qpe_int (qpe_call G__law_take (hr.mono (by decide)) rfl T.m__law_take F__law_take.kp b__law_take .nil pass0 (qpa_cons (qpv 0) (qpa_cons (qpv 1) qpa_nil)))) qpa_nil)) (qpg_name (i := 4) sc__law_letters.nd rfl (by first | exact Or.inl rfl | exact Or.inr rfl)) (qpss_one (qps_set (i := 3) sc__law_letters.nd rfl (by first | exact Or.inl rfl | exact Or.inr rfl) (qpe_op op_addW (qpv 3) (qpe_bmL PySem.F.slot_list_pop PySem.F.type_list_pop mt_popU (qpv 2) (qpa_cons (qpe_call G__law_take (hr.mono (by decide)) rfl T.m__law_take F__law_take.kp b__law_take .nil pass0 (qpa_cons (qpv 0) (qpa_cons (qpe_callB call_lenU (by rfl) T.n_len bt_len (qpa_cons (qpv 2) qpa_nil)) qpa_nil))) qpa_nil) mono_var)))))
    (qpss_one (qps_ret (qpv 3))))))), ?_⟩
    simp!
    refine ⟨by decide, fun p hp => ?_⟩
    have npb : b ≠ p := ne_of_none hb hp
    obtain ⟨c0, s0, rfl, _, _⟩ := id ho
    refine ⟨b, (m : Int), _, rfl, by rw [upd_ne npb]; exact hb, ho, by omega, by omega, fun d o1 d0 d1 ho1 => ?_⟩
    simp!
    obtain ⟨n, rfl⟩ : ∃ n : Nat, d = (n : Int) := ⟨d.toNat, by omega⟩
    have en : (1 + (n : Int)).toNat = n + 1 := by omega
    refine ⟨by omega, by omega, ?_⟩
    rw [en]
    refine loop_range (fun i σ H' => ∃ l R o' v, σ = [some (.ref b), some (.int (m : Int)), some (.ref p), some (.str (toS l)), v] ∧ H' b = some o' ∧ BoxO o' ∧ H' p = some (.lst (R.map chV)) ∧ Kp [b] H H' ∧ l.length = i ∧ R.length + i = 26 ∧
      (l ++ R).Nodup ∧ ∀ c ∈ l ++ R, 97 ≤ c ∧ c ≤ 122) ?_ ?_ ?_
    · refine ⟨[], (List.range 26).map (97 + ·), o1, none, rfl, upd_same, ho1, ?_, ?_, rfl, by simp, ?_, ?_⟩
      · rw [upd_ne npb.symm, upd_same, abc_sgn]
      · exact ((Kp.refl [b] H).new hp).set (by rw [upd_ne npb]; exact hb) (.inl (by simp))
      · decide
      · decide
    · rintro i σ H' hi ⟨l, R, o', v, rfl, hb', ho', hp', kp, hl, hR, nd, az⟩
      simp! [hp']
      obtain ⟨c1, s1, rfl, _, _⟩ := id ho'
      refine ⟨b, _, _, rfl, hb', ho', by rw [List.length_map]; omega, by rw [List.length_map]; omega, fun d o2 d0 d1 ho2 => ?_⟩
      rw [List.length_map] at d1
      have hp2 : upd H' b o2 p = some (.lst (R.map chV)) := by rw [upd_ne npb.symm]; exact hp'
      simp! [hp2]
      obtain ⟨c, hc⟩ : ∃ c, R[d.toNat]? = some c := ⟨R[d.toNat]'(by omega), by simp⟩
      have hc' : (R.map chV)[d.toNat]? = some (.str ⟨#[c]⟩) := by rw [List.getElem?_map, hc]; rfl
      refine ⟨d0, _, hc', ?_⟩
      simp!
      have pm := erase_perm R d.toNat c hc
      have e1 : ((l ++ [c]) ++ R.eraseIdx d.toNat).Perm (l ++ R) := by
        rw [List.append_assoc]
        exact pm.append_left l
      have hlen : (R.eraseIdx d.toNat).length + 1 = R.length := by
        have := pm.length_eq
        simpa using this
      refine ⟨?_, l ++ [c], R.eraseIdx d.toNat, o2, _, ⟨toS_app l c, rfl⟩, by rw [upd_ne npb, upd_same], ho2, map_erase chV R _, ?_, by simp [hl], by omega, ?_, ?_⟩
      · rw [toS_len]
        show l.length + 1 ≤ sizeLine
        have : sizeLine = 16777216 := PySem.sizeLine_eq
        omega
      · exact (kp.set hb' (.inl (by simp))).set hp2 (.inr hp)
      · exact e1.nodup_iff.mpr nd
      · exact fun x hx => az x (e1.mem_iff.mp hx)
    · rintro σ H' ⟨l, R, o', v, rfl, hb', ho', hp', kp, hl, hR, nd, az⟩
      simp! [hp']
      exact k (toS l) o' H' ⟨by rw [toS_len]; omega, by rw [toS_len]; omega, fun c hc => az c (List.mem_append_left _ (by simpa [toS] using hc)), by simpa [toS] using (List.nodup_append.mp nd).1⟩ ho' hb' kp
end
theorem _root_.L2.Kp.seq {S : List Addr} {K : PySem.W.Frag} {H H' : Hp} {a : Addr} {xs : List V} (e : Kp S H H') (n : a ∉ S) (h : SqL K H a xs) : SqL K H' a xs := by
  rcases h with (h | ⟨o, h⟩) | h
  · exact .inl (.inl (e.old _ _ h n))
  · exact .inl (.inr ⟨o, e.old _ _ h n⟩)
  · exact .inr h
def At (v : V) : Prop := (∃ z : Str, v = .str z ∧ z.length ≤ 100) ∨ ∃ i : Int, v = .int i
structure RowO (xs : List V) : Prop where
  len : xs.length ≤ 20
  at_ : ∀ v ∈ xs, At v
  hd : xs = [] ∨ ∃ z r, xs = .str z :: r
def frm (w : Str) : Option (List Str) := if w = "nothing" then some [] else if w = "blank" then some [] else if w = "letter" then some ["letter"] else if w = "not" then some ["row"] else if w = "or" then some ["row", "row"] else if w = "and" then some ["row", "row"] else if w = "behind" then some ["row", "row"] else none
def isLet (z : Str) : V → Bool
  | .str x => decide (x.length = 1) && hasS z x
  | _ => false
def isRow (n : Int) : V → Bool
  | .int i => decide (0 ≤ i) && decide (i < n)
  | _ => false
def fitsB (z : Str) (n : Int) (k : Str) (v : V) : Bool := if k = Str.ofString "letter" then isLet z v else isRow n v
def goodB (z : Str) (n : Int) : List V → Bool
  | .str w :: rest => match frm w with
    | none => false
    | some ks => decide (rest.length = ks.length) && ((ks.zip rest).all fun p => fitsB z n p.1 p.2)
  | _ => false
def spRA : Sp := fun vs H Q _ => ∃ (v : V) (n : Int), vs = [v, .int n] ∧ At v ∧ Q (.bl (isRow n v)) H
def spOL : Sp := fun vs H Q _ => ∃ (v : V) (z : Str), vs = [v, .str z] ∧ At v ∧ z.length ≤ 100 ∧ Q (.bl (isLet z v)) H
structure TRA (K : PySem.W.Frag) (mg : Str → Option Value) : Prop where
  n_isinstance : mg "isinstance" = none
  n_int : mg "int" = none
  n_bool : mg "bool" = none
  n_str : mg "str" = none
  n_len : mg "len" = none
  ii : PySem.W.kitOne K (.type "int") (.type "int") = some true
  si : PySem.W.kitOne K (.type "str") (.type "int") = some false
  ib : PySem.W.kitOne K (.type "int") (.type "bool") = some false
  ss : PySem.W.kitOne K (.type "str") (.type "str") = some true
  is : PySem.W.kitOne K (.type "int") (.type "str") = some false
def spF (g : Str → V → Bool) (R : Hp → Prop) : Sp := fun vs H Q _ => ∃ k v, vs = [.str k, v] ∧ R H ∧ At v ∧ ∀ H', Kp [] H H' → Q (.bl (g k v)) H'
structure Lf (P : Program) (w : World) (K : PySem.W.Frag) (mg : Str → Option Value) (base : Heap) (fp : Addr) (o : Obj) (fd : FuncData) (psp : List Str) (g : Str → V → Bool) (R : Hp → Prop) : Prop where
  dat : o.data = .func fd
  fn : FnOk P w K mg base CX0 3 fp fd psp (spF g R)
  bi : Binds K fd psp []
  at_ : ∀ H, R H → H fp = some (FZ o)
  kr : ∀ H H', Kp [] H H' → R H → R H'
def spHF (P : Program) (w : World) (K : PySem.W.Frag) (mg : Str → Option Value) (base : Heap) : Sp := fun vs H Q _ => ∃ (r fo fp : Addr) (o : Obj) (fd : FuncData) (psp : List Str) (g : Str → V → Bool) (R : Hp → Prop) (x : V) (rest : List V) (ks : List Str), Lf P w K mg base fp o fd psp g R ∧ R H ∧ vs = [.ref r, .ref fo, .ref fp] ∧ H r = some (.tup (x :: rest)) ∧ (∀ v ∈ rest, At v) ∧ rest.length ≤ 20 ∧ SqT K H fo (ks.map V.str) ∧ ks.length ≤ 2 ∧
  ∀ H', Kp [] H H' → Q (.bl (decide (rest.length = ks.length) && ((ks.zip rest).all fun p => g p.1 p.2))) H'
structure THF (mg : Str → Option Value) : Prop where
  n_len : mg "len" = none
  n_all : mg "all" = none
  n_zip : mg "zip" = none
theorem _root_.L2.Kp.sqT {S : List Addr} {K : PySem.W.Frag} {H H' : Hp} {a : Addr} {xs : List V} (e : Kp S H H') (n : a ∉ S) (h : SqT K H a xs) : SqT K H' a xs := by
  rcases h with (h | ⟨o, h⟩) | h
  · exact .inl (.inl (e.old _ _ h n))
  · exact .inl (.inr ⟨o, e.old _ _ h n⟩)
  · exact .inr h
section
variable {P : Program} {w : World} {K : PySem.W.Frag} {mg : Str → Option Value} {base : Heap}
abbrev s_is_row_ahead : Stmt := top 16
theorem sc_is_row_ahead : FnScope ["thing", "at"] ["thing", "at"] (defScope s_is_row_ahead) := ⟨rfl, rfl, rfl, by decide +kernel, rfl, by decide +kernel, by decide +kernel⟩
theorem ok_is_row_ahead {f : Addr} {fd : FuncData} (F : Fun K "is_row_ahead" "is_row_ahead" s_is_row_ahead f fd) (T : TRA K mg) : FnOk P w K mg base CX0 1 f fd ["thing", "at"] spRA := by
  refine F.ok sc_is_row_ahead (fun vs H Q E h => ?_) (fun cdv A outer s H vs Q E hr h => ?_)
  · obtain ⟨v, n, rfl, _⟩ := h
    rfl
  · obtain ⟨v, n, rfl, av, k⟩ := h
    have hu := hr.units
    refine ⟨_, (QSs.h (qpss_one (qps_ret (qpe_and (qpe_callB (call_isinstanceK (K := K) rfl) (by rfl) T.n_isinstance bt_isinstance (qpa_cons (qpv 0) (qpa_cons (qpe_bltn (v := .ty "int") rfl T.n_int bt_int rfl) qpa_nil))) (qpe_and (qpe_not (qpe_callB (call_isinstanceK (K := K) rfl) (by rfl) T.n_isinstance bt_isinstance (qpa_cons (qpv 0) (qpa_cons (qpe_bltn (v := .ty "bool") rfl T.n_bool bt_bool rfl) qpa_nil)))) (qpe_one (qpe_chain op_leU op_ltU qpe_int (qpv 0) (qpv 1)))))))), ?_⟩
    simp!
    rcases av with ⟨x, rfl, _⟩ | ⟨i, rfl⟩
    · refine ⟨_, TyOf.str _, false, T.si, ?_⟩
      exact k
    · refine ⟨_, TyOf.int _, true, T.ii, ?_⟩
      rw [if_pos rfl]
      refine ⟨_, TyOf.int _, false, T.ib, ?_⟩
      simp!
      replace k : Q (.bl (decide (0 ≤ i) && decide (i < n))) H := k
      refine ite2 (fun h => ?_) (fun h => ?_)
      · rw [decide_eq_true h, Bool.true_and] at k; exact k
      · rw [decide_eq_false h, Bool.false_and] at k; exact k
abbrev s_is_one_letter : Stmt := top 17
theorem sc_is_one_letter : FnScope ["thing", "letters"] ["thing", "letters"] (defScope s_is_one_letter) := ⟨rfl, rfl, rfl, by decide +kernel, rfl, by decide +kernel, by decide +kernel⟩
theorem ok_is_one_letter {f : Addr} {fd : FuncData} (F : Fun K "is_one_letter" "is_one_letter" s_is_one_letter f fd) (T : TRA K mg) : FnOk P w K mg base CX0 1 f fd ["thing", "letters"] spOL := by
  refine F.ok sc_is_one_letter (fun vs H Q E h => ?_) (fun cdv A outer s H vs Q E hr h => ?_)
  · obtain ⟨v, z, rfl, _⟩ := h
    rfl
  · obtain ⟨v, z, rfl, av, hz, k⟩ := h
    have hu := hr.units
    have hsz : sizeLine = 16777216 := PySem.sizeLine_eq
    refine ⟨_, (QSs.h (qpss_one (qps_ret (qpe_and (qpe_callB (call_isinstanceK (K := K) rfl) (by rfl) T.n_isinstance bt_isinstance (qpa_cons (qpv 0) (qpa_cons (qpe_bltn (v := .ty "str") rfl T.n_str bt_str rfl) qpa_nil))) (qpe_and (qpe_cmpR (op_eqU hu) (qpe_callB call_lenU (by rfl) T.n_len bt_len (qpa_cons (qpv 0) qpa_nil)) qpe_int (nomark _)) (qpe_one (qpe_cmpR (op_inU (K := K) rfl) (qpv 0) (qpv 1) (by with_unfolding_all rfl)))))))), ?_⟩
    simp!
    rcases av with ⟨x, rfl, hx⟩ | ⟨i, rfl⟩
    · refine ⟨_, TyOf.str _, true, T.ss, ?_⟩
      rw [if_pos rfl]
      simp!
      replace k : Q (.bl (decide (x.length = 1) && hasS z x)) H := k
      refine ⟨by omega, ite2 (fun h => ?_) (fun h => ?_)⟩
      · rw [decide_eq_true (show x.length = 1 by omega), Bool.true_and] at k; exact k
      · rw [decide_eq_false (show ¬ x.length = 1 by omega), Bool.false_and] at k; exact k
    · refine ⟨_, TyOf.int _, false, T.is, ?_⟩
      exact k
abbrev s_has_form : Stmt := top 15
theorem sc_has_form : FnScope ["row", "form", "fits"] ["row", "form", "fits"] (defScope s_has_form) := ⟨rfl, rfl, rfl, by decide +kernel, rfl, by decide +kernel, by decide +kernel⟩
theorem ok_has_form {f : Addr} {fd : FuncData} (F : Fun K "has_form" "has_form" s_has_form f fd) (T : THF mg) : FnOk P w K mg base CX0 4 f fd ["row", "form", "fits"] (spHF P w K mg base) := by
  refine F.ok sc_has_form (fun vs H Q E h => ?_) (fun cdv A outer s H vs Q E hr h => ?_)
  · obtain ⟨r, fo, fp, o, fd', psp, g, R, x, rest, ks, L, hR, rfl, _⟩ := h
    rfl
  · obtain ⟨r, fo, fp, o, fd', psp, g, R, x, rest, ks, L, hR, rfl, hr0, ar, lr, hfo, lk, k⟩ := h
    have hu := hr.units
    have hsz : sizeLine = 16777216 := PySem.sizeLine_eq
    refine ⟨_, (QSs.h (qpss_cons (qps_if (qpt_cmpR (op_neU hu) (qpe_callB call_lenU (by rfl) T.n_len bt_len (qpa_cons (qpv 0) qpa_nil)) (qpe_op op_addW qpe_int (qpe_callB call_len_seq (by rfl) T.n_len bt_len (qpa_cons (qpv 1) qpa_nil))) (nomark _)) (qpss_one (qps_ret qpe_bl)) qpss_nil)
    (qpss_one (qps_ret (qpe_callB (call_allU rfl) (by rfl) T.n_all bt_all (qpa_cons (qpe_comp rfl (compOk_of (sc := defScope s_has_form) (N := ["row", "form", "fits"]) (Nc := ["kind", "thing", "fits"]) (js := [none, none, some 2]) (by decide +kernel)) (qpi_zipK (K := K) rfl rfl T.n_zip (qpa_cons (qpv 1) (qpa_cons (qpe_slice (sl_VK (K := K) rfl) (qpv 0) (qpo_some qpe_int) qpo_none) qpa_nil))) (fun _ _ _ _ => (qpg_tup (n := 2) rfl (qpgs_cons (qpg_name (i := 0) (show List.Nodup [("kind" : Str), ("thing" : Str), ("fits" : Str)] from by decide +kernel) rfl (by first | exact Or.inl rfl | exact Or.inr rfl)) (qpgs_cons (qpg_name (i := 1) (show List.Nodup [("kind" : Str), ("thing" : Str), ("fits" : Str)] from by decide +kernel) rfl (by first | exact Or.inl rfl | exact Or.inr rfl)) qpgs_nil)) (K := K) rfl)) (fun _ _ _ _ => (qpe_callD (P := P) (w := w) (K := K) (mg := mg) (base := base) (k := 3) rfl rfl rfl rfl rfl 2 (hr.mono (by decide)) (qpa_cons (qpv 0) (qpa_cons (qpv 1) qpa_nil))))) qpa_nil)))))), ?_⟩
    simp! [hr0]
    refine ⟨_, .inr hfo, ?_⟩
    rw [List.length_map]
    by_cases hl : rest.length = ks.length
    · rw [decide_eq_true hl, Bool.true_and] at k
      rw [if_neg (by simp; omega)]
      refine rSlV.tup hr0 fun p1 H1 h1 k1 => ?_
      have e0 : cutV (x :: rest) (some 1) none = rest := by
        unfold cutV
        simp [HT.sIx]
      rw [e0] at h1
      refine ⟨fo, p1, ⟨rfl, rfl⟩, _, k1.sqT (by simp) hfo, _, SqT.of h1, fun D hD => ?_⟩
      refine loop_ZK (xs := ks.map V.str) (ys := rest) (fun i σ H' => ∃ (v0 v1 : Option V), σ = [v0, v1, some (.ref fp)] ∧ Kp [] H1 H' ∧ H' D = some (.lst (((ks.zip rest).take i).map fun p => .bl (g p.1 p.2)))) ⟨none, none, rfl, (Kp.refl [] H1).new hD, upd_same⟩ (by rw [List.length_map]; exact hl) ?_ ?_ ?_
      · rintro i σ H2 _ ⟨v0, v1, rfl, k2, _⟩
        exact ⟨(k1.trans k2).sqT (by simp) hfo, SqT.of (k2.tup _ _ h1)⟩
      · rintro i a y σ H2 T2 ha hy ⟨v0, v1, rfl, k2, hD2⟩ hT2
        rw [List.getElem?_map] at ha
        obtain ⟨kd, hkd, rfl⟩ := Option.map_eq_some_iff.mp ha
        refine ⟨T2, [_, _], rfl, SqT.of upd_same, rfl, ?_⟩
        refine ⟨_, _, rfl, _, _, rfl, rfl, ?_⟩
        have k3 : Kp [] H1 (upd H2 T2 (.tup [V.str kd, y])) := k2.new hT2
        have hD3 : upd H2 T2 (.tup [V.str kd, y]) D = some (.lst (((ks.zip rest).take i).map fun p => .bl (g p.1 p.2))) := by rw [upd_ne (ne_of_none hD2 hT2)]; exact hD2
        have hR3 := L.kr _ _ (k1.trans k3) hR
        refine ⟨fp, o, fd', psp, spF g R, rfl, L.dat, L.fn, L.bi, ?_⟩
        simp!
        refine ⟨L.at_ _ hR3, kd, y, rfl, hR3, ar y (List.mem_of_getElem? hy), fun H4 k4 => ?_⟩
        have hD4 := k4.old _ _ hD3 (by simp)
        have lz : (((ks.zip rest).take i).map fun p => V.bl (g p.1 p.2)).length ≤ 2 := by rw [List.length_map, List.length_take, List.length_zip]; omega
        refine ⟨_, by rw [hD4]; rfl, by omega, _, _, ⟨rfl, rfl⟩, (k3.trans k4).set hD4 (.inr hD), ?_⟩
        rw [List.take_succ, zip_get hkd hy]
        simp
      · rintro σ H2 ⟨v0, v1, rfl, k2, hD2⟩
        rw [List.length_map, List.take_of_length_le (by rw [List.length_zip]; omega)] at hD2
        refine ⟨(ks.zip rest).map fun p => g p.1 p.2, by rw [hD2, List.map_map]; rfl, ?_⟩
        have := k H2 (k1.trans k2)
        rw [show (List.map (fun p : Str × V => g p.1 p.2) (ks.zip rest)).all id = (ks.zip rest).all fun p => g p.1 p.2 from by rw [List.all_map]; rfl]
        exact this
    · rw [decide_eq_false hl, Bool.false_and] at k
      rw [if_pos (by simp; omega)]
      exact k H (Kp.refl [] H)
end
abbrev LQ : Str := "is_expression_row" ++ ".<locals>." ++ "<lambda>"
def KF (a0 a1 a2 a3 a4 a5 a6 : Addr) : List (Key × V) := [(.inr "nothing", .ref a0), (.inr "blank", .ref a1), (.inr "letter", .ref a2), (.inr "not", .ref a3), (.inr "or", .ref a4), (.inr "and", .ref a5), (.inr "behind", .ref a6)]
structure TIE (P : Program) (w : World) (K : PySem.W.Frag) (mg : Str → Option Value) (base : Heap) (af a0 a1 a2 a3 a4 a5 a6 fh fo fa c Pt : Addr) (pm : Value) : Prop where
  n_len : mg "len" = none
  m_FORMS : mg "FORMS" = some (.ref af)
  m_has_form : mg "has_form" = some (.ref fh)
  m_is_one_letter : mg "is_one_letter" = some (.ref fo)
  m_is_row_ahead : mg "is_row_ahead" = some (.ref fa)
  kf : KDict P w K af (KF a0 a1 a2 a3 a4 a5 a6)
  ns : (af == sysModules) = false
  s0 : ∀ H, SqT K H a0 []
  s1 : ∀ H, SqT K H a1 []
  s2 : ∀ H, SqT K H a2 [.str "letter"]
  s3 : ∀ H, SqT K H a3 [.str "row"]
  s4 : ∀ H, SqT K H a4 [.str "row", .str "row"]
  s5 : ∀ H, SqT K H a5 [.str "row", .str "row"]
  s6 : ∀ H, SqT K H a6 [.str "row", .str "row"]
  pm : (mg "__name__").getD .none = pm
  hd : PySem.W.CodeHd base c Pt
  bl : base.BuiltinsAt mg Pt
def spIE (Pt : Addr) : Sp := fun vs H Q _ => ∃ (z : Str) (r : Addr) (xs : List V) (n : Int), vs = [.str z, .ref r, .int n] ∧ H r = some (.tup xs) ∧ RowO xs ∧ z.length ≤ 100 ∧ TabOk H Pt LQ ∧ ∀ H', Kp [Pt] H H' → TabOk H' Pt LQ → Q (.bl (goodB z n xs)) H'
theorem goodB_none {z w : Str} {n : Int} {rest : List V} (h : frm w = none) : goodB z n (.str w :: rest) = false := by simp only [goodB, h]
theorem goodB_some {z w : Str} {n : Int} {rest : List V} {ks : List Str} (h : frm w = some ks) : goodB z n (.str w :: rest) = (decide (rest.length = ks.length) && ((ks.zip rest).all fun p => fitsB z n p.1 p.2)) := by simp only [goodB, h]
theorem kf_at {a0 a1 a2 a3 a4 a5 a6 : Addr} {K : PySem.W.Frag} (s0 : ∀ H, SqT K H a0 []) (s1 : ∀ H, SqT K H a1 []) (s2 : ∀ H, SqT K H a2 [.str "letter"]) (s3 : ∀ H, SqT K H a3 [.str "row"]) (s4 : ∀ H, SqT K H a4 [.str "row", .str "row"]) (s5 : ∀ H, SqT K H a5 [.str "row", .str "row"]) (s6 : ∀ H, SqT K H a6 [.str "row", .str "row"]) (w : Str) :
    (frm w = none ∧ valV (KF a0 a1 a2 a3 a4 a5 a6) (.inr w) = none) ∨ ∃ ks a, frm w = some ks ∧ ks.length ≤ 2 ∧ valV (KF a0 a1 a2 a3 a4 a5 a6) (.inr w) = some (.ref a) ∧ ∀ H, SqT K H a (ks.map V.str) := by
  unfold frm
  by_cases h0 : w = "nothing"
  · subst h0; exact .inr ⟨[], a0, if_pos rfl, by simp, rfl, s0⟩
  by_cases h1 : w = "blank"
  · subst h1; exact .inr ⟨[], a1, rfl, by simp, rfl, s1⟩
  by_cases h2 : w = "letter"
  · subst h2; exact .inr ⟨["letter"], a2, rfl, by simp, rfl, s2⟩
  by_cases h3 : w = "not"
  · subst h3; exact .inr ⟨["row"], a3, rfl, by simp, rfl, s3⟩
  by_cases h4 : w = "or"
  · subst h4; exact .inr ⟨["row", "row"], a4, rfl, by simp, rfl, s4⟩
  by_cases h5 : w = "and"
  · subst h5; exact .inr ⟨["row", "row"], a5, rfl, by simp, rfl, s5⟩
  by_cases h6 : w = "behind"
  · subst h6; exact .inr ⟨["row", "row"], a6, rfl, by simp, rfl, s6⟩
  refine .inl ⟨by rw [if_neg h0, if_neg h1, if_neg h2, if_neg h3, if_neg h4, if_neg h5, if_neg h6], ?_⟩
  have ne : ∀ {x : Str}, ¬ w = x → ¬ (Sum.inr x : Key) = Sum.inr w := fun h e => h (Sum.inr.inj e).symm
  simp [KF, valV, ne h0, ne h1, ne h2, ne h3, ne h4, ne h5, ne h6]
section
variable {P : Program} {w : World} {K : PySem.W.Frag} {mg : Str → Option Value} {base : Heap}
abbrev s_is_expression_row : Stmt := top 21
theorem sc_is_expression_row : FnScope ["letters", "row", "at"] ["letters", "row", "at"] (defScope s_is_expression_row) := ⟨rfl, rfl, rfl, by decide +kernel, rfl, by decide +kernel, by decide +kernel⟩
def lamE : Expr := match defBody s_is_expression_row with
  | [_, .Return (some (.Call _ [_, _, l] _ _)) _] => l
  | _ => .Name "" ⟨0, 0, 0, 0⟩
def lamA : Arguments := match lamE with
  | .Lambda a _ _ _ => a
  | _ => defArgs (.Pass ⟨0, 0, 0, 0⟩)
def lamB : Expr := match lamE with
  | .Lambda _ b _ _ => b
  | _ => .Name "" ⟨0, 0, 0, 0⟩
def lamS : Scope := match lamE with
  | .Lambda _ _ c _ => c
  | _ => defScope (.Pass ⟨0, 0, 0, 0⟩)
theorem lamSc : LamScope ["kind", "thing"] ["at", "letters"] lamS := ⟨rfl, rfl, rfl, by decide +kernel, by decide +kernel, by decide +kernel, by decide +kernel, fun x h => by
  have hn : lamS.names = [(Str.ofString "kind", .local), (Str.ofString "thing", .local), (Str.ofString "at", .free), (Str.ofString "letters", .free), (Str.ofString "is_one_letter", .globalImplicit), (Str.ofString "is_row_ahead", .globalImplicit)] := rfl
  rw [hn] at h
  by_cases h1 : x = Str.ofString "at"
  · rw [h1]; exact .head _
  by_cases h2 : x = Str.ofString "letters"
  · rw [h2]; exact .tail _ (.head _)
  have b1 : (x == Str.ofString "at") = false := by simpa using h1
  have b2 : (x == Str.ofString "letters") = false := by simpa using h2
  simp only [List.lookup_cons, List.lookup_nil, b1, b2] at h
  repeat (split at h <;> try (cases h))⟩
theorem us2 {C : List Value → Prop} (h : ∀ u v : Value, C [u, v]) (us : List Value) (e : us.length = 2) : C us :=
  match us, e with | [u, v], _ => h u v
theorem ok_is_expression_row {f af a0 a1 a2 a3 a4 a5 a6 fh fo fa c Pt : Addr} {fd fdh fdo fda : FuncData} {pm : Value} (F : Fun K "is_expression_row" "is_expression_row" s_is_expression_row f fd) (T : TIE P w K mg base af a0 a1 a2 a3 a4 a5 a6 fh fo fa c Pt pm) (hcd : fd.code = .ref c)
    (F_has_form : Fun K "has_form" "has_form" s_has_form fh fdh) (b_has_form : Binds K fdh ["row", "form", "fits"] []) (G_has_form : FnOk P w K mg base CX0 4 fh fdh ["row", "form", "fits"] (spHF P w K mg base))
    (F_is_one_letter : Fun K "is_one_letter" "is_one_letter" s_is_one_letter fo fdo) (b_is_one_letter : Binds K fdo ["thing", "letters"] []) (G_is_one_letter : FnOk P w K mg base CX0 1 fo fdo ["thing", "letters"] spOL)
    (F_is_row_ahead : Fun K "is_row_ahead" "is_row_ahead" s_is_row_ahead fa fda) (b_is_row_ahead : Binds K fda ["thing", "at"] []) (G_is_row_ahead : FnOk P w K mg base CX0 1 fa fda ["thing", "at"] spRA) : FnOk P w K mg base CX0 5 f fd ["letters", "row", "at"] (spIE Pt) := by
  refine F.okC sc_is_expression_row (fun vs H Q E h => ?_) (fun A outer s H vs Q E hr h => ?_)
  · obtain ⟨z, r, xs, n, rfl, _⟩ := h
    rfl
  · obtain ⟨z, r, xs, n, rfl, hr0, ro, hz, tb, k⟩ := h
    have hu := hr.units
    refine ⟨_, (QSs.h (qpss_cons (qps_if (QW.pt (qpw_or (qpt_cmpR (op_eqU hu) (qpe_callB call_lenU (by rfl) T.n_len bt_len (qpa_cons (qpv 1) qpa_nil)) qpe_int (nomark _)) (qpw_or1 (qpt_cmp (qpc_dnotinK (P := P) (w := w) (K := K) rfl rfl rfl (qpe_ix ix_U (qpv 1) qpe_int (fun _ _ => rfl)) (qpe_glob (v := .ref _) rfl T.m_FORMS rfl)) (by with_unfolding_all rfl))))) (qpss_one (qps_ret qpe_bl)) qpss_nil)
    (qpss_one (qps_ret (qpe_callC [(0, s.heap.objs.size + 1), (2, s.heap.objs.size + 2)] (by intro j hj; simp only [List.mem_cons, List.not_mem_nil, or_false] at hj; rcases hj with rfl | rfl <;> exact ⟨_, rfl, rfl, rfl, rfl⟩) G_has_form (hr.mono (by decide)) rfl T.m_has_form F_has_form.kp b_has_form (qpa_cons (qpv 1) (qpa_cons (qpe_dgetK (P := P) (w := w) (K := K) rfl rfl rfl (qpe_glob (v := .ref _) rfl T.m_FORMS rfl) (qpe_ix ix_U (qpv 1) qpe_int (fun _ _ => rfl)) (fun _ _ => rfl)) (qpa_cons (qpe_lambda (Pt := Pt) rfl T.pm hcd T.hd T.bl) qpa_nil)))))))), ?_⟩
    simp! [hr0]
    rcases ro.hd with rfl | ⟨wd, rest, rfl⟩
    · rw [if_pos (show (([] : List V).length : Int) = 0 from rfl)]
      exact k H (Kp.refl _ _) tb
    rw [if_neg (show ¬ ((V.str wd :: rest).length : Int) = 0 by simp; omega)]
    have hat : atI (V.str wd :: rest) 0 = some (.str wd) := atI_of (by decide) rfl
    refine ⟨_, hat, _, T.kf, T.ns, .inr wd, rfl, ?_⟩
    have ka : ∀ v ∈ rest, At v := fun v hv => ro.at_ v (.tail _ hv)
    have lr : rest.length ≤ 20 := by have := ro.len; simp at this; omega
    rcases kf_at T.s0 T.s1 T.s2 T.s3 T.s4 T.s5 T.s6 wd with ⟨hf, hv⟩ | ⟨ks, ak, hf, lk, hv, hq⟩
    · rw [hv, if_pos (show (!(none : Option V).isSome) = true from rfl)]
      have := k H (Kp.refl _ _) tb
      rw [goodB_none hf] at this
      exact this
    rw [hv, if_neg (by simp)]
    have k : ∀ H', Kp [Pt] H H' → TabOk H' Pt LQ → Q (.bl (decide (rest.length = ks.length) && ((ks.zip rest).all fun p => fitsB z n p.1 p.2))) H' := fun H' h1 h2 => by
      have := k H' h1 h2
      rw [goodB_some hf] at this
      exact this
    refine ⟨_, hat, _, T.kf, .inr wd, rfl, _, hv, tb, fun fl c' ct H1 hfl k1 e1 cz tb1 => ?_⟩
    refine ⟨fun j hj => ?_, fun cs hcs => ?_⟩
    · simp only [List.mem_cons, List.not_mem_nil, or_false] at hj
      rcases hj with rfl | rfl <;> exact ⟨_, rfl⟩
    obtain ⟨o1, o2, rfl, hn1, hn2, u1, u2, ho1, ru1, ho2, ru2⟩ : ∃ o1 o2, cs = [(s.heap.objs.size + 1, o1), (s.heap.objs.size + 2, o2)] ∧ H1 (s.heap.objs.size + 1) = none ∧ H1 (s.heap.objs.size + 2) = none ∧ ∃ u1 u2, o1.data = .cell (some u1) ∧ RelV (.str z) u1 ∧ o2.data = .cell (some u2) ∧ RelV (.int n) u2 := by
      cases hcs with
      | cons h t =>
        cases t with
        | cons h' t' =>
          cases t'
          rename_i p p'
          obtain ⟨c1, o1⟩ := p
          obtain ⟨c2, o2⟩ := p'
          obtain ⟨e1, e2, v, u, e3, e4, e5⟩ := h
          obtain ⟨d1, d2, v', u', d3, d4, d5⟩ := h'
          cases (Option.some.inj (Option.some.inj e3))
          cases (Option.some.inj (Option.some.inj d3))
          cases (show c1 = s.heap.objs.size + 1 from e1)
          cases (show c2 = s.heap.objs.size + 2 from d1)
          exact ⟨o1, o2, rfl, e2, d2, u, u', e4, e5, d4, d5⟩
    have e1' : H1 fl = some (FZ (PySem.W.kla_obj "<lambda>" LQ lamA lamB lamS [("letters", s.heap.objs.size + 1), ("at", s.heap.objs.size + 2)] pm c' ct)) := e1
    generalize hN1 : s.heap.objs.size + 1 = n1 at e1' hn1
    generalize hN2 : s.heap.objs.size + 2 = n2 at e1' hn2
    have n12 : n1 ≠ n2 := by omega
    have lk1 : ([(n1, o1), (n2, o2)] : List (Addr × Obj)).lookup n1 = some o1 := by simp [List.lookup]
    have lk2 : ([(n1, o1), (n2, o2)] : List (Addr × Obj)).lookup n2 = some o2 := by
      rw [List.lookup_cons]
      have : (n2 == n1) = false := by simpa using n12.symm
      rw [this]; simp [List.lookup]
    have lkb : ∀ b, b ≠ n1 → b ≠ n2 → ([(n1, o1), (n2, o2)] : List (Addr × Obj)).lookup b = none := fun b h h' => by
      rw [List.lookup_cons]
      have : (b == n1) = false := by simpa using h
      rw [this, List.lookup_cons]
      have : (b == n2) = false := by simpa using h'
      rw [this]; rfl
    have sh : ∀ b v, H1 b = some v → showC H1 [(n1, o1), (n2, o2)] b = some v := fun b v e => by rw [showC_out (lkb b (ne_of_none e hn1) (ne_of_none e hn2))]; exact e
    have kS : Kp [] H1 (showC H1 [(n1, o1), (n2, o2)]) := ⟨fun b v e _ => sh b v e, fun b xs e => sh b _ e, fun b v e => ⟨v, sh b v e⟩⟩
    have en1 : showC H1 [(n1, o1), (n2, o2)] n1 = some (FZ o1) := showC_in lk1
    have en2 : showC H1 [(n1, o1), (n2, o2)] n2 = some (FZ o2) := showC_in lk2
    have cb : ([("letters", n1), ("at", n2)] : List (Str × Addr)).lookup (Str.ofString "letters") = some n1 := rfl
    have ca : ([("letters", n1), ("at", n2)] : List (Str × Addr)).lookup (Str.ofString "at") = some n2 := by
      rw [List.lookup_cons]
      have : ((Str.ofString "at") == (Str.ofString "letters")) = false := by decide +kernel
      rw [this]; simp [List.lookup]
    have cap : Caps (showC H1 [(n1, o1), (n2, o2)]) [("letters", n1), ("at", n2)] ["at", "letters"] [.int n, .str z] := by
      refine ⟨rfl, fun i x v q1 q2 => ?_, fun x hx => ?_, fun p hp => ?_, fun x y c q1 q2 => ?_⟩
      · match i with
        | 0 => cases q1; cases q2; exact ⟨n2, o2, u2, ca, en2, ho2, ru2⟩
        | 1 => cases q1; cases q2; exact ⟨n1, o1, u1, cb, en1, ho1, ru1⟩
        | i + 2 => simp at q1
      · simp only [List.mem_cons, List.not_mem_nil, or_false] at hx
        rcases hx with rfl | rfl
        · exact ⟨n2, ca⟩
        · exact ⟨n1, cb⟩
      · simp only [List.mem_cons, List.not_mem_nil, or_false] at hp
        rcases hp with rfl | rfl
        · exact ⟨o1, some u1, en1, ho1⟩
        · exact ⟨o2, some u2, en2, ho2⟩
      · have look : ∀ x c, ([("letters", n1), ("at", n2)] : List (Str × Addr)).lookup x = some c → (x = Str.ofString "letters" ∧ c = n1) ∨ (x = Str.ofString "at" ∧ c = n2) := fun x c q => by
          rw [List.lookup_cons] at q
          split at q
          · rename_i h; exact .inl ⟨eq_of_beq h, (Option.some.inj q).symm⟩
          · rw [List.lookup_cons] at q
            split at q
            · rename_i h; exact .inr ⟨eq_of_beq h, (Option.some.inj q).symm⟩
            · cases q
        rcases look x c q1 with ⟨h1, h2⟩ | ⟨h1, h2⟩ <;> rcases look y c q2 with ⟨h3, h4⟩ | ⟨h3, h4⟩
        · rw [h1, h3]
        · exact absurd (h2.symm.trans h4) n12
        · exact absurd (h4.symm.trans h2) n12
        · rw [h1, h3]
    let R : Hp → Prop := fun H => H fl = some (FZ (PySem.W.kla_obj "<lambda>" LQ lamA lamB lamS [("letters", n1), ("at", n2)] pm c' ct)) ∧ CodeZ H c' LQ ∧ Caps H [("letters", n1), ("at", n2)] ["at", "letters"] [.int n, .str z]
    have L : Lf P w K mg base fl (PySem.W.kla_obj "<lambda>" LQ lamA lamB lamS [("letters", n1), ("at", n2)] pm c' ct) (PySem.W.kla_fn "<lambda>" LQ lamA lamB lamS [("letters", n1), ("at", n2)] pm (.ref c') ct) ["kind", "thing"] (fitsB z n) R := by
      refine ⟨rfl, fn_lam (fs := ["at", "letters"]) lamSc (fun vs H Q E h => ?_) (fun vs H Q E h => ?_), .all (us2 fun _ _ => rfl), fun H h => h.1, fun H H' k h => ⟨k.old _ _ h.1 (by simp), h.2.1.kp k (by simp), h.2.2.kp k (by simp)⟩⟩
      · obtain ⟨kd, v, rfl, _⟩ := h
        rfl
      · obtain ⟨kd, v, rfl, hR, av, q⟩ := h
        refine ⟨hR.1, hR.2.1, [.int n, .str z], hR.2.2, fun A outer s hr => ⟨_, QE.h (qpe_ifExp (qpt_cmpR (op_eqU hr.units) (qpv 0) qpe_str (nomark _)) (qpe_call G_is_one_letter (hr.mono (by decide)) rfl T.m_is_one_letter F_is_one_letter.kp b_is_one_letter .nil pass0 (qpa_cons (qpv 1) (qpa_cons (qpv 3) qpa_nil))) (qpe_call G_is_row_ahead (hr.mono (by decide)) rfl T.m_is_row_ahead F_is_row_ahead.kp b_is_row_ahead .nil pass0 (qpa_cons (qpv 1) (qpa_cons (qpv 2) qpa_nil)))), ?_⟩⟩
        simp!
        have fin : (∀ c ∈ [n1, n2], hideC H [n1, n2] c = none) → Q (.bl (fitsB z n kd v)) (backC H (hideC H [n1, n2]) [n1, n2]) := fun _ => q _ (Kp.backC (Kp.refl [] _))
        unfold fitsB at fin
        refine ite2 (fun h => ?_) (fun h => ?_)
        · rw [if_pos h] at fin
          exact ⟨v, z, rfl, av, hz, fin⟩
        · rw [if_neg h] at fin
          exact ⟨v, n, rfl, av, fin⟩
    have hR : R (showC H1 [(n1, o1), (n2, o2)]) := ⟨sh _ _ e1', cz.kp kS (by simp), cap⟩
    refine ⟨r, ak, fl, _, _, _, fitsB z n, R, .str wd, rest, ks, L, hR, rfl, sh _ _ (k1.tup _ _ hr0), ka, lr, hq _, lk, fun H2 k2 => ?_⟩
    have k3 : Kp [] H1 (hideC H2 [n1, n2]) := by
      have kk := kS.trans k2
      have ne : ∀ b v, H1 b = some v → b ∉ [n1, n2] := fun b v e m => by
        simp only [List.mem_cons, List.not_mem_nil, or_false] at m
        rcases m with rfl | rfl
        · rw [hn1] at e; cases e
        · rw [hn2] at e; cases e
      exact ⟨fun b v e m => by rw [hideC_out (ne b _ e)]; exact kk.old b v e m, fun b xs e => by rw [hideC_out (ne b _ e)]; exact kk.tup b xs e, fun b v e => by rw [hideC_out (ne b _ e)]; exact kk.dom b v e⟩
    exact k _ (k1.trans (k3.mono (by simp))) (tb1.kp k3 (by simp) (by simp))
end
def meth (st : Stmt) : Stmt := match st with
  | .ClassDef _ _ _ body _ _ _ _ _ _ _ => body.getD 0 (.Pass ⟨0, 0, 0, 0⟩)
  | s => s
theorem apl (a b : Str) : (a ++ b).length = a.length + b.length := by
  show (a.cps ++ b.cps).size = _
  simp [Str.length]
def spIni (K : PySem.W.Frag) (fld : Str) (ok : V → Hp → Prop) : Sp := fun vs H Q _ => ∃ (e C D N : Addr) (x : V), vs = [.ref e, x] ∧ H e = some (ExO e C none) ∧ XC K C D N ∧ PySem.W.findIn K (.ref C) fld = some none ∧ ok x H ∧
  ∀ dx, H dx = none → Q .non (upd (upd H dx (.xd [(fld, x)])) e (ExO e C (some dx)))
def okI : V → Hp → Prop := fun x _ => ∃ i : Int, x = .int i ∧ i.natAbs < 10 ^ 20
structure TIni (K : PySem.W.Frag) (mg : Str → Option Value) (D : Addr) : Prop where
  m_CalmError : mg "CalmError" = some (.ref D)
  xd : XD K D
theorem kp_fly {H : Hp} {e dx : Addr} {o1 o2 d : HO} (he : H e = none) (hd : upd H e o1 dx = none) : Kp [] H (dropH (upd (upd (upd H e o1) dx d) e o2) e) ∧ dropH (upd (upd (upd H e o1) dx d) e o2) e dx = some d := by
  have ne : dx ≠ e := fun z => by rw [z, upd_same] at hd; cases hd
  rw [upd_ne ne] at hd
  have go : ∀ a u, H a = some u → dropH (upd (upd (upd H e o1) dx d) e o2) e a = some u := fun a u h => by
    have n1 := ne_of_none h he
    have n2 := ne_of_none h hd
    rw [dropH_ne n1, upd_ne n1, upd_ne n2, upd_ne n1]; exact h
  exact ⟨⟨fun a u h _ => go a u h, fun a xs h => go a _ h, fun a u h => ⟨u, go a u h⟩⟩, by rw [dropH_ne ne, upd_ne ne, upd_same]⟩
def AR (H : Hp) (us : List V) (R : List (List V)) : Prop := Paired (fun v xs => ∃ t, v = .ref t ∧ H t = some (.tup xs) ∧ RowO xs) us R
theorem AR.kp {S : List Addr} {H H' : Hp} {us : List V} {R : List (List V)} (k : Kp S H H') (h : AR H us R) : AR H' us R := Paired.mapP h fun _ _ ⟨t, e, h, r⟩ => ⟨t, e, k.tup _ _ h, r⟩
theorem AR.len {H : Hp} {us : List V} {R : List (List V)} (h : AR H us R) : us.length = R.length := Paired.length h
theorem AR.get : ∀ {H : Hp} {us : List V} {R : List (List V)} {k : Nat} {v : V}, AR H us R → us[k]? = some v → ∃ xs t, R[k]? = some xs ∧ v = .ref t ∧ H t = some (.tup xs) ∧ RowO xs
  | H, _, _, k, v, .nil, e => by simp at e
  | H, _, _, 0, v, .cons (b := b) ⟨a, q1, q2, q3⟩ _, e => by simp at e; subst e; exact ⟨b, a, rfl, q1, q2, q3⟩
  | H, _, _, k + 1, v, .cons _ t, e => by simp at e; obtain ⟨r, a, h⟩ := AR.get t e; exact ⟨r, a, by simpa using h.1, h.2⟩
def fbF (z : Str) : List (List V) → Nat → Option Nat
  | [], _ => none
  | xs :: R, i => if goodB z (i : Int) xs = true then fbF z R (i + 1) else some i
def fb (z : Str) (R : List (List V)) : Option Nat := if R = [] then some 0 else fbF z R 0
theorem fbF_lt (z : Str) : ∀ (R : List (List V)) (i k : Nat), fbF z R i = some k → k < i + R.length
  | [], i, k, h => by cases h
  | xs :: R, i, k, h => by
    rw [fbF] at h
    split at h
    · have := fbF_lt z R (i + 1) k h
      rw [List.length_cons]; omega
    · cases h; rw [List.length_cons]; omega
def spLE (Pt cR : Addr) : Sp := fun vs H Q E => ∃ (z : Str) (a : Addr) (us : List V) (R : List (List V)), vs = [.str z, .ref a] ∧ H a = some (.tup us) ∧ AR H us R ∧ z.length ≤ 100 ∧ R.length ≤ 200 ∧ TabOk H Pt LQ ∧
  (fb z R = none → ∀ H', Kp [Pt] H H' → TabOk H' Pt LQ → Q (.bl true) H') ∧ ∀ (i : Nat) (dx : Addr) (H' : Hp), fb z R = some i → Kp [Pt] H H' → TabOk H' Pt LQ → H' dx = some (.xd [("at", .int (i : Int))]) → E (.ref cR) (some dx) H'
structure TLE (K : PySem.W.Frag) (mg : Str → Option Value) (cR NR D fR fx : Addr) : Prop where
  n_len : mg "len" = none
  n_enumerate : mg "enumerate" = none
  m_is_expression_row : mg "is_expression_row" = some (.ref fx)
  m_BadRow : mg "BadRow" = some (.ref cR)
  c_BadRow : XC K cR D NR
  i_BadRow : PySem.W.nsIn K NR "__init__" = some (some (.ref fR))
  f_BadRow : ∃ o, K.lookup fR = some o ∧ o.cls = .type "function"
  nf : PySem.W.findIn K (.ref cR) "at" = some none
section
variable {P : Program} {w : World} {K : PySem.W.Frag} {mg : Str → Option Value} {base : Heap}
abbrev s_BadRow__init__ : Stmt := meth (top 8)
theorem sc_BadRow__init__ : FnScope ["self", "at"] ["self", "at"] (defScope s_BadRow__init__) := ⟨rfl, rfl, rfl, by decide +kernel, rfl, by decide +kernel, by decide +kernel⟩
theorem ok_BadRow__init__ {f D0 : Addr} {fd : FuncData} (F : Fun K "__init__" "BadRow.__init__" s_BadRow__init__ f fd) (T : TIni K mg D0) : FnOk P w K mg base CX0 1 f fd ["self", "at"] (spIni K "at" okI) := by
  refine F.ok sc_BadRow__init__ (fun vs H Q E h => ?_) (fun cdv A outer s H vs Q E hr h => ?_)
  · obtain ⟨e, C, D, N, x, rfl, _⟩ := h
    rfl
  · obtain ⟨e, C, D, N, x, rfl, he, c, nf, ok, k⟩ := h
    have hu := hr.units
    have hgd := hr.gd
    have hsz : sizeLine = 16777216 := PySem.sizeLine_eq
    have l0 : (Str.empty ++ Str.ofString "row ").length ≤ 100 := by decide +kernel
    obtain ⟨i, rfl, hi⟩ := ok
    refine ⟨_, (QSs.h (qpss_cons (qps_expr (qpe_excInit rfl T.xd rfl T.m_CalmError (qpa_cons (qpv 0) (qpa_cons (qpe_joined (qpj_cons qpe_str (qpj_cons (qpe_fmtI (qpv 1)) qpj_nil))) qpa_nil))))
    (qpss_one (qps_excSet rfl (qpv 0) (qpv 1) rfl)))), ?_⟩
    simp!
    refine ⟨by omega, hi, fun z hz => ⟨by rw [apl]; omega, by rw [apl]; omega, e, _, ⟨rfl, rfl⟩, C, he, D, N, c, C, he, D, N, c, nf, k⟩⟩
abbrev s_look_expression : Stmt := top 20
theorem sc_look_expression : FnScope ["letters", "expression", "at", "row"] ["letters", "expression"] (defScope s_look_expression) := ⟨rfl, rfl, rfl, by decide +kernel, rfl, by decide +kernel, by decide +kernel⟩
theorem ok_look_expression {f Pt cR NR D fR fx : Addr} {fd fdR fdx : FuncData} (F : Fun K "look_expression" "look_expression" s_look_expression f fd) (T : TLE K mg cR NR D fR fx) (b_BadRow : Binds K fdR ["self", "at"] [])
    (G_BadRow : FnOk P w K mg base CX0 1 fR fdR ["self", "at"] (spIni K "at" okI)) (F_is_expression_row : Fun K "is_expression_row" "is_expression_row" s_is_expression_row fx fdx) (b_is_expression_row : Binds K fdx ["letters", "row", "at"] [])
    (G_is_expression_row : FnOk P w K mg base CX0 5 fx fdx ["letters", "row", "at"] (spIE Pt)) : FnOk P w K mg base (CXE P w) 6 f fd ["letters", "expression"] (spLE Pt cR) := by
  refine F.okE sc_look_expression (fun vs H Q E h => ?_) (fun cdv A outer s H vs Q E hr h => ?_)
  · obtain ⟨z, a, us, R, rfl, _⟩ := h
    rfl
  · obtain ⟨z, a, us, R, rfl, ha, ar, hz, hR, tb, kG, kB⟩ := h
    have hu := hr.units
    have hsz : sizeLine = 16777216 := PySem.sizeLine_eq
    refine ⟨_, (QSs.h (qpss_cons (qps_if (qpt_cmpR (op_eqU hu) (qpe_callB call_lenU (by rfl) T.n_len bt_len (qpa_cons (qpv 1) qpa_nil)) qpe_int (nomark _)) (qpss_one (qps_raise rfl rfl rfl leaves_of (qpe_excI rfl T.c_BadRow T.i_BadRow T.f_BadRow G_BadRow (hr.mono (by decide)) b_BadRow rfl T.m_BadRow (qpa_cons qpe_int qpa_nil)))) qpss_nil)
    (qpss_cons (qps_for passOwn_of rfl (qpi_enumT (K := K) rfl rfl T.n_enumerate (qpa_cons (qpv 1) qpa_nil)) (qpg_tup (n := 2) rfl (qpgs_cons (qpg_name (i := 2) sc_look_expression.nd rfl (by first | exact Or.inl rfl | exact Or.inr rfl)) (qpgs_cons (qpg_name (i := 3) sc_look_expression.nd rfl (by first | exact Or.inl rfl | exact Or.inr rfl)) qpgs_nil)) (K := K) rfl) (qpss_one (qps_if (qpt_not (qpt_val (qpe_call G_is_expression_row (hr.mono (by decide)) rfl T.m_is_expression_row F_is_expression_row.kp b_is_expression_row .nil pass0 (qpa_cons (qpv 0) (qpa_cons (qpv 3) (qpa_cons (qpv 2) qpa_nil)))))) (qpss_one (qps_raise rfl rfl rfl leaves_of (qpe_excI rfl T.c_BadRow T.i_BadRow T.f_BadRow G_BadRow (hr.mono (by decide)) b_BadRow rfl T.m_BadRow (qpa_cons (qpv 2) qpa_nil)))) qpss_nil)))
    (qpss_one (qps_ret qpe_bl))))), ?_⟩
    have lu := ar.len
    simp! [ha]
    have raise : ∀ (i : Nat) (H1 : Hp), Kp [Pt] H H1 → TabOk H1 Pt LQ → fb z R = some i → ∀ e, H1 e = none → spIni K "at" okI [.ref e, .int (i : Int)] (upd H1 e (ExO e cR none)) (fun v H2 => v = .non ∧ ∃ C D' N dx, H2 e = some (ExO e C dx) ∧ XC K C D' N ∧ H e = none ∧ E (.ref C) dx (dropH H2 e)) E0 := by
      intro i H1 k1 tb1 hf e he
      have hi : i < 1000 := by
        unfold fb at hf
        split at hf
        · cases hf; omega
        · have := fbF_lt z R 0 i hf; omega
      refine ⟨e, cR, D, NR, _, rfl, upd_same, T.c_BadRow, T.nf, ⟨(i : Int), rfl, by omega⟩, fun dx hdx => ⟨rfl, cR, D, NR, some dx, upd_same, T.c_BadRow, k1.free he, ?_⟩⟩
      obtain ⟨k2, e2⟩ := kp_fly (o1 := ExO e cR none) (o2 := ExO e cR (some dx)) (d := .xd [("at", .int (i : Int))]) he hdx
      exact kB i dx _ hf (k1.trans (k2.mono (by simp))) (tb1.kp k2 (by simp) (by simp)) e2
    refine ite2 (fun h0 => ?_) (fun h0 => ?_)
    · exact raise 0 H (Kp.refl _ _) tb (by unfold fb; rw [if_pos (List.length_eq_zero_iff.mp (by omega))])
    have hne : R ≠ [] := fun e => by subst e; simp at lu; exact h0 (by rw [lu]; rfl)
    have ef : fb z R = fbF z R 0 := by unfold fb; rw [if_neg hne]
    refine ⟨⟨us, SqT.of ha⟩, ?_⟩
    refine loop_ET (xs := us) (fun i σ H' => ∃ (v2 v3 : Option V), σ = [some (.str z), some (.ref a), v2, v3] ∧ Kp [Pt] H H' ∧ TabOk H' Pt LQ ∧ fbF z R 0 = fbF z (R.drop i) i) ⟨none, none, rfl, Kp.refl _ _, tb, rfl⟩ ?_ ?_ ?_
    · rintro i σ H' _ ⟨v2, v3, rfl, kp, _⟩
      exact kp.tup _ _ ha
    · rintro i x σ H' Tt hx ⟨v2, v3, rfl, kp, tb1, ew⟩ hTt
      obtain ⟨xs, t, hxs, rfl, ht, ro⟩ := ar.get hx
      refine ⟨Tt, [.int (i : Int), .ref t], rfl, SqT.of upd_same, rfl, ⟨_, _, rfl, ⟨_, _, rfl, rfl, ?_⟩⟩⟩
      have kT : Kp [] H' (upd H' Tt (.tup [.int (i : Int), .ref t])) := (Kp.refl [] H').new hTt
      generalize upd H' Tt (.tup [.int (i : Int), .ref t]) = H2 at kT ⊢
      have kp2 := kp.trans (kT.mono (by simp) : Kp [Pt] H' H2)
      have hi : i < R.length := (List.getElem?_eq_some_iff.mp hxs).1
      have ed : R.drop i = xs :: R.drop (i + 1) := by
        rw [List.drop_eq_getElem_cons hi]
        congr 1
        rw [List.getElem?_eq_getElem hi] at hxs
        exact Option.some.inj hxs
      rw [ed, fbF] at ew
      simp!
      refine ⟨z, t, xs, (i : Int), rfl, kp2.tup _ _ ht, ro, hz, tb1.kp kT (by simp) (by simp), fun H3 k3 tb3 => ?_⟩
      simp!
      by_cases hg : goodB z (i : Int) xs = true
      · rw [if_pos hg] at ew
        rw [hg, if_neg (by decide)]
        exact ⟨_, _, ⟨rfl, rfl⟩, kp2.trans k3, tb3, ew⟩
      · rw [if_neg hg] at ew
        rw [show goodB z (i : Int) xs = false by simpa using hg, if_pos (show (!false) = true from rfl)]
        exact raise i H3 (kp2.trans k3) tb3 (by rw [ef, ew])
    · rintro σ H' ⟨v2, v3, rfl, kp, tb1, ew⟩
      simp!
      rw [lu, List.drop_length, fbF] at ew
      exact kG (by rw [ef, ew]) _ kp tb1
structure THe (K : PySem.W.Frag) (mg : Str → Option Value) (fl cR NR D c0 c1 c2 c3 c4 c5 c6 c7 c8 c9 c10 : Addr) : Prop where
  n_isinstance : mg "isinstance" = none
  n_ValueError : mg "ValueError" = none
  m_look_expression : mg "look_expression" = some (.ref fl)
  m_BadRow : mg "BadRow" = some (.ref cR)
  xt_BadRow : XT K cR
  m_CalmError : mg "CalmError" = some (.ref D)
  m_BadLetters : mg "BadLetters" = some (.ref c0)
  m_BadRoom : mg "BadRoom" = some (.ref c1)
  m_BadText : mg "BadText" = some (.ref c2)
  m_NoLetter : mg "NoLetter" = some (.ref c3)
  m_NotCalm : mg "NotCalm" = some (.ref c4)
  m_NotClosed : mg "NotClosed" = some (.ref c5)
  m_NoName : mg "NoName" = some (.ref c6)
  m_NoRow : mg "NoRow" = some (.ref c7)
  m_OtherLetters : mg "OtherLetters" = some (.ref c8)
  m_TooLong : mg "TooLong" = some (.ref c9)
  m_TooMany : mg "TooMany" = some (.ref c10)
  c : XC K cR D NR
  xi : XI K cR
  ko : ∀ o ∈ [c0, c1, c2, c3, c4, c5, c6, c7, c8, c9, c10], PySem.W.kitOne K (.ref cR) (.ref o) = some false
  kD : PySem.W.kitOne K (.ref cR) (.ref D) = some true
  kV : PySem.W.kitOne K (.ref cR) (.type "ValueError") = some true
  nf : PySem.W.findIn K (.ref cR) "at" = some none
theorem kit_any {K : PySem.W.Frag} {C : Addr} : ∀ {os : List Addr}, (∀ o ∈ os, PySem.W.kitOne K (.ref C) (.ref o) = some false) → PySem.W.kitAny K (.ref C) (os.map Value.ref) = some false
  | [], _ => rfl
  | o :: os, h => by
    rw [List.map_cons, PySem.W.kitAny, h o (.head _)]
    exact kit_any fun x hx => h x (.tail _ hx)
def heardE (H : Hp) (v : V) : Option Nat → Prop
  | none => v = .bl true
  | some i => ∃ q, v = .ref q ∧ H q = some (.tup [.int (i : Int), .bl true, .bl true])
def spHe (Pt : Addr) : Sp := fun vs H Q _ => ∃ (z : Str) (a : Addr) (us : List V) (R : List (List V)), vs = [.str z, .ref a] ∧ H a = some (.tup us) ∧ AR H us R ∧ z.length ≤ 100 ∧ R.length ≤ 200 ∧ TabOk H Pt LQ ∧
  ∀ v H', heardE H' v (fb z R) → Kp [Pt] H H' → TabOk H' Pt LQ → Q v H'
abbrev s__law_looked : Stmt := top 35
theorem sc__law_looked : FnScope ["_law_letters_here", "_law_rows", "_law_found", "e", "_law_alone"] ["_law_letters_here", "_law_rows"] (defScope s__law_looked) := ⟨rfl, rfl, rfl, by decide +kernel, rfl, by decide +kernel, by decide +kernel⟩
theorem ok__law_looked {f Pt fl cR NR D c0 c1 c2 c3 c4 c5 c6 c7 c8 c9 c10 : Addr} {fd fdl : FuncData} (F : Fun K "_law_looked" "_law_looked" s__law_looked f fd) (T : THe K mg fl cR NR D c0 c1 c2 c3 c4 c5 c6 c7 c8 c9 c10)
    (F_look_expression : Fun K "look_expression" "look_expression" s_look_expression fl fdl) (b_look_expression : Binds K fdl ["letters", "expression"] []) (G_look_expression : FnOk P w K mg base (CXE P w) 6 fl fdl ["letters", "expression"] (spLE Pt cR)) : FnOk P w K mg base CX0 7 f fd ["_law_letters_here", "_law_rows"] (spHe Pt) := by
  refine F.ok sc__law_looked (fun vs H Q E h => ?_) (fun cdv A outer s H vs Q E hr h => ?_)
  · obtain ⟨z, a, us, R, rfl, _⟩ := h
    rfl
  · obtain ⟨z, a, us, R, rfl, ha, ar, hz, hR, tb, k⟩ := h
    have hsz : sizeLine = 16777216 := PySem.sizeLine_eq
    refine ⟨_, (QSs.h (qpss_cons (qps_tryA (i := 2) (j := 3) rfl G_look_expression (hr.mono (by decide)) rfl T.m_look_expression F_look_expression.kp b_look_expression (qpa_cons (qpv 0) (qpa_cons (qpv 1) qpa_nil)) T.xt_BadRow rfl T.m_BadRow (fun A' h1 h2 h3 h4 => (qpss_cons (qps_set (i := 4) sc__law_looked.nd rfl (by first | exact Or.inl rfl | exact Or.inr rfl) (qpe_not (qpe_callB (call_isW (K := K) rfl) (by rfl) T.n_isinstance bt_isinstance (qpa_cons (qpv 3) (qpa_cons (qpe_tup (qpa_cons (qpe_glob (v := .ref _) rfl T.m_BadLetters rfl) (qpa_cons (qpe_glob (v := .ref _) rfl T.m_BadRoom rfl) (qpa_cons (qpe_glob (v := .ref _) rfl T.m_BadText rfl) (qpa_cons (qpe_glob (v := .ref _) rfl T.m_NoLetter rfl) (qpa_cons (qpe_glob (v := .ref _) rfl T.m_NotCalm rfl) (qpa_cons (qpe_glob (v := .ref _) rfl T.m_NotClosed rfl) qpa_nil))))))) qpa_nil)))))
    (qpss_cons (qps_set (i := 4) sc__law_looked.nd rfl (by first | exact Or.inl rfl | exact Or.inr rfl) (qpe_and (qpv 4) (qpe_one (qpe_not (qpe_callB (call_isW (K := K) rfl) (by rfl) T.n_isinstance bt_isinstance (qpa_cons (qpv 3) (qpa_cons (qpe_tup (qpa_cons (qpe_glob (v := .ref _) rfl T.m_NoName rfl) (qpa_cons (qpe_glob (v := .ref _) rfl T.m_NoRow rfl) (qpa_cons (qpe_glob (v := .ref _) rfl T.m_OtherLetters rfl) (qpa_cons (qpe_glob (v := .ref _) rfl T.m_TooLong rfl) (qpa_cons (qpe_glob (v := .ref _) rfl T.m_TooMany rfl) qpa_nil)))))) qpa_nil)))))))
    (qpss_one (qps_set (i := 2) sc__law_looked.nd rfl (by first | exact Or.inl rfl | exact Or.inr rfl) (qpe_tup (qpa_cons (qpe_excFldW rfl (qpv 3) rfl) (qpa_cons (qpe_and (qpe_callB (call_isW (K := K) rfl) (by rfl) T.n_isinstance bt_isinstance (qpa_cons (qpv 3) (qpa_cons (qpe_glob (v := .ref _) rfl T.m_CalmError rfl) qpa_nil))) (qpe_one (qpe_callB (call_isW (K := K) rfl) (by rfl) T.n_isinstance bt_isinstance (qpa_cons (qpv 3) (qpa_cons (qpe_bltn (v := .ty "ValueError") rfl T.n_ValueError bt_ValueError rfl) qpa_nil))))) (qpa_cons (qpv 4) qpa_nil))))))))) ⟨rfl, rfl⟩ rfl (fun _ _ z => z) sc__law_looked.nd rfl rfl rfl rfl)
    (qpss_one (qps_ret (qpv 2))))), ?_⟩
    simp!
    refine ⟨z, a, us, R, rfl, ha, ar, hz, hR, tb, fun e H' kp tb' => ?_, fun i dx H' e kp tb' hd => ?_⟩
    · exact k _ _ (by rw [e]; rfl) kp tb'
    · refine ⟨cR, D, NR, rfl, T.c, .inr rfl, fun x hx => ?_⟩
      simp!
      have k1 : Kp [] H' (upd H' x (ExW x cR (some dx))) := (Kp.refl [] H').new hx
      have hx1 : upd H' x (ExW x cR (some dx)) x = some (ExW x cR (some dx)) := upd_same
      generalize upd H' x (ExW x cR (some dx)) = H1 at k1 hx1 ⊢
      refine ⟨by omega, fun p1 hp1 => ?_⟩
      have k2 : Kp [] H1 (upd H1 p1 (.tup [.ref c0, .ref c1, .ref c2, .ref c3, .ref c4, .ref c5])) := (Kp.refl [] H1).new hp1
      have et1 : tupRefs (upd H1 p1 (.tup [.ref c0, .ref c1, .ref c2, .ref c3, .ref c4, .ref c5])) p1 [c0, c1, c2, c3, c4, c5] := upd_same
      generalize upd H1 p1 (.tup [.ref c0, .ref c1, .ref c2, .ref c3, .ref c4, .ref c5]) = H2 at k2 et1 ⊢
      have eaOf : ∀ {H3 : Hp}, Kp [] H1 H3 → ExAtW H3 x cR := fun k => ⟨some dx, k.old _ _ hx1 (by simp), fun d e => by cases e; exact ⟨_, (k1.trans k).old _ _ hd (by simp)⟩⟩
      refine ⟨cR, eaOf k2, D, NR, T.c, T.xi, false, .inr ⟨_, et1, kit_any fun o ho => T.ko o (List.mem_append_left [c6, c7, c8, c9, c10] ho)⟩, ?_⟩
      simp!
      refine ⟨by omega, fun p2 hp2 => ?_⟩
      have k3 : Kp [] H2 (upd H2 p2 (.tup [.ref c6, .ref c7, .ref c8, .ref c9, .ref c10])) := (Kp.refl [] H2).new hp2
      have et2 : tupRefs (upd H2 p2 (.tup [.ref c6, .ref c7, .ref c8, .ref c9, .ref c10])) p2 [c6, c7, c8, c9, c10] := upd_same
      generalize upd H2 p2 (.tup [.ref c6, .ref c7, .ref c8, .ref c9, .ref c10]) = H3 at k3 et2 ⊢
      have k13 := k2.trans k3
      have ea3 := eaOf k13
      refine ⟨cR, ea3, D, NR, T.c, T.xi, false, .inr ⟨_, et2, kit_any fun o ho => T.ko o (List.mem_append_right [c0, c1, c2, c3, c4, c5] ho)⟩, cR, D, NR, dx, k13.old _ _ hx1 (by simp), _, (k1.trans k13).old _ _ hd (by simp), T.c, T.nf, .int (i : Int), rfl, cR, ea3, D, NR, T.c, T.xi, true, .inl T.kD, ?_⟩
      rw [if_pos rfl]
      refine ⟨cR, ea3, D, NR, T.c, T.xi, true, T.kV, by omega, fun q hq => ?_⟩
      have k4 : Kp [] H' (upd H3 q (.tup [.int (i : Int), .bl true, .bl true])) := (k1.trans k13).new hq
      refine k _ _ (by rw [e]; exact ⟨q, rfl, upd_same⟩) (kp.trans (k4.mono (by simp))) (tb'.kp k4 (by simp) (by simp))
end
def spGR : Sp := fun vs H Q _ => ∃ (z : Str) (r : Addr) (xs : List V) (n : Int), vs = [.str z, .ref r, .int n] ∧ H r = some (.tup xs) ∧ RowO xs ∧ z.length ≤ 100 ∧ ∀ H', Kp [] H H' → Q (.bl (goodB z n xs)) H'
structure TGR (K : PySem.W.Frag) (mg : Str → Option Value) : Prop where
  n_len : mg "len" = none
  n_list : mg "list" = none
  n_int : mg "int" = none
  n_str : mg "str" = none
  n_isinstance : mg "isinstance" = none
  ss : PySem.W.kitOne K (.type "str") (.type "str") = some true
  is : PySem.W.kitOne K (.type "int") (.type "str") = some false
def W7 : List V := [.str "nothing", .str "blank", .str "letter", .str "not", .str "or", .str "and", .str "behind"]
theorem words (w : Str) : (w = "nothing" ∨ w = "blank") ∨ w = "letter" ∨ w = "not" ∨ (w = "or" ∨ w = "and" ∨ w = "behind") ∨ (frm w = none ∧ inV (.str w) W7 = false) := by
  by_cases h0 : w = "nothing"
  · exact .inl (.inl h0)
  by_cases h1 : w = "blank"
  · exact .inl (.inr h1)
  by_cases h2 : w = "letter"
  · exact .inr (.inl h2)
  by_cases h3 : w = "not"
  · exact .inr (.inr (.inl h3))
  by_cases h4 : w = "or"
  · exact .inr (.inr (.inr (.inl (.inl h4))))
  by_cases h5 : w = "and"
  · exact .inr (.inr (.inr (.inl (.inr (.inl h5)))))
  by_cases h6 : w = "behind"
  · exact .inr (.inr (.inr (.inl (.inr (.inr h6)))))
  refine .inr (.inr (.inr (.inr ⟨?_, ?_⟩)))
  · unfold frm
    rw [if_neg h0, if_neg h1, if_neg h2, if_neg h3, if_neg h4, if_neg h5, if_neg h6]
  · have e : ∀ x : Str, ¬ w = x → eqV (.str x) (.str w) = false := fun x h => by simp [eqV]; intro z; exact h (by first | exact z.symm | exact z)
    simp [inV, W7, e _ h0, e _ h1, e _ h2, e _ h3, e _ h4, e _ h5, e _ h6]
theorem plain_of (w : Str) : (∃ m, frm w = some (List.replicate m (Str.ofString "row")) ∧ inV (.str w) W7 = true ∧ (w = Str.ofString "letter") = False ∧ m ≤ 2 ∧ (if w = Str.ofString "not" then (1 : Int) else 0) + 2 * (if inV (.str w) [.str "or", .str "and", .str "behind"] = true then 1 else 0) = (m : Int)) ∨ w = "letter" ∨ (frm w = none ∧ inV (.str w) W7 = false) := by
  rcases words w with (rfl | rfl) | h | rfl | (rfl | rfl | rfl) | h
  · exact .inl ⟨0, by decide +kernel, by decide +kernel, eq_false (by decide +kernel), by decide, by decide +kernel⟩
  · exact .inl ⟨0, by decide +kernel, by decide +kernel, eq_false (by decide +kernel), by decide, by decide +kernel⟩
  · exact .inr (.inl h)
  · exact .inl ⟨1, by decide +kernel, by decide +kernel, eq_false (by decide +kernel), by decide, by decide +kernel⟩
  · exact .inl ⟨2, by decide +kernel, by decide +kernel, eq_false (by decide +kernel), by decide, by decide +kernel⟩
  · exact .inl ⟨2, by decide +kernel, by decide +kernel, eq_false (by decide +kernel), by decide, by decide +kernel⟩
  · exact .inl ⟨2, by decide +kernel, by decide +kernel, eq_false (by decide +kernel), by decide, by decide +kernel⟩
  · exact .inr (.inr h)
theorem rows_all (z : Str) (n : Int) : ∀ (m : Nat) (rest : List V), rest.length = m → ((List.replicate m (Str.ofString "row")).zip rest).all (fun p => fitsB z n p.1 p.2) = rest.all (isRow n)
  | 0, [], _ => rfl
  | m + 1, v :: rest, h => by
    rw [List.replicate_succ, List.zip_cons_cons, List.all_cons, List.all_cons, rows_all z n m rest (by simpa using h)]
    have : fitsB z n (Str.ofString "row") v = isRow n v := if_neg (by decide +kernel)
    rw [this]
  | 0, _ :: _, h => by simp at h
  | _ + 1, [], h => by simp at h
def dueI : Option Nat → Int
  | none => -1
  | some i => (i : Int)
def spFB : Sp := fun vs H Q _ => ∃ (z : Str) (a : Addr) (us : List V) (R : List (List V)), vs = [.str z, .ref a] ∧ H a = some (.tup us) ∧ AR H us R ∧ z.length ≤ 100 ∧ R.length ≤ 200 ∧ ∀ H', Kp [] H H' → Q (.int (dueI (fb z R))) H'
structure TFB (mg : Str → Option Value) (fg : Addr) : Prop where
  n_len : mg "len" = none
  n_int : mg "int" = none
  n_enumerate : mg "enumerate" = none
  m__law_good_row : mg "_law_good_row" = some (.ref fg)
def spRt (Pt : Addr) : Sp := fun vs H Q _ => ∃ (z : Str) (a : Addr) (us : List V) (R : List (List V)), vs = [.str z, .ref a] ∧ H a = some (.tup us) ∧ AR H us R ∧ z.length ≤ 100 ∧ R.length ≤ 200 ∧ TabOk H Pt LQ ∧ ∀ H', Kp [Pt] H H' → TabOk H' Pt LQ → Q (.bl true) H'
structure TRt (K : PySem.W.Frag) (mg : Str → Option Value) (fl fb' : Addr) : Prop where
  n_isinstance : mg "isinstance" = none
  n_tuple : mg "tuple" = none
  n_bool : mg "bool" = none
  m__law_looked : mg "_law_looked" = some (.ref fl)
  m__law_first_bad : mg "_law_first_bad" = some (.ref fb')
  tt : PySem.W.kitOne K (.type "tuple") (.type "tuple") = some true
  ib : PySem.W.kitOne K (.type "int") (.type "bool") = some false
theorem At.flat {v : V} (h : At v) : flatV v = true := by
  rcases h with ⟨x, rfl, _⟩ | ⟨i, rfl⟩ <;> rfl
theorem sgn_flat (z : Str) : (sgn z).all flatV = true := by
  unfold sgn
  rw [List.all_map]
  exact List.all_eq_true.mpr fun _ _ => rfl
theorem in_sgn (z : Str) {v : V} (h : At v) : inV v (sgn z) = isLet z v := by
  unfold inV sgn
  rw [List.any_map]
  rcases h with ⟨x, rfl, _⟩ | ⟨i, rfl⟩
  · show (z.cps.toList.any fun c => (⟨#[c]⟩ : Str) == x) = (decide (x.length = 1) && hasS z x)
    by_cases hx : x.length = 1
    · obtain ⟨c, rfl⟩ : ∃ c, x = ⟨#[c]⟩ := by
        obtain ⟨cps⟩ := x
        have : cps.size = 1 := hx
        obtain ⟨l⟩ := cps
        match l, this with
        | [c], _ => exact ⟨c, rfl⟩
      rw [decide_eq_true hx, Bool.true_and, hasS_one]
      rw [Bool.eq_iff_iff]
      simp only [List.any_eq_true, decide_eq_true_eq, beq_iff_eq]
      constructor
      · rintro ⟨d, hd, e⟩
        have : d = c := by injection e with e; simpa using e
        rw [← this]; exact hd
      · intro h; exact ⟨c, h, rfl⟩
    · rw [decide_eq_false hx, Bool.false_and]
      refine List.any_eq_false.mpr fun c _ e => hx ?_
      rw [← eq_of_beq e]; rfl
  · exact List.any_eq_false.mpr fun c _ e => by cases e
section
variable {P : Program} {w : World} {K : PySem.W.Frag} {mg : Str → Option Value} {base : Heap}
abbrev s__law_good_row : Stmt := top 33
theorem sc__law_good_row : FnScope ["_law_letters_here", "_law_row", "_law_at", "_law_part"] ["_law_letters_here", "_law_row", "_law_at"] (defScope s__law_good_row) := ⟨rfl, rfl, rfl, by decide +kernel, rfl, by decide +kernel, by decide +kernel⟩
theorem ok__law_good_row {f : Addr} {fd : FuncData} (F : Fun K "_law_good_row" "_law_good_row" s__law_good_row f fd) (T : TGR K mg) : FnOk P w K mg base CX0 1 f fd ["_law_letters_here", "_law_row", "_law_at"] spGR := by
  refine F.ok sc__law_good_row (fun vs H Q E h => ?_) (fun cdv A outer s H vs Q E hr h => ?_)
  · obtain ⟨z, r, xs, n, rfl, _⟩ := h
    rfl
  · obtain ⟨z, r, xs, n, rfl, hr0, ro, hz, k⟩ := h
    have hu := hr.units
    have hsz : sizeLine = 16777216 := PySem.sizeLine_eq
    refine ⟨_, (QSs.h (qpss_cons (qps_if (QW.pt (qpw_or (qpt_cmpR (op_eqU hu) (qpe_callB call_lenU (by rfl) T.n_len bt_len (qpa_cons (qpv 1) qpa_nil)) qpe_int (nomark _)) (qpw_or1 (qpt_cmpR (op_notinU (K := K) rfl) (qpe_ix ix_U (qpv 1) qpe_int (fun _ _ => rfl)) (qpe_tup (qpa_cons qpe_str (qpa_cons qpe_str (qpa_cons qpe_str (qpa_cons qpe_str (qpa_cons qpe_str (qpa_cons qpe_str (qpa_cons qpe_str qpa_nil)))))))) (by with_unfolding_all rfl))))) (qpss_one (qps_ret qpe_bl)) qpss_nil)
    (qpss_cons (qps_if (qpt_cmpR (op_eqU hu) (qpe_ix ix_U (qpv 1) qpe_int (fun _ _ => rfl)) qpe_str (nomark _)) (qpss_one (qps_ret (qpe_and (qpe_cmpR (op_eqU hu) (qpe_callB call_lenU (by rfl) T.n_len bt_len (qpa_cons (qpv 1) qpa_nil)) qpe_int (nomark _)) (qpe_one (qpe_cmpR (op_inU (K := K) rfl) (qpe_ix ix_U (qpv 1) qpe_int (fun _ _ => rfl)) (qpe_callTy (call_listU rfl) (by rfl) T.n_list bt_list (qpa_cons (qpv 0) qpa_nil)) (by with_unfolding_all rfl)))))) qpss_nil)
    (qpss_cons (qps_if (qpt_cmpR (op_neU hu) (qpe_callB call_lenU (by rfl) T.n_len bt_len (qpa_cons (qpv 1) qpa_nil)) (qpe_op op_addW (qpe_op op_addW qpe_int (qpe_callTy call_intU (by rfl) T.n_int bt_int (qpa_cons (qpe_cmpR (op_eqU hu) (qpe_ix ix_U (qpv 1) qpe_int (fun _ _ => rfl)) qpe_str (nomark _)) qpa_nil))) (qpe_op op_mulW qpe_int (qpe_callTy call_intU (by rfl) T.n_int bt_int (qpa_cons (qpe_cmpR (op_inU (K := K) rfl) (qpe_ix ix_U (qpv 1) qpe_int (fun _ _ => rfl)) (qpe_tup (qpa_cons qpe_str (qpa_cons qpe_str (qpa_cons qpe_str qpa_nil)))) (by with_unfolding_all rfl)) qpa_nil)))) (nomark _)) (qpss_one (qps_ret qpe_bl)) qpss_nil)
    (qpss_cons (qps_for PassesOwn.never rfl (qpi_any (K := K) (qpe_slice (sl_VK (K := K) rfl) (qpv 1) (qpo_some qpe_int) qpo_none) rfl) (qpg_name (i := 3) sc__law_good_row.nd rfl (by first | exact Or.inl rfl | exact Or.inr rfl)) (qpss_one (qps_if (QW.pt (qpw_or (qpt_val (qpe_callB (call_isinstanceK (K := K) rfl) (by rfl) T.n_isinstance bt_isinstance (qpa_cons (qpv 3) (qpa_cons (qpe_bltn (v := .ty "str") rfl T.n_str bt_str rfl) qpa_nil)))) (qpw_or1 (qpt_not (qpt_chain op_leU op_ltU qpe_int (qpv 3) (qpv 2)))))) (qpss_one (qps_ret qpe_bl)) qpss_nil)))
    (qpss_one (qps_ret qpe_bl))))))), ?_⟩
    simp! [hr0]
    rcases ro.hd with rfl | ⟨wd, rest, rfl⟩
    · rw [if_pos (show (([] : List V).length : Int) = 0 from rfl)]
      exact k H (Kp.refl _ _)
    rw [if_neg (show ¬ ((V.str wd :: rest).length : Int) = 0 by simp; omega)]
    have hat : atI (V.str wd :: rest) 0 = some (.str wd) := atI_of (by decide) rfl
    refine ⟨_, hat, by omega, fun p hp => rInU.tupS (SqT.of upd_same) rfl (by decide) ⟨_, rfl, ?_⟩⟩
    have k1 : Kp [] H (upd H p (.tup [V.str (Str.ofString "nothing"), V.str (Str.ofString "blank"), V.str (Str.ofString "letter"), V.str (Str.ofString "not"), V.str (Str.ofString "or"), V.str (Str.ofString "and"), V.str (Str.ofString "behind")])) := (Kp.refl [] H).new hp
    generalize upd H p (.tup [V.str (Str.ofString "nothing"), V.str (Str.ofString "blank"), V.str (Str.ofString "letter"), V.str (Str.ofString "not"), V.str (Str.ofString "or"), V.str (Str.ofString "and"), V.str (Str.ofString "behind")]) = H1 at k1 ⊢
    have hr1 := k1.tup _ _ hr0
    rcases plain_of wd with ⟨m, hf, hi, hl, hm, hc⟩ | rfl | ⟨hf, hi⟩
    · rw [goodB_some hf] at k
      rw [if_neg (by intro e; rw [show inV (.str wd) [V.str (Str.ofString "nothing"), V.str (Str.ofString "blank"), V.str (Str.ofString "letter"), V.str (Str.ofString "not"), V.str (Str.ofString "or"), V.str (Str.ofString "and"), V.str (Str.ofString "behind")] = true from hi] at e; cases e)]
      simp! [hr1, hat, hl]
      refine ⟨by omega, fun p2 hp2 => rInU.tupS (SqT.of upd_same) rfl (by decide) ?_⟩
      have k2 : Kp [] H1 (upd H1 p2 (.tup [V.str (Str.ofString "or"), V.str (Str.ofString "and"), V.str (Str.ofString "behind")])) := (Kp.refl [] H1).new hp2
      generalize upd H1 p2 (.tup [V.str (Str.ofString "or"), V.str (Str.ofString "and"), V.str (Str.ofString "behind")]) = H2 at k2 ⊢
      have hr2 := k2.tup _ _ hr1
      simp!
      refine ⟨.inl ⟨by decide, by decide⟩, ?_⟩
      have hc2 : (1 + if wd = Str.ofString "not" then (1 : Int) else 0) + 2 * (if inV (V.str wd) [V.str (Str.ofString "or"), V.str (Str.ofString "and"), V.str (Str.ofString "behind")] = true then 1 else 0) = 1 + (m : Int) := by rw [← hc]; omega
      rw [hc2]
      by_cases hl2 : rest.length = m
      · rw [if_neg (show ¬ (!decide (((rest.length + 1 : Nat) : Int) = 1 + (m : Int))) = true by simp; omega)]
        rw [List.length_replicate, decide_eq_true hl2, Bool.true_and, rows_all z n m rest hl2] at k
        refine rSlV.tup hr2 fun p3 H3 h3 k3 => ?_
        have e0 : cutV (V.str wd :: rest) (some 1) none = rest := by
          unfold cutV
          simp [HT.sIx]
        rw [e0] at h3
        simp! [h3]
        refine loop_tup (xs := rest) (fun i σ H' => ∃ (v3 : Option V), σ = [some (.str z), some (.ref r), some (.int n), v3] ∧ H' = H3 ∧ rest.all (isRow n) = (rest.drop i).all (isRow n)) ⟨none, rfl, rfl, rfl⟩ ?_ ?_ ?_
        · rintro i σ H' _ ⟨v3, rfl, rfl, _⟩
          exact h3
        · rintro i x σ H' hx ⟨v3, rfl, rfl, ea⟩
          have hi : i < rest.length := (List.getElem?_eq_some_iff.mp hx).1
          have ed : rest.drop i = x :: rest.drop (i + 1) := by
            rw [List.drop_eq_getElem_cons hi]
            congr 1
            rw [List.getElem?_eq_getElem hi] at hx
            exact Option.some.inj hx
          rw [ed, List.all_cons] at ea
          have kk := k1.trans (k2.trans k3)
          have no : isRow n x = false → Q (.bl false) H' := fun h => by
            have := k H' kk
            rw [ea, h, Bool.false_and] at this
            exact this
          rcases ro.at_ x (.tail _ (List.mem_of_getElem? hx)) with ⟨y, rfl, _⟩ | ⟨j, rfl⟩
          · simp!
            refine ⟨_, TyOf.str _, true, T.ss, ?_⟩
            rw [if_pos rfl]
            exact no rfl
          · simp!
            refine ⟨_, TyOf.int _, false, T.is, ?_⟩
            simp!
            refine ite2 (fun h0 => ?_) (fun h0 => no (by show (decide (0 ≤ j) && decide (j < n)) = false; rw [decide_eq_false h0]; rfl))
            by_cases h1 : j < n
            · rw [decide_eq_true h1, if_neg (by decide)]
              rw [show isRow n (.int j) = true from by show (decide (0 ≤ j) && decide (j < n)) = true; rw [decide_eq_true h0, decide_eq_true h1]; rfl, Bool.true_and] at ea
              exact ea
            · rw [decide_eq_false h1, if_pos (show (!false) = true from rfl)]
              exact no (by show (decide (0 ≤ j) && decide (j < n)) = false; rw [decide_eq_false h1, Bool.and_false])
        · rintro σ H' ⟨v3, rfl, rfl, ea⟩
          rw [List.drop_length, List.all_nil] at ea
          simp!
          have := k H' (k1.trans (k2.trans k3))
          rw [ea] at this
          exact this
      · rw [if_pos (show (!decide (((rest.length + 1 : Nat) : Int) = 1 + (m : Int))) = true by simp; omega)]
        rw [List.length_replicate, decide_eq_false hl2, Bool.false_and] at k
        exact k H2 (k1.trans k2)
    · rw [if_neg (show ¬ (if true = true then !inV (V.str (Str.ofString "letter")) [V.str (Str.ofString "nothing"), V.str (Str.ofString "blank"), V.str (Str.ofString "letter"), V.str (Str.ofString "not"), V.str (Str.ofString "or"), V.str (Str.ofString "and"), V.str (Str.ofString "behind")] else inV (V.str (Str.ofString "letter")) [V.str (Str.ofString "nothing"), V.str (Str.ofString "blank"), V.str (Str.ofString "letter"), V.str (Str.ofString "not"), V.str (Str.ofString "or"), V.str (Str.ofString "and"), V.str (Str.ofString "behind")]) = true by decide +kernel)]
      simp! [hr1, hat]
      rw [goodB_some (show frm (Str.ofString "letter") = some [Str.ofString "letter"] from rfl)] at k
      refine ite2 (fun h2 => ?_) (fun h2 => ?_)
      · match rest, h2, ro, k with
        | [v], _, ro, k =>
          have av := ro.at_ v (.tail _ (.head _))
          refine ⟨v, atI_of (by decide) rfl, by omega, fun l hl => rInU.lst upd_same av.flat (sgn_flat z) ?_⟩
          have := k _ (k1.new (o := .lst (sgn z)) hl)
          rw [show (decide (([v] : List V).length = [Str.ofString "letter"].length) && (([Str.ofString "letter"].zip [v]).all fun p => fitsB z n p.1 p.2)) = isLet z v from by simp [fitsB]] at this
          rw [← in_sgn z av] at this
          exact this
        | [], h2, _, _ => simp at h2
        | _ :: _ :: _, h2, _, _ => simp at h2; omega
      · rw [decide_eq_false (show ¬ rest.length = [Str.ofString "letter"].length by simp at h2 ⊢; omega), Bool.false_and] at k
        exact k H1 k1
    · rw [goodB_none hf] at k
      rw [if_pos (by rw [show inV (.str wd) [V.str (Str.ofString "nothing"), V.str (Str.ofString "blank"), V.str (Str.ofString "letter"), V.str (Str.ofString "not"), V.str (Str.ofString "or"), V.str (Str.ofString "and"), V.str (Str.ofString "behind")] = false from hi]; rfl)]
      exact k H1 k1
abbrev s__law_first_bad : Stmt := top 34
theorem sc__law_first_bad : FnScope ["_law_letters_here", "_law_rows", "_law_at", "_law_row"] ["_law_letters_here", "_law_rows"] (defScope s__law_first_bad) := ⟨rfl, rfl, rfl, by decide +kernel, rfl, by decide +kernel, by decide +kernel⟩
theorem ok__law_first_bad {f fg : Addr} {fd fdg : FuncData} (F : Fun K "_law_first_bad" "_law_first_bad" s__law_first_bad f fd) (T : TFB mg fg)
    (F__law_good_row : Fun K "_law_good_row" "_law_good_row" s__law_good_row fg fdg) (b__law_good_row : Binds K fdg ["_law_letters_here", "_law_row", "_law_at"] []) (G__law_good_row : FnOk P w K mg base CX0 1 fg fdg ["_law_letters_here", "_law_row", "_law_at"] spGR) : FnOk P w K mg base CX0 2 f fd ["_law_letters_here", "_law_rows"] spFB := by
  refine F.ok sc__law_first_bad (fun vs H Q E h => ?_) (fun cdv A outer s H vs Q E hr h => ?_)
  · obtain ⟨z, a, us, R, rfl, _⟩ := h
    rfl
  · obtain ⟨z, a, us, R, rfl, ha, ar, hz, hR, k⟩ := h
    have hu := hr.units
    have hsz : sizeLine = 16777216 := PySem.sizeLine_eq
    refine ⟨_, (QSs.h (qpss_cons (qps_for PassesOwn.never rfl (qpi_enumT (K := K) rfl rfl T.n_enumerate (qpa_cons (qpv 1) qpa_nil)) (qpg_tup (n := 2) rfl (qpgs_cons (qpg_name (i := 2) sc__law_first_bad.nd rfl (by first | exact Or.inl rfl | exact Or.inr rfl)) (qpgs_cons (qpg_name (i := 3) sc__law_first_bad.nd rfl (by first | exact Or.inl rfl | exact Or.inr rfl)) qpgs_nil)) (K := K) rfl) (qpss_one (qps_if (qpt_not (qpt_val (qpe_call G__law_good_row (hr.mono (by decide)) rfl T.m__law_good_row F__law_good_row.kp b__law_good_row .nil pass0 (qpa_cons (qpv 0) (qpa_cons (qpv 3) (qpa_cons (qpv 2) qpa_nil)))))) (qpss_one (qps_ret (qpv 2))) qpss_nil)))
    (qpss_one (qps_ret (qpe_ix ix_U (qpe_lst (qpa_cons (qpe_un un_neg qpe_int) (qpa_cons qpe_int qpa_nil))) (qpe_callTy call_intU (by rfl) T.n_int bt_int (qpa_cons (qpe_cmpR (op_eqU hu) (qpe_callB call_lenU (by rfl) T.n_len bt_len (qpa_cons (qpv 1) qpa_nil)) qpe_int (nomark _)) qpa_nil)) (fun _ _ => rfl)))))), ?_⟩
    have lu := ar.len
    simp! [ha]
    refine ⟨⟨us, SqT.of ha⟩, ?_⟩
    refine loop_ET (xs := us) (fun i σ H' => ∃ (v2 v3 : Option V), σ = [some (.str z), some (.ref a), v2, v3] ∧ Kp [] H H' ∧ fbF z R 0 = fbF z (R.drop i) i) ⟨none, none, rfl, Kp.refl _ _, rfl⟩ ?_ ?_ ?_
    · rintro i σ H' _ ⟨v2, v3, rfl, kp, _⟩
      exact kp.tup _ _ ha
    · rintro i x σ H' Tt hx ⟨v2, v3, rfl, kp, ew⟩ hTt
      obtain ⟨xs, t, hxs, rfl, ht, ro⟩ := ar.get hx
      refine ⟨Tt, [.int (i : Int), .ref t], rfl, SqT.of upd_same, rfl, ⟨_, _, rfl, ⟨_, _, rfl, rfl, ?_⟩⟩⟩
      have kT : Kp [] H' (upd H' Tt (.tup [.int (i : Int), .ref t])) := (Kp.refl [] H').new hTt
      generalize upd H' Tt (.tup [.int (i : Int), .ref t]) = H2 at kT ⊢
      have kp2 := kp.trans kT
      have hi : i < R.length := (List.getElem?_eq_some_iff.mp hxs).1
      have ed : R.drop i = xs :: R.drop (i + 1) := by
        rw [List.drop_eq_getElem_cons hi]
        congr 1
        rw [List.getElem?_eq_getElem hi] at hxs
        exact Option.some.inj hxs
      rw [ed, fbF] at ew
      simp!
      refine ⟨z, t, xs, (i : Int), rfl, kp2.tup _ _ ht, ro, hz, fun H3 k3 => ?_⟩
      simp!
      by_cases hg : goodB z (i : Int) xs = true
      · rw [if_pos hg] at ew
        rw [hg, if_neg (by decide)]
        exact ⟨_, _, ⟨rfl, rfl⟩, kp2.trans k3, ew⟩
      · rw [if_neg hg] at ew
        rw [show goodB z (i : Int) xs = false by simpa using hg, if_pos (show (!false) = true from rfl)]
        have hne : R ≠ [] := fun e => by subst e; simp at hi
        have := k H3 (kp2.trans k3)
        rw [show fb z R = some i from by unfold fb; rw [if_neg hne, ew]] at this
        exact this
    · rintro σ H' ⟨v2, v3, rfl, kp, ew⟩
      have ha' := kp.tup _ _ ha
      simp! [ha']
      rw [lu, List.drop_length, fbF] at ew
      refine ⟨by omega, fun p hp => ⟨us, by rw [upd_ne (ne_of_none ha' hp), ha']; rfl, ?_⟩⟩
      have := k _ (kp.new (o := .lst [V.int (-1), V.int 0]) hp)
      by_cases h0 : us.length = 0
      · rw [if_pos (show (us.length : Int) = 0 by omega)]
        rw [show fb z R = some 0 from by unfold fb; rw [if_pos (List.length_eq_zero_iff.mp (by omega))]] at this
        exact ⟨_, atI_of (by decide) rfl, this⟩
      · rw [if_neg (show ¬ (us.length : Int) = 0 by omega)]
        rw [show fb z R = none from by unfold fb; rw [if_neg (fun e => h0 (by rw [lu, e]; rfl)), ew]] at this
        exact ⟨_, atI_of (by decide) rfl, this⟩
abbrev s__law_right : Stmt := top 36
theorem sc__law_right : FnScope ["_law_letters_here", "_law_rows", "_law_found", "_law_due"] ["_law_letters_here", "_law_rows"] (defScope s__law_right) := ⟨rfl, rfl, rfl, by decide +kernel, rfl, by decide +kernel, by decide +kernel⟩
theorem ok__law_right {f fl fb' Pt : Addr} {fd fdl fdb : FuncData} (F : Fun K "_law_right" "_law_right" s__law_right f fd) (T : TRt K mg fl fb')
    (F__law_looked : Fun K "_law_looked" "_law_looked" s__law_looked fl fdl) (b__law_looked : Binds K fdl ["_law_letters_here", "_law_rows"] []) (G__law_looked : FnOk P w K mg base CX0 7 fl fdl ["_law_letters_here", "_law_rows"] (spHe Pt))
    (F__law_first_bad : Fun K "_law_first_bad" "_law_first_bad" s__law_first_bad fb' fdb) (b__law_first_bad : Binds K fdb ["_law_letters_here", "_law_rows"] []) (G__law_first_bad : FnOk P w K mg base CX0 2 fb' fdb ["_law_letters_here", "_law_rows"] spFB) : FnOk P w K mg base CX0 8 f fd ["_law_letters_here", "_law_rows"] (spRt Pt) := by
  refine F.ok sc__law_right (fun vs H Q E h => ?_) (fun cdv A outer s H vs Q E hr h => ?_)
  · obtain ⟨z, a, us, R, rfl, _⟩ := h
    rfl
  · obtain ⟨z, a, us, R, rfl, ha, ar, hz, hR, tb, k⟩ := h
    have hu := hr.units
    have hsz : sizeLine = 16777216 := PySem.sizeLine_eq
    refine ⟨_, (QSs.h (qpss_cons (qps_set (i := 2) sc__law_right.nd rfl (by first | exact Or.inl rfl | exact Or.inr rfl) (qpe_call G__law_looked (hr.mono (by decide)) rfl T.m__law_looked F__law_looked.kp b__law_looked .nil pass0 (qpa_cons (qpv 0) (qpa_cons (qpv 1) qpa_nil))))
    (qpss_cons (qps_set (i := 3) sc__law_right.nd rfl (by first | exact Or.inl rfl | exact Or.inr rfl) (qpe_call G__law_first_bad (hr.mono (by decide)) rfl T.m__law_first_bad F__law_first_bad.kp b__law_first_bad .nil pass0 (qpa_cons (qpv 0) (qpa_cons (qpv 1) qpa_nil))))
    (qpss_cons (qps_if (qpt_cmpR op_ltU (qpv 3) qpe_int (nomark _)) (qpss_one (qps_ret (qpe_cmpR op_isT (qpv 2) qpe_bl (nomark _)))) qpss_nil)
    (qpss_cons (qps_if (QW.pt (qpw_or (qpt_not (qpt_val (qpe_callB (call_isinstanceK (K := K) rfl) (by rfl) T.n_isinstance bt_isinstance (qpa_cons (qpv 2) (qpa_cons (qpe_bltn (v := .ty "tuple") rfl T.n_tuple bt_tuple rfl) qpa_nil))))) (qpw_or1 (qpt_val (qpe_callB (call_isinstanceK (K := K) rfl) (by rfl) T.n_isinstance bt_isinstance (qpa_cons (qpe_ix ix_U (qpv 2) qpe_int (fun _ _ => rfl)) (qpa_cons (qpe_bltn (v := .ty "bool") rfl T.n_bool bt_bool rfl) qpa_nil))))))) (qpss_one (qps_ret qpe_bl)) qpss_nil)
    (qpss_one (qps_ret (qpe_cmpR (op_eqU hu) (qpv 2) (qpe_tup (qpa_cons (qpv 3) (qpa_cons qpe_bl (qpa_cons qpe_bl qpa_nil)))) (nomark _))))))))), ?_⟩
    simp!
    refine ⟨z, a, us, R, rfl, ha, ar, hz, hR, tb, fun v H1 hv k1 tb1 => ?_⟩
    refine ⟨z, a, us, R, rfl, k1.tup _ _ ha, ar.kp k1, hz, hR, fun H2 k2 => ?_⟩
    cases hf : fb z R with
    | none =>
      rw [hf] at hv
      cases hv
      simp!
      rw [if_pos (show dueI none < 0 by decide)]
      exact k H2 (k1.trans (k2.mono (by simp))) (tb1.kp k2 (by simp) (by simp))
    | some i =>
      rw [hf] at hv
      obtain ⟨q, rfl, hq⟩ := hv
      simp!
      have hq2 := k2.tup _ _ hq
      rw [if_neg (show ¬ dueI (some i) < 0 by show ¬ (i : Int) < 0; omega)]
      refine ⟨_, TyOf.tup hq2, true, T.tt, ?_⟩
      rw [if_neg (by decide)]
      refine ⟨_, by rw [hq2]; rfl, _, atI_of (by decide) rfl, _, TyOf.int _, false, T.ib, ?_⟩
      rw [if_neg (by decide)]
      refine ⟨by omega, fun p hp => ?_⟩
      have k3 : Kp [] H2 (upd H2 p (.tup [V.int (dueI (some i)), V.bl true, V.bl true])) := (Kp.refl [] H2).new hp
      refine ⟨.tuple [.int (i : Int), .bool true, .bool true], .tuple [.int (i : Int), .bool true, .bool true], ⟨q, _, rfl, k3.tup _ _ hq2, by simp [Reps, Rep]⟩, ⟨p, _, rfl, upd_same, by simp [Reps, Rep, dueI]⟩, rfl, rfl, ?_⟩
      rw [show PyData.eqv (.tuple [.int (i : Int), .bool true, .bool true]) (.tuple [.int (i : Int), .bool true, .bool true]) = true from by simp [PyData.eqv, PyData.eqvAll]]
      exact k _ (k1.trans ((k2.trans k3).mono (by simp))) (tb1.kp (k2.trans k3) (by simp) (by simp))
end
def spRowAt : Sp := fun vs H Q _ => ∃ (b : Addr) (m : Int) (o : HO), vs = [.ref b, .int m] ∧ H b = some o ∧ BoxO o ∧ 1 ≤ m ∧ m ≤ 1000 ∧ ∀ d o' H', 0 ≤ d → d < m → BoxO o' → H' b = some o' → Kp [b] H H' → Q (.int d) H'
theorem BoxO.lst {o : HO} (h : BoxO o) : ∃ xs, o = .lst xs := by obtain ⟨c, s, e, _⟩ := h; exact ⟨_, e⟩
section
variable {P : Program} {w : World} {K : PySem.W.Frag} {mg : Str → Option Value} {base : Heap}
structure TRow (mg : Str → Option Value) (ft : Addr) : Prop where
  m__law_take : mg "_law_take" = some (.ref ft)
abbrev s__law_row_at : Stmt := top 26
theorem sc__law_row_at : FnScope ["_law_box_here", "_law_k"] ["_law_box_here", "_law_k"] (defScope s__law_row_at) := ⟨rfl, rfl, rfl, by decide +kernel, rfl, by decide +kernel, by decide +kernel⟩
theorem ok__law_row_at {f ft : Addr} {fd fdt : FuncData} (F : Fun K "_law_row_at" "_law_row_at" s__law_row_at f fd) (T : TRow mg ft) (F__law_take : Fun K "_law_take" "_law_take" s__law_take ft fdt) (b__law_take : Binds K fdt ["_law_box_here", "_law_wide"] [])
    (G__law_take : FnOk P w K mg base CX0 1 ft fdt ["_law_box_here", "_law_wide"] spTake) : FnOk P w K mg base CX0 2 f fd ["_law_box_here", "_law_k"] spRowAt := by
  refine F.ok sc__law_row_at (fun vs H Q E h => ?_) (fun cdv A outer s H vs Q E hr h => ?_)
  · obtain ⟨b, m, o, rfl, _⟩ := h
    rfl
  · obtain ⟨b, m, o, rfl, hb, ho, m1, m2, k⟩ := h
    refine ⟨_, (QSs.h (qpss_one (qps_ret (qpe_ix ix_U (qpe_lst (qpa_cons (qpe_op op_sub (qpv 1) qpe_int) (qpa_cons (qpe_call G__law_take (hr.mono (by decide)) rfl T.m__law_take F__law_take.kp b__law_take .nil pass0 (qpa_cons (qpv 0) (qpa_cons (qpv 1) qpa_nil))) qpa_nil))) (qpe_call G__law_take (hr.mono (by decide)) rfl T.m__law_take F__law_take.kp b__law_take .nil pass0 (qpa_cons (qpv 0) (qpa_cons qpe_int qpa_nil))) (fun _ _ => rfl))))), ?_⟩
    have hsz : sizeLine = 16777216 := PySem.sizeLine_eq
    simp!
    refine ⟨b, m, o, rfl, hb, ho, by omega, by omega, fun d o1 d0 d1 ho1 => ?_⟩
    refine ⟨by omega, fun p hp => ?_⟩
    have nbp : b ≠ p := ne_of_none upd_same hp
    obtain ⟨xs0, rfl⟩ := ho.lst
    obtain ⟨xs1, rfl⟩ := id ho1.lst
    refine ⟨b, 2, _, rfl, by rw [upd_ne nbp, upd_same], ho1, by omega, by omega, fun e o2 e0 e1 ho2 => ?_⟩
    have hp2 : upd (upd (upd H b (.lst xs1)) p (.lst [V.int (m - 1), V.int d])) b o2 p = some (.lst [V.int (m - 1), V.int d]) := by rw [upd_ne nbp.symm, upd_same]
    simp! [hp2]
    have kp : Kp [b] H (upd (upd (upd H b (.lst xs1)) p (.lst [V.int (m - 1), V.int d])) b o2) := ((((Kp.refl [b] H).set hb (.inl (by simp))).new hp).set (by rw [upd_ne nbp, upd_same]) (.inl (by simp)))
    have : e = 0 ∨ e = 1 := by omega
    rcases this with rfl | rfl
    · exact ⟨_, atI_0 _ _, k _ o2 _ (by omega) (by omega) ho2 upd_same kp⟩
    · exact ⟨_, atI_1 _ _ _, k _ o2 _ d0 d1 ho2 upd_same kp⟩
end
theorem exQ {X : Cx} {ss : List Stmt} {t : TS} {D : Ends} {σ : L2.St} {H : Hp} (h : QSs X ss t) (q : t D σ H) : ∃ t, PSs X ss t ∧ t D σ H := ⟨t, h.h, q⟩
structure SB (H : Hp) (b : Addr) (H' : Hp) : Prop where
  kp : Kp [b] H H'
  bx : ∃ o, H' b = some o ∧ BoxO o
theorem SB.take {H H' : Hp} {b : Addr} {o1 : HO} (h : SB H b H') (ho1 : BoxO o1) : SB H b (upd H' b o1) := by
  obtain ⟨kp, o, hb, ho⟩ := h
  obtain ⟨xs, rfl⟩ := ho.lst
  exact ⟨kp.set hb (.inl (by simp)), o1, upd_same, ho1⟩
theorem SB.new {H H' : Hp} {b p : Addr} {x : HO} (h : SB H b H') (hp : H' p = none) : SB H b (upd H' p x) := by
  obtain ⟨kp, o, hb, ho⟩ := h
  exact ⟨kp.new hp, o, by rw [upd_ne (ne_of_none hb hp)]; exact hb, ho⟩
theorem SB.keep {H H' H2 : Hp} {b : Addr} (h : SB H b H') (k : Kp [] H' H2) : SB H b H2 := by
  obtain ⟨kp, o, hb, ho⟩ := h
  exact ⟨kp.trans (k.mono (by simp)), o, k.old _ _ hb (by simp), ho⟩
theorem SB.trans {H H' H2 : Hp} {b : Addr} (h : SB H b H') (k : SB H' b H2) : SB H b H2 := ⟨h.kp.trans k.kp, k.bx⟩
theorem SB.tk {H H' : Hp} {b : Addr} (h : SB H b H') {w : Int} (w0 : 0 < w) (w1 : w < 1073741824) {Q : VK} {E : XK} (q : ∀ d o, 0 ≤ d → d < w → BoxO o → SB H b (upd H' b o) → Q (.int d) (upd H' b o)) : spTake [.ref b, .int w] H' Q E := by
  obtain ⟨o, hb, ho⟩ := h.bx
  exact ⟨b, w, o, rfl, hb, ho, w0, w1, fun d o' d0 d1 ho' => q d o' d0 d1 ho' (h.take ho')⟩
theorem SB.tq {H H' : Hp} {b : Addr} (h : SB H b H') {w : Int} (w0 : 0 < w) (w1 : w < 1073741824) {Q : VK} {E : XK} (q : ∀ d H2, 0 ≤ d → d < w → SB H b H2 → Kp [b] H' H2 → Q (.int d) H2) : spTake [.ref b, .int w] H' Q E := by
  obtain ⟨o, hb, ho⟩ := h.bx
  refine ⟨b, w, o, rfl, hb, ho, w0, w1, fun d o' d0 d1 ho' => q d _ d0 d1 (h.take ho') ?_⟩
  obtain ⟨xs, rfl⟩ := ho.lst
  exact (Kp.refl [b] H').set hb (.inl (by simp))
theorem SB.ne {H H' : Hp} {b p : Addr} (h : SB H b H') (hp : H' p = none) : p ≠ b := by
  obtain ⟨o, hb, _⟩ := h.bx
  exact (ne_of_none hb hp).symm
theorem at_any {l : List V} {M : V → Prop} (h : ∀ v ∈ l, M v) {d : Int} (d0 : 0 ≤ d) (d1 : d < (l.length : Int)) : ∃ v, atI l d = some v ∧ M v := by
  have hd : d.toNat < l.length := by omega
  exact ⟨l[d.toNat], atI_of d0 (List.getElem?_eq_getElem hd), h _ (List.getElem_mem hd)⟩
theorem cut_len (x : Str) (lo hi : Option Int) : (cutS x lo hi).length ≤ x.length := by
  rw [← sg_len, ← sg_len]
  simp [cutS, sg]
  try omega
theorem up_len : ∀ c < 123, 97 ≤ c → (Txt.upper ⟨#[c]⟩).length = 1 := by decide +kernel
def ShS (v : V) : Prop := ∃ y : Str, v = .str y ∧ y.length ≤ 100
theorem At.s {z : Str} (h : z.length ≤ 100) : At (.str z) := .inl ⟨z, rfl, h⟩
theorem At.i (i : Int) : At (.int i) := .inr ⟨i, rfl⟩
def spBW : Sp := fun vs H Q _ => ∃ (b : Addr) (x : Str), vs = [.ref b, .str x] ∧ SB H b H ∧ 1 ≤ x.length ∧ x.length ≤ 20 ∧ ∀ (y : Str) H', y.length ≤ 100 → SB H b H' → Q (.str y) H'
def spBS : Sp := fun vs H Q _ => ∃ (b : Addr) (z : Str), vs = [.ref b, .str z] ∧ SB H b H ∧ Letters z 4 ∧ ∀ v H', At v → SB H b H' → Q v H'
def spBN : Sp := fun vs H Q _ => ∃ (b : Addr) (z : Str) (n : Nat), vs = [.ref b, .str z, .int (n : Int)] ∧ SB H b H ∧ 1 ≤ z.length ∧ z.length ≤ 4 ∧ n ≤ 100 ∧ ∀ v H', At v → SB H b H' → Q v H'
structure TBd (mg : Str → Option Value) (ft : Addr) : Prop where
  n_len : mg "len" = none
  m__law_take : mg "_law_take" = some (.ref ft)
section
variable {P : Program} {w : World} {K : PySem.W.Frag} {mg : Str → Option Value} {base : Heap}
abbrev s__law_bad_word : Stmt := top 28
theorem sc__law_bad_word : FnScope ["_law_box_here", "_law_word", "_law_others", "_law_at"] ["_law_box_here", "_law_word"] (defScope s__law_bad_word) := ⟨rfl, rfl, rfl, by decide +kernel, rfl, by decide +kernel, by decide +kernel⟩
theorem ok__law_bad_word {f ft : Addr} {fd fdt : FuncData} (F : Fun K "_law_bad_word" "_law_bad_word" s__law_bad_word f fd) (T : TBd mg ft) (F__law_take : Fun K "_law_take" "_law_take" s__law_take ft fdt) (b__law_take : Binds K fdt ["_law_box_here", "_law_wide"] [])
    (G__law_take : FnOk P w K mg base CX0 1 ft fdt ["_law_box_here", "_law_wide"] spTake) : FnOk P w K mg base CX0 2 f fd ["_law_box_here", "_law_word"] spBW := by
  refine F.ok sc__law_bad_word (fun vs H Q E h => ?_) (fun cdv A outer s H vs Q E hr h => ?_)
  · obtain ⟨b, x, rfl, _⟩ := h
    rfl
  · obtain ⟨b, x, rfl, sb, x1, x2, k⟩ := h
    have hu := hr.units
    have hsz : sizeLine = 16777216 := PySem.sizeLine_eq
    refine exQ (qpss_cons (qps_set (i := 2) sc__law_bad_word.nd rfl (by first | exact Or.inl rfl | exact Or.inr rfl) (qpe_lst (qpa_cons qpe_str (qpa_cons qpe_str (qpa_cons qpe_str (qpa_cons qpe_str (qpa_cons qpe_str (qpa_cons qpe_str (qpa_cons qpe_str (qpa_cons qpe_str (qpa_cons qpe_str (qpa_cons qpe_str (qpa_cons qpe_str (qpa_cons qpe_str (qpa_cons qpe_str qpa_nil se_Constant) se_Constant) se_Constant) se_Constant) se_Constant) se_Constant) se_Constant) se_Constant) se_Constant) se_Constant) se_Constant) se_Constant) se_Constant)))
    (qpss_cons (qps_set (i := 3) sc__law_bad_word.nd rfl (by first | exact Or.inl rfl | exact Or.inr rfl) (qpe_call G__law_take (hr.mono (by decide)) rfl T.m__law_take F__law_take.kp b__law_take .nil pass0 (qpa_cons (qpv 0) (qpa_cons (qpe_callB call_lenU (by rfl) T.n_len bt_len (qpa_cons (qpv 1) qpa_nil)) qpa_nil))))
    (qpss_one (qps_ret (qpe_ix ix_U (qpe_lst (qpa_cons (qpe_op op_addW (qpe_slice (sl_UK (K := K) rfl) (qpv 1) qpo_none (qpo_some (qpv 3))) (qpe_slice (sl_UK (K := K) rfl) (qpv 1) (qpo_some (qpe_op op_addW (qpv 3) qpe_int)) qpo_none)) (qpa_cons (qpe_op op_addW (qpv 1) (qpe_ix ix_U (qpv 1) (qpv 3) (fun _ _ => rfl))) (qpa_cons (qpe_ix ix_U (qpv 2) (qpe_call G__law_take (hr.mono (by decide)) rfl T.m__law_take F__law_take.kp b__law_take .nil pass0 (qpa_cons (qpv 0) (qpa_cons qpe_int qpa_nil))) (fun _ _ => rfl)) qpa_nil)))) (qpe_call G__law_take (hr.mono (by decide)) rfl T.m__law_take F__law_take.kp b__law_take .nil pass0 (qpa_cons (qpv 0) (qpa_cons qpe_int qpa_nil))) (fun _ _ => rfl)))))) ?_
    simp!
    refine ⟨by omega, fun p hp => ⟨by omega, (sb.new hp).tk (by omega) (by omega) fun d o1 d0 d1 ho1 sb1 => ?_⟩⟩
    have np := sb.ne hp
    have hp1 := fun (x : HO) => (upd_ne (H := upd H p x) (o := o1) np).trans upd_same
    have hp1' := hp1 (.lst [V.str (Str.ofString ""), V.str (Str.ofString "no"), V.str (Str.ofString "Not"), V.str (Str.ofString "xor"), V.str (Str.ofString "blank "), V.str (Str.ofString "letters"), V.str (Str.ofString "Nothing"), V.str (Str.ofString "behin"), V.str (Str.ofString "is"), V.str (Str.ofString "some"), V.str (Str.ofString "yes"), V.str (Str.ofString "ahead"), V.str (Str.ofString "either")])
    have oth : ∀ v ∈ [V.str (Str.ofString ""), V.str (Str.ofString "no"), V.str (Str.ofString "Not"), V.str (Str.ofString "xor"), V.str (Str.ofString "blank "), V.str (Str.ofString "letters"), V.str (Str.ofString "Nothing"), V.str (Str.ofString "behin"), V.str (Str.ofString "is"), V.str (Str.ofString "some"), V.str (Str.ofString "yes"), V.str (Str.ofString "ahead"), V.str (Str.ofString "either")], ShS v := by
      intro v hv
      simp only [List.mem_cons, List.not_mem_nil, or_false] at hv
      rcases hv with rfl | rfl | rfl | rfl | rfl | rfl | rfl | rfl | rfl | rfl | rfl | rfl | rfl <;> exact ⟨_, rfl, by decide +kernel⟩
    clear hp1
    generalize upd (upd H p (.lst [V.str (Str.ofString ""), V.str (Str.ofString "no"), V.str (Str.ofString "Not"), V.str (Str.ofString "xor"), V.str (Str.ofString "blank "), V.str (Str.ofString "letters"), V.str (Str.ofString "Nothing"), V.str (Str.ofString "behin"), V.str (Str.ofString "is"), V.str (Str.ofString "some"), V.str (Str.ofString "yes"), V.str (Str.ofString "ahead"), V.str (Str.ofString "either")])) b o1 = H2 at sb1 hp1' ⊢
    have l13 : ([V.str (Str.ofString ""), V.str (Str.ofString "no"), V.str (Str.ofString "Not"), V.str (Str.ofString "xor"), V.str (Str.ofString "blank "), V.str (Str.ofString "letters"), V.str (Str.ofString "Nothing"), V.str (Str.ofString "behin"), V.str (Str.ofString "is"), V.str (Str.ofString "some"), V.str (Str.ofString "yes"), V.str (Str.ofString "ahead"), V.str (Str.ofString "either")] : List V).length = 13 := rfl
    generalize [V.str (Str.ofString ""), V.str (Str.ofString "no"), V.str (Str.ofString "Not"), V.str (Str.ofString "xor"), V.str (Str.ofString "blank "), V.str (Str.ofString "letters"), V.str (Str.ofString "Nothing"), V.str (Str.ofString "behin"), V.str (Str.ofString "is"), V.str (Str.ofString "some"), V.str (Str.ofString "yes"), V.str (Str.ofString "ahead"), V.str (Str.ofString "either")] = ol at hp1' oth l13
    simp!
    have hc1 := cut_len x none (some d)
    have hc2 := cut_len x (some (d + 1)) none
    have hxl : x.cps.toList.length = x.length := by simp [Str.length]
    refine ⟨by omega, by omega, by omega, by omega, x.cps.toList[d.toNat]'(by omega), atI_of d0 (by simp), ?_⟩
    generalize x.cps.toList[d.toNat]'(by omega) = c
    have lc : (⟨#[c]⟩ : Str).length = 1 := rfl
    refine ⟨by omega, sb1.tk (by omega) (by omega) fun e o2 e0 e1 ho2 sb2 => ?_⟩
    have hp2 : upd H2 b o2 p = some (.lst ol) := by rw [upd_ne np]; exact hp1'
    obtain ⟨v, av, y, rfl, hy⟩ := at_any oth e0 (by omega)
    simp! [hp2]
    refine ⟨_, av, by omega, fun q hq => (sb2.new hq).tk (by omega) (by omega) fun g o3 g0 g1 ho3 sb3 => ?_⟩
    have nq := sb2.ne hq
    have hq3 := (upd_ne (H := upd (upd H2 b o2) q (.lst [V.str (cutS x none (some d) ++ cutS x (some (d + 1)) none), V.str (x ++ ⟨#[c]⟩), V.str y])) (o := o3) nq).trans upd_same
    simp! [hq3]
    obtain ⟨v, av, y', rfl, hy'⟩ := at_any (l := [V.str (cutS x none (some d) ++ cutS x (some (d + 1)) none), V.str (x ++ ⟨#[c]⟩), V.str y]) (M := ShS) (fun v hv => by
      simp only [List.mem_cons, List.not_mem_nil, or_false] at hv
      rcases hv with rfl | rfl | rfl
      · exact ⟨_, rfl, by rw [apl]; omega⟩
      · exact ⟨_, rfl, by rw [apl]; omega⟩
      · exact ⟨_, rfl, hy⟩) g0 (by simpa using g1)
    exact ⟨_, av, k y' _ hy' sb3⟩
abbrev s__law_bad_sign : Stmt := top 29
theorem sc__law_bad_sign : FnScope ["_law_box_here", "_law_letters_here", "_law_sign", "_law_first", "_law_some"] ["_law_box_here", "_law_letters_here"] (defScope s__law_bad_sign) := ⟨rfl, rfl, rfl, by decide +kernel, rfl, by decide +kernel, by decide +kernel⟩
theorem ok__law_bad_sign {f ft : Addr} {fd fdt : FuncData} (F : Fun K "_law_bad_sign" "_law_bad_sign" s__law_bad_sign f fd) (T : TBd mg ft) (F__law_take : Fun K "_law_take" "_law_take" s__law_take ft fdt) (b__law_take : Binds K fdt ["_law_box_here", "_law_wide"] [])
    (G__law_take : FnOk P w K mg base CX0 1 ft fdt ["_law_box_here", "_law_wide"] spTake) : FnOk P w K mg base CX0 2 f fd ["_law_box_here", "_law_letters_here"] spBS := by
  refine F.ok sc__law_bad_sign (fun vs H Q E h => ?_) (fun cdv A outer s H vs Q E hr h => ?_)
  · obtain ⟨b, z, rfl, _⟩ := h
    rfl
  · obtain ⟨b, z, rfl, sb, hz, k⟩ := h
    have hu := hr.units
    have hsz : sizeLine = 16777216 := PySem.sizeLine_eq
    refine exQ (qpss_cons (qps_set (i := 2) sc__law_bad_sign.nd rfl (by first | exact Or.inl rfl | exact Or.inr rfl) (qpe_ix ix_U qpe_str (qpe_call G__law_take (hr.mono (by decide)) rfl T.m__law_take F__law_take.kp b__law_take .nil pass0 (qpa_cons (qpv 0) (qpa_cons qpe_int qpa_nil))) (fun _ _ => rfl)))
    (qpss_mid (qps_if (qpt_cmpR (op_inU (K := K) rfl) (qpv 2) (qpv 1) (by with_unfolding_all rfl)) (qpss_one (qps_set (i := 2) sc__law_bad_sign.nd rfl (by first | exact Or.inl rfl | exact Or.inr rfl) (qpe_up (qpv 2)))) qpss_nil)
    (qpss_cons (qps_set (i := 3) sc__law_bad_sign.nd rfl (by first | exact Or.inl rfl | exact Or.inr rfl) (qpe_ix ix_U (qpv 1) qpe_int (fun _ _ => rfl)))
    (qpss_cons (qps_set (i := 4) sc__law_bad_sign.nd rfl (by first | exact Or.inl rfl | exact Or.inr rfl) (qpe_lst (qpa_cons (qpv 2) (qpa_cons qpe_str (qpa_cons (qpe_op op_addW (qpv 1) (qpv 3)) (qpa_cons (qpe_op op_mulS (qpv 3) qpe_int) (qpa_cons (qpe_up (qpv 3)) (qpa_cons qpe_str (qpa_cons qpe_str (qpa_cons qpe_int (qpa_cons (qpe_slice (sl_UK (K := K) rfl) (qpv 1) qpo_none (qpo_some qpe_int)) (qpa_cons (qpe_slice (sl_UK (K := K) rfl) (qpv 1) (qpo_some qpe_int) qpo_none) (qpa_cons (qpv 1) qpa_nil se_Name) se_Subscript) se_Subscript) se_Constant) se_Constant) se_Constant) se_Call) se_BinOp) se_BinOp) se_Constant) se_Name)))
    (qpss_one (qps_ret (qpe_ix ix_U (qpv 4) (qpe_call G__law_take (hr.mono (by decide)) rfl T.m__law_take F__law_take.kp b__law_take .nil pass0 (qpa_cons (qpv 0) (qpa_cons qpe_int qpa_nil))) (fun _ _ => rfl)))))))) ?_
    simp!
    refine sb.tq (by omega) (by omega) fun d H1 d0 d1 sb1 k1 => ?_
    have la : (Str.ofString "abcdefghijklmnopqrstuvwxyz").length = 26 := by decide +kernel
    have l26 : (Str.ofString "abcdefghijklmnopqrstuvwxyz").cps.toList.length = 26 := by simpa [Str.length] using la
    have az : ∀ c ∈ (Str.ofString "abcdefghijklmnopqrstuvwxyz").cps.toList, 97 ≤ c ∧ c ≤ 122 := by decide +kernel
    have hdl : d.toNat < (Str.ofString "abcdefghijklmnopqrstuvwxyz").cps.toList.length := by omega
    have hzl : z.cps.toList.length = z.length := by simp [Str.length]
    have z1 := hz.lo
    have z2 := hz.hi
    simp!
    refine ⟨by omega, _, atI_of d0 (List.getElem?_eq_getElem hdl), ?_⟩
    obtain ⟨c97, c122⟩ := az _ (List.getElem_mem hdl)
    generalize (Str.ofString "abcdefghijklmnopqrstuvwxyz").cps.toList[d.toNat] = c at c97 c122 ⊢
    have ul := up_len c (by omega) c97
    refine ⟨fun σ H' => ∃ y : Str, y.length = 1 ∧ H' = H1 ∧ σ = [some (.ref b), some (.str z), some (.str y), none, none], ?_, ?_⟩
    · simp!
      refine ite2 (fun _ => ?_) (fun _ => ?_)
      · exact ⟨by rw [ul]; decide, _, ul, rfl⟩
      · exact ⟨_, rfl, rfl⟩
    · rintro σ H' ⟨y, hy, rfl, rfl⟩
      simp!
      have h0 : 0 < z.cps.toList.length := by omega
      refine ⟨by omega, _, atI_of (by decide) (List.getElem?_eq_getElem h0), ?_⟩
      obtain ⟨e97, e122⟩ := hz.az _ (List.getElem_mem h0)
      generalize z.cps.toList[0] = e at e97 e122 ⊢
      have ue := up_len e (by omega) e97
      have le : (⟨#[e]⟩ : Str).length = 1 := rfl
      have l2 : (⟨List.foldl (fun x1 x2 => x1 ++ x2) #[] (List.replicate (Int.toNat 2) #[e])⟩ : Str).length = 2 := rfl
      have hc1 := cut_len z none (some 2)
      have hc2 := cut_len z (some 1) none
      refine ⟨by omega, by decide, by omega, by rw [le]; decide, by omega, by rw [ue]; decide, by omega, by omega, by omega, fun q hq => (sb1.new hq).tq (by omega) (by omega) fun g H3 g0 g1 sb3 k3 => ?_⟩
      have nq := sb1.ne hq
      have hq3 := k3.old _ _ upd_same (by simpa using nq)
      simp! [hq3]
      obtain ⟨v, av, hv⟩ := at_any (l := [V.str y, V.str (Str.ofString ""), V.str (z ++ (⟨#[e]⟩ : Str)), V.str ⟨List.foldl (fun x1 x2 => x1 ++ x2) #[] (List.replicate (Int.toNat 2) #[e])⟩, V.str (Txt.upper ⟨#[e]⟩), V.str (Str.ofString " "), V.str (Str.ofString "1"), V.int 0, V.str (cutS z none (some 2)), V.str (cutS z (some 1) none), V.str z]) (M := At) (fun v hv => by
        simp only [List.mem_cons, List.not_mem_nil, or_false] at hv
        rcases hv with rfl | rfl | rfl | rfl | rfl | rfl | rfl | rfl | rfl | rfl | rfl
        · exact .s (by omega)
        · exact .s (by decide +kernel)
        · exact .s (by rw [apl]; omega)
        · exact .s (by omega)
        · exact .s (by omega)
        · exact .s (by decide +kernel)
        · exact .s (by decide +kernel)
        · exact .i _
        · exact .s (by omega)
        · exact .s (by omega)
        · exact .s (by omega)) g0 (by simpa using g1)
      exact ⟨_, av, k v _ hv sb3⟩
abbrev s__law_bad_number : Stmt := top 30
theorem sc__law_bad_number : FnScope ["_law_box_here", "_law_letters_here", "_law_at", "_law_some"] ["_law_box_here", "_law_letters_here", "_law_at"] (defScope s__law_bad_number) := ⟨rfl, rfl, rfl, by decide +kernel, rfl, by decide +kernel, by decide +kernel⟩
theorem ok__law_bad_number {f ft : Addr} {fd fdt : FuncData} (F : Fun K "_law_bad_number" "_law_bad_number" s__law_bad_number f fd) (T : TBd mg ft) (F__law_take : Fun K "_law_take" "_law_take" s__law_take ft fdt) (b__law_take : Binds K fdt ["_law_box_here", "_law_wide"] [])
    (G__law_take : FnOk P w K mg base CX0 1 ft fdt ["_law_box_here", "_law_wide"] spTake) : FnOk P w K mg base CX0 2 f fd ["_law_box_here", "_law_letters_here", "_law_at"] spBN := by
  refine F.ok sc__law_bad_number (fun vs H Q E h => ?_) (fun cdv A outer s H vs Q E hr h => ?_)
  · obtain ⟨b, z, n, rfl, _⟩ := h
    rfl
  · obtain ⟨b, z, n, rfl, sb, z1, z2, n1, k⟩ := h
    have hu := hr.units
    have hsz : sizeLine = 16777216 := PySem.sizeLine_eq
    refine exQ (qpss_cons (qps_set (i := 3) sc__law_bad_number.nd rfl (by first | exact Or.inl rfl | exact Or.inr rfl) (qpe_lst (qpa_cons (qpv 2) (qpa_cons (qpe_op op_addW (qpe_op op_addW (qpv 2) qpe_int) (qpe_call G__law_take (hr.mono (by decide)) rfl T.m__law_take F__law_take.kp b__law_take .nil pass0 (qpa_cons (qpv 0) (qpa_cons qpe_int qpa_nil)))) (qpa_cons (qpe_op op_sub (qpe_un un_neg qpe_int) (qpe_call G__law_take (hr.mono (by decide)) rfl T.m__law_take F__law_take.kp b__law_take .nil pass0 (qpa_cons (qpv 0) (qpa_cons qpe_int qpa_nil)))) (qpa_cons (qpe_op op_addW (qpe_op op_pow qpe_int qpe_int) (qpv 2)) (qpa_cons (qpe_un un_neg qpe_int) (qpa_cons qpe_str (qpa_cons qpe_str (qpa_cons (qpe_ix ix_U (qpv 1) qpe_int (fun _ _ => rfl)) qpa_nil se_Subscript) se_Constant) se_Constant) se_UnaryOp) se_BinOp) se_BinOp) se_BinOp) se_Name)))
    (qpss_one (qps_ret (qpe_ix ix_U (qpv 3) (qpe_call G__law_take (hr.mono (by decide)) rfl T.m__law_take F__law_take.kp b__law_take .nil pass0 (qpa_cons (qpv 0) (qpa_cons qpe_int qpa_nil))) (fun _ _ => rfl))))) ?_
    simp!
    refine sb.tq (by omega) (by omega) fun d H1 d0 d1 sb1 k1 => ?_
    simp!
    refine sb1.tq (by omega) (by omega) fun e H2 e0 e1 sb2 k2 => ?_
    simp!
    have hzl : z.cps.toList.length = z.length := by simp [Str.length]
    refine ⟨⟨by decide, by decide, by decide⟩, by omega, z.cps.toList[0]'(by omega), atI_of (by decide) (by simp), ?_⟩
    generalize z.cps.toList[0]'(by omega) = c
    refine ⟨by omega, fun q hq => (sb2.new hq).tq (by omega) (by omega) fun g H3 g0 g1 sb3 k3 => ?_⟩
    have nq := sb2.ne hq
    have hq3 := k3.old _ _ upd_same (by simpa using nq)
    simp! [hq3]
    obtain ⟨v, av, hv⟩ := at_any (l := [V.int (n : Int), V.int ((n : Int) + 1 + d), V.int (-1 - e), V.int (10 ^ Int.toNat 20 + (n : Int)), V.int (-1), V.str (Str.ofString ""), V.str (Str.ofString "0"), V.str ⟨#[c]⟩]) (M := At) (fun v hv => by
      simp only [List.mem_cons, List.not_mem_nil, or_false] at hv
      rcases hv with rfl | rfl | rfl | rfl | rfl | rfl | rfl | rfl
      · exact .i _
      · exact .i _
      · exact .i _
      · exact .i _
      · exact .i _
      · exact .s (by decide +kernel)
      · exact .s (by decide +kernel)
      · exact .s (by show 1 ≤ 100; decide)) g0 (by simpa using g1)
    exact ⟨_, av, k v _ hv sb3⟩
end
theorem RowO.cons {z : Str} {r : List V} (h : z.length ≤ 100) (hr : ∀ v ∈ r, At v) (hl : r.length ≤ 19) : RowO (.str z :: r) := ⟨by simp; omega, fun v hv => by
  rcases List.mem_cons.mp hv with rfl | hv
  · exact .s h
  · exact hr v hv, .inr ⟨z, r, rfl⟩⟩
theorem erow_ok {r : RE} {k : Nat} (h : r.ok k) : ∃ z rest, erowV r = .str z :: rest ∧ 1 ≤ z.length ∧ z.length ≤ 20 ∧ rest.length ≤ 2 ∧ ∀ v ∈ rest, At v := by
  cases r with
  | nothing => exact ⟨_, [], rfl, by decide +kernel, by decide +kernel, by simp, fun _ h => nomatch h⟩
  | blank => exact ⟨_, [], rfl, by decide +kernel, by decide +kernel, by simp, fun _ h => nomatch h⟩
  | letter a =>
    have ha : a.length = 1 := h
    exact ⟨_, [.str a], rfl, by decide +kernel, by decide +kernel, by simp, fun v hv => by cases List.mem_singleton.mp hv; exact .s (by omega)⟩
  | no i => exact ⟨_, [.int (i : Int)], rfl, by decide +kernel, by decide +kernel, by simp, fun v hv => by cases List.mem_singleton.mp hv; exact .i _⟩
  | bin w i j =>
    refine ⟨ew w, [.int (i : Int), .int (j : Int)], rfl, by cases w <;> decide +kernel, by cases w <;> decide +kernel, by simp, fun v hv => ?_⟩
    simp only [List.mem_cons, List.not_mem_nil, or_false] at hv
    rcases hv with rfl | rfl <;> exact .i _
theorem SB.self {H H' : Hp} {b : Addr} (h : SB H b H') : SB H' b H' := ⟨Kp.refl _ _, h.bx⟩
theorem cut1 {x : V} {rest : List V} : cutV (x :: rest) (some 1) none = rest := by
  unfold cutV
  simp [HT.sIx]
def spSp : Sp := fun vs H Q _ => ∃ (b a : Addr) (z : Str) (us : List V) (n : Nat) (t : Addr) (y : Str) (rest : List V), vs = [.ref b, .str z, .ref a, .int (n : Int)] ∧ SB H b H ∧ Letters z 4 ∧ H a = some (.tup us) ∧ n ≤ 100 ∧ us[n]? = some (.ref t) ∧ H t = some (.tup (.str y :: rest)) ∧ 1 ≤ y.length ∧ y.length ≤ 20 ∧ rest.length ≤ 2 ∧ (∀ v ∈ rest, At v) ∧
  ∀ q xs H', H' q = some (.tup xs) → RowO xs → SB H b H' → Q (.ref q) H'
structure TSp (mg : Str → Option Value) (ft fw fs fn : Addr) : Prop where
  n_max : mg "max" = none
  m__law_take : mg "_law_take" = some (.ref ft)
  m__law_bad_word : mg "_law_bad_word" = some (.ref fw)
  m__law_bad_sign : mg "_law_bad_sign" = some (.ref fs)
  m__law_bad_number : mg "_law_bad_number" = some (.ref fn)
section
variable {P : Program} {w : World} {K : PySem.W.Frag} {mg : Str → Option Value} {base : Heap}
abbrev s__law_spoilt : Stmt := top 31
theorem sc__law_spoilt : FnScope ["_law_box_here", "_law_letters_here", "_law_rows", "_law_at", "_law_row", "_law_way", "_law_fine", "_law_bad", "_law_word"] ["_law_box_here", "_law_letters_here", "_law_rows", "_law_at"] (defScope s__law_spoilt) := ⟨rfl, rfl, rfl, by decide +kernel, rfl, by decide +kernel, by decide +kernel⟩
theorem ok__law_spoilt {f ft fw fs fn : Addr} {fd fdt fdw fds fdn : FuncData} (F : Fun K "_law_spoilt" "_law_spoilt" s__law_spoilt f fd) (T : TSp mg ft fw fs fn) (F__law_take : Fun K "_law_take" "_law_take" s__law_take ft fdt) (b__law_take : Binds K fdt ["_law_box_here", "_law_wide"] [])
    (G__law_take : FnOk P w K mg base CX0 1 ft fdt ["_law_box_here", "_law_wide"] spTake)
    (F__law_bad_word : Fun K "_law_bad_word" "_law_bad_word" s__law_bad_word fw fdw) (b__law_bad_word : Binds K fdw ["_law_box_here", "_law_word"] []) (G__law_bad_word : FnOk P w K mg base CX0 2 fw fdw ["_law_box_here", "_law_word"] spBW)
    (F__law_bad_sign : Fun K "_law_bad_sign" "_law_bad_sign" s__law_bad_sign fs fds) (b__law_bad_sign : Binds K fds ["_law_box_here", "_law_letters_here"] []) (G__law_bad_sign : FnOk P w K mg base CX0 2 fs fds ["_law_box_here", "_law_letters_here"] spBS)
    (F__law_bad_number : Fun K "_law_bad_number" "_law_bad_number" s__law_bad_number fn fdn) (b__law_bad_number : Binds K fdn ["_law_box_here", "_law_letters_here", "_law_at"] []) (G__law_bad_number : FnOk P w K mg base CX0 2 fn fdn ["_law_box_here", "_law_letters_here", "_law_at"] spBN) : FnOk P w K mg base CX0 3 f fd ["_law_box_here", "_law_letters_here", "_law_rows", "_law_at"] spSp := by
  refine F.ok sc__law_spoilt (fun vs H Q E h => ?_) (fun cdv A outer s H vs Q E hr h => ?_)
  · obtain ⟨b, a, z, us, n, t, y, rest, rfl, _⟩ := h
    rfl
  · obtain ⟨b, a, z, us, n, t, y, rest, rfl, sb, hz, ha, n1, hu1, ht, y1, y2, lr, ar, k⟩ := h
    have hu := hr.units
    have hsz : sizeLine = 16777216 := PySem.sizeLine_eq
    refine exQ (qpss_cons (qps_set (i := 4) sc__law_spoilt.nd rfl (by first | exact Or.inl rfl | exact Or.inr rfl) (qpe_ix ix_U (qpv 2) (qpv 3) (fun _ _ => rfl)))
    (qpss_cons (qps_set (i := 5) sc__law_spoilt.nd rfl (by first | exact Or.inl rfl | exact Or.inr rfl) (qpe_call G__law_take (hr.mono (by decide)) rfl T.m__law_take F__law_take.kp b__law_take .nil pass0 (qpa_cons (qpv 0) (qpa_cons qpe_int qpa_nil))))
    (qpss_cons (qps_if (qpt_cmpR (op_eqU hu) (qpv 5) qpe_int (nomark _)) (qpss_one (qps_ret (qpe_op op_addX (qpe_tup (qpa_cons (qpe_call G__law_bad_word (hr.mono (by decide)) rfl T.m__law_bad_word F__law_bad_word.kp b__law_bad_word .nil pass0 (qpa_cons (qpv 0) (qpa_cons (qpe_ix ix_U (qpv 4) qpe_int (fun _ _ => rfl)) qpa_nil))) qpa_nil)) (qpe_slice (sl_VK (K := K) rfl) (qpv 4) (qpo_some qpe_int) qpo_none)))) qpss_nil)
    (qpss_cons (qps_if (qpt_cmpR (op_eqU hu) (qpv 5) qpe_int (nomark _)) (qpss_one (qps_ret (qpe_op op_addX (qpv 4) (qpe_tup (qpa_cons (qpe_ix ix_U (qpe_lst (qpa_cons qpe_int (qpa_cons (qpe_ix ix_U (qpv 1) qpe_int (fun _ _ => rfl)) (qpa_cons qpe_str (qpa_cons (qpv 3) qpa_nil))))) (qpe_call G__law_take (hr.mono (by decide)) rfl T.m__law_take F__law_take.kp b__law_take .nil pass0 (qpa_cons (qpv 0) (qpa_cons qpe_int qpa_nil))) (fun _ _ => rfl)) qpa_nil))))) qpss_nil)
    (qpss_cons (qps_if (qpt_cmpR (op_eqU hu) (qpv 5) qpe_int (nomark _)) (qpss_one (qps_ret (qpe_slice (sl_VK (K := K) rfl) (qpv 4) qpo_none (qpo_some (qpe_un un_neg qpe_int))))) qpss_nil)
    (qpss_cons (qps_if (qpt_cmpR (op_eqU hu) (qpv 5) qpe_int (nomark _)) (qpss_one (qps_ret (qpe_tup (qpa_cons qpe_str (qpa_cons (qpe_call G__law_bad_sign (hr.mono (by decide)) rfl T.m__law_bad_sign F__law_bad_sign.kp b__law_bad_sign .nil pass0 (qpa_cons (qpv 0) (qpa_cons (qpv 1) qpa_nil))) qpa_nil))))) qpss_nil)
    (qpss_cons (qps_set (i := 6) sc__law_spoilt.nd rfl (by first | exact Or.inl rfl | exact Or.inr rfl) (qpe_call G__law_take (hr.mono (by decide)) rfl T.m__law_take F__law_take.kp b__law_take .nil pass0 (qpa_cons (qpv 0) (qpa_cons (qpe_callB (call_maxU rfl) (by rfl) T.n_max bt_max (qpa_cons (qpv 3) (qpa_cons qpe_int qpa_nil))) qpa_nil))))
    (qpss_cons (qps_set (i := 7) sc__law_spoilt.nd rfl (by first | exact Or.inl rfl | exact Or.inr rfl) (qpe_call G__law_bad_number (hr.mono (by decide)) rfl T.m__law_bad_number F__law_bad_number.kp b__law_bad_number .nil pass0 (qpa_cons (qpv 0) (qpa_cons (qpv 1) (qpa_cons (qpv 3) qpa_nil)))))
    (qpss_cons (qps_set (i := 8) sc__law_spoilt.nd rfl (by first | exact Or.inl rfl | exact Or.inr rfl) (qpe_ix ix_U (qpe_lst (qpa_cons qpe_str (qpa_cons qpe_str (qpa_cons qpe_str (qpa_cons qpe_str qpa_nil))))) (qpe_call G__law_take (hr.mono (by decide)) rfl T.m__law_take F__law_take.kp b__law_take .nil pass0 (qpa_cons (qpv 0) (qpa_cons qpe_int qpa_nil))) (fun _ _ => rfl)))
    (qpss_cons (qps_if (qpt_cmpR (op_eqU hu) (qpv 8) qpe_str (nomark _)) (qpss_one (qps_ret (qpe_tup (qpa_cons (qpv 8) (qpa_cons (qpv 7) qpa_nil))))) qpss_nil)
    (qpss_one (qps_ret (qpe_ix ix_U (qpe_lst (qpa_cons (qpe_tup (qpa_cons (qpv 8) (qpa_cons (qpv 6) (qpa_cons (qpv 7) qpa_nil)))) (qpa_cons (qpe_tup (qpa_cons (qpv 8) (qpa_cons (qpv 7) (qpa_cons (qpv 6) qpa_nil)))) qpa_nil))) (qpe_call G__law_take (hr.mono (by decide)) rfl T.m__law_take F__law_take.kp b__law_take .nil pass0 (qpa_cons (qpv 0) (qpa_cons qpe_int qpa_nil))) (fun _ _ => rfl)))))))))))))) ?_
    simp! [ha]
    refine ⟨_, atI_nat hu1, sb.tq (by omega) (by omega) fun way H1 w0 w1 sb1 k1 => ?_⟩
    have ht1 := k1.tup _ _ ht
    have hty : atI (V.str y :: rest) 0 = some (.str y) := atI_of (by decide) rfl
    have hzl : z.cps.toList.length = z.length := by simp [Str.length]
    have z1 := hz.lo
    have z2 := hz.hi
    simp! [ht1]
    refine ite2 (fun h0 => ?_) (fun h0 => ite2 (fun h1 => ?_) (fun h1 => ite2 (fun h2 => ?_) (fun h2 => ite2 (fun h3 => ?_) (fun h3 => ?_))))
    · refine ⟨b, y, rfl, sb1.self, y1, y2, fun y' H2 hy' sb2 => ⟨by omega, fun p hp => ?_⟩⟩
      have s2 := (sb1.trans sb2).new (x := .tup [V.str y']) hp
      have ht2 : upd H2 p (.tup [V.str y']) t = some (.tup (.str y :: rest)) := (sb2.kp.new hp).tup _ _ ht1
      refine rSlV.tup ht2 fun q H3 h3 k3 => ?_
      rw [cut1] at h3
      refine ⟨p, q, _, _, rfl, rfl, k3.tup _ _ upd_same, h3, by simp; omega, fun q' H4 k4 e4 => ?_⟩
      exact k q' (V.str y' :: rest) H4 e4 (RowO.cons hy' ar (by omega)) ((s2.keep k3).keep k4)
    · have h0' : 0 < z.cps.toList.length := by omega
      refine ⟨by omega, _, atI_of (by decide) (List.getElem?_eq_getElem h0'), ?_⟩
      generalize z.cps.toList[0] = c
      refine ⟨by omega, fun p hp => (sb1.new hp).tq (by omega) (by omega) fun g H3 g0 g1 sb3 k3 => ?_⟩
      have np := sb1.ne hp
      have hp3 := k3.old _ _ upd_same (by simpa using np)
      simp! [hp3]
      obtain ⟨v, av, hv⟩ := at_any (l := [V.int 0, V.str ⟨#[c]⟩, V.str (Str.ofString ""), V.int (n : Int)]) (M := At) (fun v hv => by
        simp only [List.mem_cons, List.not_mem_nil, or_false] at hv
        rcases hv with rfl | rfl | rfl | rfl
        · exact .i _
        · exact .s (by show 1 ≤ 100; decide)
        · exact .s (by decide +kernel)
        · exact .i _) g0 (by simpa using g1)
      refine ⟨_, av, by omega, fun p2 hp2 => ?_⟩
      have ht3 : upd H3 p2 (.tup [v]) t = some (.tup (.str y :: rest)) := ((((Kp.refl [b] H1).new hp).trans k3).new hp2).tup _ _ ht1
      refine ⟨t, p2, _, _, rfl, rfl, ht3, upd_same, by simp; omega, fun q' H4 k4 e4 => ?_⟩
      refine k q' _ H4 e4 (RowO.cons (r := rest ++ [v]) (by omega) (fun u hu => ?_) (by simp; omega)) ((sb3.new hp2).keep k4)
      rcases List.mem_append.mp hu with hu | hu
      · exact ar u hu
      · cases List.mem_singleton.mp hu; exact hv
    · refine rSlV.tup ht1 fun q H2 h2 k2 => k q _ H2 h2 ?_ (sb1.keep k2)
      have e0 : cutV (V.str y :: rest) none (some (-1)) = (V.str y :: rest).take rest.length := by
        unfold cutV
        simp [HT.sIx]
        try omega
      rw [e0]
      cases rest with
      | nil => exact ⟨by simp, (fun _ h => nomatch h), .inl rfl⟩
      | cons u r =>
        rw [List.length_cons, List.take_succ_cons]
        exact RowO.cons (by omega) (fun v hv => ar v (List.mem_of_mem_take hv)) (by rw [List.length_take]; simp at lr ⊢; omega)
    · refine ⟨b, z, rfl, sb1.self, hz, fun v H2 av sb2 => ⟨by omega, fun p hp => k p _ _ upd_same (RowO.cons (r := [v]) (by decide +kernel) (fun u hu => by cases List.mem_singleton.mp hu; exact av) (by simp)) ((sb1.trans sb2).new hp)⟩⟩
    · refine sb1.tq (by split <;> omega) (by split <;> omega) fun fi H2 f0 f1 sb2 k2 => ?_
      refine ⟨b, z, n, rfl, sb2.self, hz.lo, hz.hi, n1, fun bad H3 abad sb3 => ⟨by omega, fun p hp => ?_⟩⟩
      have s3 := sb2.trans sb3
      refine (s3.new hp).tq (by omega) (by omega) fun g H4 g0 g1 sb4 k4 => ?_
      have np := s3.ne hp
      have hp4 := k4.old _ _ upd_same (by simpa using np)
      simp! [hp4]
      obtain ⟨wv, awv, wd, rfl, lw⟩ := at_any (l := [V.str (Str.ofString "or"), V.str (Str.ofString "and"), V.str (Str.ofString "behind"), V.str (Str.ofString "not")]) (M := ShS) (fun v hv => by
        simp only [List.mem_cons, List.not_mem_nil, or_false] at hv
        rcases hv with rfl | rfl | rfl | rfl <;> exact ⟨_, rfl, by decide +kernel⟩) g0 (by simpa using g1)
      refine ⟨_, awv, ?_⟩
      simp!
      refine ite2 (fun hn => ⟨by omega, fun p2 hp2 => k p2 _ _ upd_same (RowO.cons (r := [bad]) lw (fun u hu => by cases List.mem_singleton.mp hu; exact abad) (by simp)) (sb4.new hp2)⟩) (fun hn => ⟨by omega, fun p2 hp2 => ⟨by omega, fun p3 hp3 => ⟨by omega, fun p4 hp4' => ?_⟩⟩⟩)
      have s4 := ((sb4.new (x := .tup [V.str wd, V.int fi, bad]) hp2).new (x := .tup [V.str wd, bad, V.int fi]) hp3).new (x := .lst [V.ref p2, V.ref p3]) hp4'
      refine s4.tq (by omega) (by omega) fun e H6 e0 e1 sb6 k6 => ?_
      have g4 : upd (upd (upd H4 p2 (.tup [V.str wd, V.int fi, bad])) p3 (.tup [V.str wd, bad, V.int fi])) p4 (.lst [V.ref p2, V.ref p3]) p4 = some (.lst [V.ref p2, V.ref p3]) := upd_same
      have n4 := ((sb4.new (x := .tup [V.str wd, V.int fi, bad]) hp2).new (x := .tup [V.str wd, bad, V.int fi]) hp3).ne hp4'
      have h6 := k6.old _ _ g4 (by simpa using n4)
      have n34 : p3 ≠ p4 := ne_of_none upd_same hp4'
      have n23 : p2 ≠ p3 := ne_of_none upd_same hp3
      have n24 : p2 ≠ p4 := ne_of_none (by rw [upd_ne n23, upd_same]) hp4'
      have g2 : upd (upd (upd H4 p2 (.tup [V.str wd, V.int fi, bad])) p3 (.tup [V.str wd, bad, V.int fi])) p4 (.lst [V.ref p2, V.ref p3]) p2 = some (.tup [V.str wd, V.int fi, bad]) := by rw [upd_ne n24, upd_ne n23, upd_same]
      have g3 : upd (upd (upd H4 p2 (.tup [V.str wd, V.int fi, bad])) p3 (.tup [V.str wd, bad, V.int fi])) p4 (.lst [V.ref p2, V.ref p3]) p3 = some (.tup [V.str wd, bad, V.int fi]) := by rw [upd_ne n34, upd_same]
      simp! [h6]
      have : e = 0 ∨ e = 1 := by omega
      rcases this with rfl | rfl
      · exact ⟨_, atI_of (by decide) rfl, k p2 _ _ (k6.tup _ _ g2) (RowO.cons (r := [V.int fi, bad]) lw (fun u hu => by
          simp only [List.mem_cons, List.not_mem_nil, or_false] at hu
          rcases hu with rfl | rfl
          · exact .i _
          · exact abad) (by simp)) sb6⟩
      · exact ⟨_, atI_of (by decide) rfl, k p3 _ _ (k6.tup _ _ g3) (RowO.cons (r := [bad, V.int fi]) lw (fun u hu => by
          simp only [List.mem_cons, List.not_mem_nil, or_false] at hu
          rcases hu with rfl | rfl
          · exact abad
          · exact .i _) (by simp)) sb6⟩
end
def spAR : Sp := fun vs H Q _ => ∃ (b : Addr) (z : Str) (n : Nat), vs = [.ref b, .str z, .int (n : Int)] ∧ SB H b H ∧ 1 ≤ z.length ∧ z.length ≤ 4 ∧ n ≤ 100 ∧ ∀ q xs H', H' q = some (.tup xs) → RowO xs → SB H b H' → Q (.ref q) H'
structure TAn (mg : Str → Option Value) (ft : Addr) : Prop where
  n_len : mg "len" = none
  n_int : mg "int" = none
  n_range : mg "range" = none
  n_tuple : mg "tuple" = none
  m__law_take : mg "_law_take" = some (.ref ft)
structure AL (H : Hp) (b l : Addr) (H' : Hp) (m : Nat) : Prop where
  sb : SB H b H'
  ne : l ≠ b
  fr : H l = none
  at_ : ∃ z r, H' l = some (.lst (.str z :: r)) ∧ z.length ≤ 100 ∧ (∀ v ∈ r, At v) ∧ r.length = m
theorem AL.tq {H H' : Hp} {b l : Addr} {m : Nat} (h : AL H b l H' m) {w : Int} (w0 : 0 < w) (w1 : w < 1073741824) {Q : VK} {E : XK} (q : ∀ d H2, 0 ≤ d → d < w → AL H b l H2 m → Kp [b] H' H2 → Q (.int d) H2) : spTake [.ref b, .int w] H' Q E :=
  h.sb.tq w0 w1 fun d H2 d0 d1 sb k => q d H2 d0 d1 ⟨sb, h.ne, h.fr, let ⟨z, r, e, x⟩ := h.at_; ⟨z, r, k.old _ _ e (by simpa using h.ne), x⟩⟩ k
theorem AL.new {H H' : Hp} {b l p : Addr} {x : HO} {m : Nat} (h : AL H b l H' m) (hp : H' p = none) : AL H b l (upd H' p x) m :=
  ⟨h.sb.new hp, h.ne, h.fr, let ⟨z, r, e, y⟩ := h.at_; ⟨z, r, by rw [upd_ne (ne_of_none e hp)]; exact e, y⟩⟩
theorem AL.wr {H H' : Hp} {b l : Addr} {m m' : Nat} {z : Str} {r' : List V} (h : AL H b l H' m) (lz : z.length ≤ 100) (ar : ∀ v ∈ r', At v) (lr : r'.length = m') : AL H b l (upd H' l (.lst (.str z :: r'))) m' := by
  obtain ⟨⟨kp, o, hb, ho⟩, ne, fr, z0, r0, e, _⟩ := h
  exact ⟨⟨kp.set e (.inr fr), o, by rw [upd_ne ne.symm]; exact hb, ho⟩, ne, fr, z, r', upd_same, lz, ar, lr⟩
theorem mem_set {r : List V} {i : Nat} {v : V} (hv : At v) (h : ∀ u ∈ r, At u) : ∀ u ∈ r.set i v, At u := fun u hu => by
  rcases List.mem_or_eq_of_mem_set hu with h' | rfl
  · exact h u h'
  · exact hv
theorem AL.last {H H' : Hp} {b l : Addr} {m : Nat} (A : AL H b l H' (m + 1)) {v : V} (hv : At v) : ∃ xs, lstOf (H' l) = some xs ∧ ∃ j, ixN xs.length (-1) = some j ∧ AL H b l (upd H' l (.lst (xs.set j v))) (m + 1) := by
  obtain ⟨z, r, e, lz, ar, lr⟩ := A.at_
  refine ⟨_, by rw [e]; rfl, m + 1, by unfold ixN; rw [if_neg (by decide)]; simp [lr]; omega, ?_⟩
  rw [List.set_cons_succ]
  exact A.wr lz (mem_set hv ar) (by rw [List.length_set]; exact lr)
section
variable {P : Program} {w : World} {K : PySem.W.Frag} {mg : Str → Option Value} {base : Heap}
abbrev s__law_any_row : Stmt := top 32
theorem sc__law_any_row : FnScope ["_law_box_here", "_law_letters_here", "_law_at", "_law_words", "_law_row", "_law_k", "_law_number"] ["_law_box_here", "_law_letters_here", "_law_at"] (defScope s__law_any_row) := ⟨rfl, rfl, rfl, by decide +kernel, rfl, by decide +kernel, by decide +kernel⟩
theorem ok__law_any_row {f ft : Addr} {fd fdt : FuncData} (F : Fun K "_law_any_row" "_law_any_row" s__law_any_row f fd) (T : TAn mg ft) (F__law_take : Fun K "_law_take" "_law_take" s__law_take ft fdt) (b__law_take : Binds K fdt ["_law_box_here", "_law_wide"] [])
    (G__law_take : FnOk P w K mg base CX0 1 ft fdt ["_law_box_here", "_law_wide"] spTake) : FnOk P w K mg base CX0 2 f fd ["_law_box_here", "_law_letters_here", "_law_at"] spAR := by
  refine F.ok sc__law_any_row (fun vs H Q E h => ?_) (fun cdv A outer s H vs Q E hr h => ?_)
  · obtain ⟨b, z, n, rfl, _⟩ := h
    rfl
  · obtain ⟨b, z, n, rfl, sb, z1, z2, n1, k⟩ := h
    have hu := hr.units
    have hsz : sizeLine = 16777216 := PySem.sizeLine_eq
    have hzl : z.cps.toList.length = z.length := by simp [Str.length]
    refine exQ (qpss_cons (qps_set (i := 3) sc__law_any_row.nd rfl (by first | exact Or.inl rfl | exact Or.inr rfl) (qpe_lst (qpa_cons qpe_str (qpa_cons qpe_str (qpa_cons qpe_str (qpa_cons qpe_str (qpa_cons qpe_str (qpa_cons qpe_str (qpa_cons qpe_str (qpa_cons qpe_str (qpa_cons qpe_str (qpa_cons qpe_str qpa_nil se_Constant) se_Constant) se_Constant) se_Constant) se_Constant) se_Constant) se_Constant) se_Constant) se_Constant) se_Constant)))
    (qpss_cons (qps_set (i := 4) sc__law_any_row.nd rfl (by first | exact Or.inl rfl | exact Or.inr rfl) (qpe_lst (qpa_cons (qpe_ix ix_U (qpv 3) (qpe_call G__law_take (hr.mono (by decide)) rfl T.m__law_take F__law_take.kp b__law_take .nil pass0 (qpa_cons (qpv 0) (qpa_cons qpe_int qpa_nil))) (fun _ _ => rfl)) qpa_nil)))
    (qpss_cons (qps_for PassesOwn.never rfl (qpi_range1 rfl T.n_range (qpa_cons (qpe_call G__law_take (hr.mono (by decide)) rfl T.m__law_take F__law_take.kp b__law_take .nil pass0 (qpa_cons (qpv 0) (qpa_cons qpe_int qpa_nil))) qpa_nil)) (qpg_name (i := 5) sc__law_any_row.nd rfl (by first | exact Or.inl rfl | exact Or.inr rfl)) (qpss_cons (qps_set (i := 6) sc__law_any_row.nd rfl (by first | exact Or.inl rfl | exact Or.inr rfl) (qpe_ix ix_U (qpe_lst (qpa_cons (qpe_call G__law_take (hr.mono (by decide)) rfl T.m__law_take F__law_take.kp b__law_take .nil pass0 (qpa_cons (qpv 0) (qpa_cons (qpe_op op_addW (qpv 2) qpe_int) qpa_nil))) (qpa_cons (qpe_op op_sub (qpe_call G__law_take (hr.mono (by decide)) rfl T.m__law_take F__law_take.kp b__law_take .nil pass0 (qpa_cons (qpv 0) (qpa_cons (qpe_op op_addW (qpv 2) qpe_int) qpa_nil))) qpe_int) qpa_nil))) (qpe_op op_mod (qpv 5) qpe_int) (fun _ _ => rfl)))
    (qpss_cons (qps_expr (qpe_bmL PySem.F.slot_list_append PySem.F.type_list_append mt_appendU (qpv 4) (qpa_cons (qpe_ix ix_U (qpe_lst (qpa_cons (qpe_ix ix_U (qpv 1) (qpe_call G__law_take (hr.mono (by decide)) rfl T.m__law_take F__law_take.kp b__law_take .nil pass0 (qpa_cons (qpv 0) (qpa_cons (qpe_callB call_lenU (by rfl) T.n_len bt_len (qpa_cons (qpv 1) qpa_nil)) qpa_nil))) (fun _ _ => rfl)) (qpa_cons (qpv 6) qpa_nil))) (qpe_callTy call_intU (by rfl) T.n_int bt_int (qpa_cons (qpe_cmpR op_gt (qpv 5) qpe_int (nomark _)) qpa_nil)) (fun _ _ => rfl)) qpa_nil) mono_var))
    (qpss_one (qps_if (QW.pt (qpw_and (qpt_cmpR op_gt (qpe_call G__law_take (hr.mono (by decide)) rfl T.m__law_take F__law_take.kp b__law_take .nil pass0 (qpa_cons (qpv 0) (qpa_cons qpe_int qpa_nil))) qpe_int (nomark _)) (qpw_and1 (qpt_cmpR (op_eqU hu) (qpe_ix ix_U (qpv 4) qpe_int (fun _ _ => rfl)) qpe_str (nomark _))))) (qpss_one (qps_asg (qpe_ix ix_U (qpv 1) (qpe_call G__law_take (hr.mono (by decide)) rfl T.m__law_take F__law_take.kp b__law_take .nil pass0 (qpa_cons (qpv 0) (qpa_cons (qpe_callB call_lenU (by rfl) T.n_len bt_len (qpa_cons (qpv 1) qpa_nil)) qpa_nil))) (fun _ _ => rfl)) (qpg_sub (qpv 4) (qpe_un un_neg qpe_int) set_U))) (qpss_one (qps_if (qpt_cmpR op_gt (qpe_call G__law_take (hr.mono (by decide)) rfl T.m__law_take F__law_take.kp b__law_take .nil pass0 (qpa_cons (qpv 0) (qpa_cons qpe_int qpa_nil))) qpe_int (nomark _)) (qpss_one (qps_asg (qpe_call G__law_take (hr.mono (by decide)) rfl T.m__law_take F__law_take.kp b__law_take .nil pass0 (qpa_cons (qpv 0) (qpa_cons (qpe_op op_addW (qpv 2) qpe_int) qpa_nil))) (qpg_sub (qpv 4) (qpe_un un_neg qpe_int) set_U))) qpss_nil)))))))
    (qpss_one (qps_ret (qpe_callTy call_tupleU (by rfl) T.n_tuple bt_tuple (qpa_cons (qpe_slice (sl_VK (K := K) rfl) (qpv 4) qpo_none (qpo_some (qpe_ix ix_U (qpe_lst (qpa_cons qpe_int (qpa_cons qpe_int qpa_nil))) (qpe_callTy call_intU (by rfl) T.n_int bt_int (qpa_cons (qpe_cmpR (op_eqU hu) (qpe_call G__law_take (hr.mono (by decide)) rfl T.m__law_take F__law_take.kp b__law_take .nil pass0 (qpa_cons (qpv 0) (qpa_cons qpe_int qpa_nil))) qpe_int (nomark _)) qpa_nil)) (fun _ _ => rfl)))) qpa_nil))))))) ?_
    simp!
    refine ⟨by omega, fun p hp => (sb.new hp).tq (by omega) (by omega) fun d H1 d0 d1 sb1 k1 => ?_⟩
    have np := sb.ne hp
    have hp1 := k1.old _ _ upd_same (by simpa using np)
    simp! [hp1]
    obtain ⟨wv, awv, wd, rfl, lw⟩ := at_any (l := [V.str (Str.ofString "nothing"), V.str (Str.ofString "blank"), V.str (Str.ofString "letter"), V.str (Str.ofString "not"), V.str (Str.ofString "or"), V.str (Str.ofString "and"), V.str (Str.ofString "behind"), V.str (Str.ofString "letter"), V.str (Str.ofString "not"), V.str (Str.ofString "every")]) (M := ShS) (fun v hv => by
      simp only [List.mem_cons, List.not_mem_nil, or_false] at hv
      rcases hv with rfl | rfl | rfl | rfl | rfl | rfl | rfl | rfl | rfl | rfl <;> exact ⟨_, rfl, by decide +kernel⟩) d0 (by simpa using d1)
    refine ⟨_, awv, by omega, fun l hl => ?_⟩
    have A1 : AL H b l (upd H1 l (.lst [V.str wd])) 0 := ⟨sb1.new hl, sb1.ne hl, sb1.kp.free hl, wd, [], upd_same, lw, (fun _ h => nomatch h), rfl⟩
    refine A1.tq (by omega) (by omega) fun m H2 m0 m1 A2 k2 => ?_
    simp!
    refine ⟨by omega, by omega, ?_⟩
    refine loop_range (fun i σ H' => ∃ (v5 v6 : Option V), σ = [some (.ref b), some (.str z), some (.int (n : Int)), some (.ref p), some (.ref l), v5, v6] ∧ AL H b l H' i) ⟨none, none, rfl, A2⟩ ?_ ?_
    · rintro i σ H3 hi ⟨v5, v6, rfl, A3⟩
      simp!
      refine A3.tq (by omega) (by omega) fun a H4 a0 a1 A4 k4 => A4.tq (by omega) (by omega) fun c H5 c0 c1 A5 k5 => ?_
      simp!
      refine ⟨by omega, fun p1 hp1 => ⟨by decide, ?_⟩⟩
      have q0 := Int.emod_nonneg (0 + (i : Int)) (show (2 : Int) ≠ 0 by decide)
      have q1 := Int.emod_lt_of_pos (0 + (i : Int)) (show (0 : Int) < 2 by decide)
      obtain ⟨v, av, nv, rfl⟩ := at_any (l := [V.int a, V.int (c - 1)]) (M := fun v => ∃ j : Int, v = .int j) (fun v hv => by
        simp only [List.mem_cons, List.not_mem_nil, or_false] at hv
        rcases hv with rfl | rfl <;> exact ⟨_, rfl⟩) q0 (by simpa using q1)
      have A6 := A5.new (x := .lst [V.int a, V.int (c - 1)]) hp1
      refine ⟨_, av, by obtain ⟨_, _, e, _⟩ := A6.at_; rw [e]; rfl, by omega, A6.tq (by omega) (by omega) fun e H7 e0 e1 A7 k7 => ?_⟩
      simp!
      have hel : e.toNat < z.cps.toList.length := by omega
      refine ⟨by omega, _, atI_of e0 (List.getElem?_eq_getElem hel), by omega, fun p2 hp2 => ?_⟩
      generalize z.cps.toList[e.toNat] = ch
      have one : At (.str ⟨#[ch]⟩) := .s (by show 1 ≤ 100; decide)
      obtain ⟨u, au, hu'⟩ := at_any (l := [V.str ⟨#[ch]⟩, V.int nv]) (M := At) (fun v hv => by
        simp only [List.mem_cons, List.not_mem_nil, or_false] at hv
        rcases hv with rfl | rfl
        · exact one
        · exact .i _) (d := if 0 < 0 + (i : Int) then 1 else 0) (by split <;> decide) (by split <;> (simp; try decide))
      have A8 := A7.new (x := .lst [V.str ⟨#[ch]⟩, V.int nv]) hp2
      obtain ⟨zz, rr, ee, lz, ar, lr⟩ := A8.at_
      refine ⟨_, au, _, by rw [ee]; rfl, by simp; omega, ?_⟩
      have A9 := A8.wr (r' := rr ++ [u]) lz (fun x hx => by
        rcases List.mem_append.mp hx with h | h
        · exact ar x h
        · cases List.mem_singleton.mp h; exact hu') (m' := i + 1) (by simp [lr])
      refine A9.tq (by omega) (by omega) fun f1' H9 f0 f1 A10 k9 => ?_
      simp!
      have third : spTake [V.ref b, V.int 3] H9 (fun x H1 => ∃ i_3, x = V.int i_3 ∧ if 0 < i_3 then spTake [V.ref b, V.int (↑n + 1)] H1 (fun x H1 => ∃ xs, lstOf (H1 l) = some xs ∧ ∃ j, ixN xs.length (-1) = some j ∧ ∃ v5 v6 : Option V, (some (V.int (0 + (i : Int))) = v5 ∧ some (V.int nv) = v6) ∧ AL H b l (upd H1 l (.lst (xs.set j x))) (i + 1)) E0
          else ∃ v5 v6 : Option V, (some (V.int (0 + (i : Int))) = v5 ∧ some (V.int nv) = v6) ∧ AL H b l H1 (i + 1)) E0 := by
        refine A10.tq (by omega) (by omega) fun g H10 g0 g1 A11 k10 => ⟨g, rfl, ite2 (fun h => ?_) (fun h => ⟨_, _, ⟨rfl, rfl⟩, A11⟩)⟩
        refine A11.tq (by omega) (by omega) fun y H11 y0 y1 A12 k11 => ?_
        obtain ⟨xs, e1, j, e2, A'⟩ := A12.last (.i y)
        exact ⟨xs, e1, j, e2, _, _, ⟨rfl, rfl⟩, A'⟩
      refine ite2 (fun h0 => ?_) (fun h0 => third)
      obtain ⟨z9, r9, e9, lz9, ar9, lr9⟩ := A10.at_
      refine ⟨_, by rw [e9]; rfl, _, atI_of (by decide) rfl, ?_⟩
      simp!
      refine ite2 (fun hL => ?_) (fun hL => third)
      refine ⟨by omega, A10.tq (by omega) (by omega) fun y H10 y0 y1 A11 k10 => ?_⟩
      have hyl : y.toNat < z.cps.toList.length := by omega
      simp!
      refine ⟨by omega, _, atI_of y0 (List.getElem?_eq_getElem hyl), ?_⟩
      obtain ⟨xs, e1, j, e2, A'⟩ := A11.last (v := .str ⟨#[z.cps.toList[y.toNat]]⟩) (.s (by show 1 ≤ 100; decide))
      exact ⟨xs, e1, j, e2, _, _, ⟨rfl, rfl⟩, A'⟩
    · rintro σ H3 ⟨v5, v6, rfl, A3⟩
      simp!
      refine ⟨by omega, fun p1 hp1 => ?_⟩
      have A4 := A3.new (x := .lst [V.int 4, V.int 0]) hp1
      have n1 := A3.sb.ne hp1
      refine A4.tq (by omega) (by omega) fun g H5 g0 g1 A5 k5 => ?_
      have h5 := k5.old _ _ upd_same (by simpa using n1)
      obtain ⟨z5, r5, e5, lz5, ar5, lr5⟩ := A5.at_
      have ro : ∀ j : Nat, RowO (cutV (.str z5 :: r5) none (some (j : Int))) := fun j => by
        have e0 : cutV (V.str z5 :: r5) none (some (j : Int)) = (V.str z5 :: r5).take j := by
          unfold cutV
          simp [HT.sIx]
          split <;> omega
        rw [e0]
        cases j with
        | zero => exact ⟨by simp, (fun _ h => nomatch h), .inl rfl⟩
        | succ j => rw [List.take_succ_cons]; exact RowO.cons lz5 (fun v hv => ar5 v (List.mem_of_mem_take hv)) (by rw [List.length_take]; omega)
      have fin : ∀ j : Nat, rSlV K (V.ref l) none (some (j : Int)) H5 fun x H1 => rTupleU [x] H1 Q := fun j => by
        refine .inl (rSlU.lst e5 fun q hq => rTupleU_lst upd_same fun t ht => ?_)
        exact k t _ _ upd_same (ro j) ((A5.sb.new hq).new ht)
      simp! [h5]
      by_cases hg : g = 0
      · simp only [hg, if_true]
        exact ⟨_, atI_of (by decide) rfl, 0, rfl, fin 0⟩
      · simp only [hg, if_false]
        exact ⟨_, atI_of (by decide) rfl, 4, rfl, fin 4⟩
end
structure Exp (H : Hp) (vs : List V) (rs : List RE) : Prop where
  at_ : Paired (fun v r => ∃ a, v = .ref a ∧ H a = some (.tup (erowV r))) vs rs
  ok : ∀ (k : Nat) (r : RE), rs[k]? = some r → r.ok k
theorem pair_get {α β : Type} {F : α → β → Prop} : ∀ {l : List α} {m : List β} {k : Nat} {v : α}, Paired F l m → l[k]? = some v → ∃ r, m[k]? = some r ∧ F v r
  | _, _, k, v, .nil, e => by simp at e
  | _, _, 0, v, .cons (b := b) h _, e => by simp at e; subst e; exact ⟨b, rfl, h⟩
  | _, _, k + 1, v, .cons _ t, e => by simp at e; obtain ⟨r, h⟩ := pair_get t e; exact ⟨r, by simpa using h.1, h.2⟩
theorem Exp.kp {S : List Addr} {H H' : Hp} {vs : List V} {rs : List RE} (E : Exp H vs rs) (k : Kp S H H') : Exp H' vs rs := ⟨Paired.mapP E.at_ fun _ _ ⟨a, e, h⟩ => ⟨a, e, k.tup _ _ h⟩, E.ok⟩
theorem Exp.len {H : Hp} {vs : List V} {rs : List RE} (E : Exp H vs rs) : vs.length = rs.length := Paired.length E.at_
structure Fx (H : Hp) (b q : Addr) (us : List V) (rs : List RE) (o : HO) (H1 : Hp) : Prop where
  hb : H1 b = some o
  ho : BoxO o
  hq : H1 q = some (.lst us)
  ex : Exp H1 us rs
  kp : Kp [b] H H1
theorem Fx.new {H H1 : Hp} {b q : Addr} {us : List V} {rs : List RE} {o x : HO} {t : Addr} (F : Fx H b q us rs o H1) (ht : H1 t = none) : Fx H b q us rs o (upd H1 t x) :=
  ⟨by rw [upd_ne (ne_of_none F.hb ht)]; exact F.hb, F.ho, by rw [upd_ne (ne_of_none F.hq ht)]; exact F.hq, F.ex.kp ((Kp.refl [b] H1).new ht), F.kp.new ht⟩
theorem Fx.step {H H1 H2 : Hp} {b q : Addr} {us : List V} {rs : List RE} {o o' : HO} (F : Fx H b q us rs o H1) (nbq : b ≠ q) (k : Kp [b] H1 H2) (ho : BoxO o') (hb : H2 b = some o') : Fx H b q us rs o' H2 :=
  ⟨hb, ho, k.old _ _ F.hq (by simpa using nbq.symm), F.ex.kp k, F.kp.trans k⟩
theorem Fx.box {H H1 : Hp} {b q : Addr} {us : List V} {rs : List RE} {o o' : HO} (F : Fx H b q us rs o H1) (nbq : b ≠ q) (ho : BoxO o') : Fx H b q us rs o' (upd H1 b o') := by
  obtain ⟨xs, rfl⟩ := F.ho.lst
  exact F.step nbq ((Kp.refl [b] H1).set F.hb (.inl (by simp))) ho upd_same
theorem ex_snoc {rs : List RE} {r : RE} (h : ∀ (k : Nat) (x : RE), rs[k]? = some x → x.ok k) (hr : r.ok rs.length) : ∀ (k : Nat) (x : RE), (rs ++ [r])[k]? = some x → x.ok k := fun k x e => by
  by_cases hk : k < rs.length
  · rw [List.getElem?_append_left hk] at e; exact h k x e
  · have hk' : k = rs.length := by
      have := (List.getElem?_eq_some_iff.mp e).1
      simp at this
      omega
    subst hk'
    simp at e
    subst e
    exact hr
theorem Fx.put {H H9 : Hp} {b q t : Addr} {us : List V} {rs : List RE} {o : HO} (F : Fx H b q us rs o H9) (r : RE) (hr : r.ok rs.length) (ht : H9 t = some (.tup (erowV r))) (hq0 : H q = none) (nbq : b ≠ q) : Fx H b q (us ++ [.ref t]) (rs ++ [r]) o (upd H9 q (.lst (us ++ [.ref t]))) := by
  have kq : Kp [q] H9 (upd H9 q (.lst (us ++ [.ref t]))) := (Kp.refl [q] H9).set F.hq (.inl (by simp))
  exact ⟨by rw [upd_ne nbq]; exact F.hb, F.ho, upd_same, ⟨Paired.snoc (F.ex.kp kq).at_ ⟨t, rfl, kq.tup _ _ ht⟩, ex_snoc F.ex.ok hr⟩, F.kp.set F.hq (.inr hq0)⟩
theorem letter_at {z : Str} {d : Int} (h0 : 0 ≤ d) (h : d < (z.length : Int)) : ∃ c, c ∈ sg z ∧ atI z.cps.toList d = some c := by
  have hzl : z.cps.toList.length = z.length := by simp [Str.length]
  exact ⟨z.cps.toList[d.toNat]'(by omega), List.getElem_mem _, atI_of h0 (by simp)⟩
def IE (H : Hp) (b q : Addr) (z : Str) (m : Int) (i : Nat) : L2.St → Hp → Prop := fun σ H' => ∃ (us : List V) (rs : List RE) (o : HO) (v4 v5 v6 v7 : Option V), σ = [some (.ref b), some (.str z), some (.int m), some (.ref q), v4, v5, v6, v7] ∧ rs.length = i ∧ Fx H b q us rs o H'
def spExp : Sp := fun vs H Q _ => ∃ (b : Addr) (z : Str) (m : Nat) (o : HO), vs = [.ref b, .str z, .int (m : Int)] ∧ H b = some o ∧ BoxO o ∧ 1 ≤ z.length ∧ z.length ≤ 1000 ∧ 1 ≤ m ∧ m ≤ 900 ∧
  ∀ (t : Addr) (us : List V) (rs : List RE) (o' : HO) (H' : Hp), H' t = some (.tup us) → Exp H' us rs → 1 ≤ rs.length → rs.length ≤ m → BoxO o' → H' b = some o' → Kp [b] H H' → Q (.ref t) H'
structure TEx (mg : Str → Option Value) (ft fr : Addr) : Prop where
  n_range : mg "range" = none
  n_len : mg "len" = none
  n_tuple : mg "tuple" = none
  m__law_take : mg "_law_take" = some (.ref ft)
  m__law_row_at : mg "_law_row_at" = some (.ref fr)
theorem ite_orE {c1 c2 A B : Prop} [Decidable c1] [Decidable c2] (h1 : c1 ∨ c2 → A) (h2 : ¬ c1 → ¬ c2 → B) : if c1 then A else if c2 then A else B := by
  by_cases a : c1
  · rw [if_pos a]; exact h1 (.inl a)
  · rw [if_neg a]
    by_cases b : c2
    · rw [if_pos b]; exact h1 (.inr b)
    · rw [if_neg b]; exact h2 a b
section
variable {P : Program} {w : World} {K : PySem.W.Frag} {mg : Str → Option Value} {base : Heap}
abbrev s__law_expression : Stmt := top 27
theorem sc__law_expression : FnScope ["_law_box_here", "_law_letters_here", "_law_most", "_law_rows", "_law_k", "_law_kind", "_law_base", "_law_word"] ["_law_box_here", "_law_letters_here", "_law_most"] (defScope s__law_expression) := ⟨rfl, rfl, rfl, by decide +kernel, rfl, by decide +kernel, by decide +kernel⟩
theorem ok__law_expression {f ft fr : Addr} {fd fdt fdr : FuncData} (F : Fun K "_law_expression" "_law_expression" s__law_expression f fd) (T : TEx mg ft fr) (F__law_take : Fun K "_law_take" "_law_take" s__law_take ft fdt) (b__law_take : Binds K fdt ["_law_box_here", "_law_wide"] [])
    (G__law_take : FnOk P w K mg base CX0 1 ft fdt ["_law_box_here", "_law_wide"] spTake) (F__law_row_at : Fun K "_law_row_at" "_law_row_at" s__law_row_at fr fdr) (b__law_row_at : Binds K fdr ["_law_box_here", "_law_k"] [])
    (G__law_row_at : FnOk P w K mg base CX0 2 fr fdr ["_law_box_here", "_law_k"] spRowAt) : FnOk P w K mg base CX0 3 f fd ["_law_box_here", "_law_letters_here", "_law_most"] spExp := by
  refine F.ok sc__law_expression (fun vs H Q E h => ?_) (fun cdv A outer s H vs Q E hr h => ?_)
  · obtain ⟨b, z, m, o, rfl, _⟩ := h
    rfl
  · obtain ⟨b, z, m, o, rfl, hb, ho, z1, z2, m1, m2, k⟩ := h
    have hu := hr.units
    refine ⟨_, (QSs.h (qpss_cons (qps_set (i := 3) sc__law_expression.nd rfl (by first | exact Or.inl rfl | exact Or.inr rfl) (qpe_lst qpa_nil))
    (qpss_cons (qps_for PassesOwn.never rfl (qpi_range1 rfl T.n_range (qpa_cons (qpe_op op_addW qpe_int (qpe_call G__law_take (hr.mono (by decide)) rfl T.m__law_take F__law_take.kp b__law_take .nil pass0 (qpa_cons (qpv 0) (qpa_cons (qpv 2) qpa_nil)))) qpa_nil)) (qpg_name (i := 4) sc__law_expression.nd rfl (by first | exact Or.inl rfl | exact Or.inr rfl)) (qpss_cons (qps_set (i := 5) sc__law_expression.nd rfl (by first | exact Or.inl rfl | exact Or.inr rfl) (qpe_call G__law_take (hr.mono (by decide)) rfl T.m__law_take F__law_take.kp b__law_take .nil pass0 (qpa_cons (qpv 0) (qpa_cons qpe_int qpa_nil))))
    (qpss_one (qps_if (QW.pt (qpw_or (qpt_cmpR (op_eqU hu) (qpv 4) qpe_int (nomark _)) (qpw_or1 (qpt_cmpR op_ltU (qpv 5) qpe_int (nomark _))))) (qpss_cons (qps_set (i := 6) sc__law_expression.nd rfl (by first | exact Or.inl rfl | exact Or.inr rfl) (qpe_lst (qpa_cons (qpe_tup (qpa_cons qpe_str (qpa_cons (qpe_ix ix_U (qpv 1) (qpe_call G__law_take (hr.mono (by decide)) rfl T.m__law_take F__law_take.kp b__law_take .nil pass0 (qpa_cons (qpv 0) (qpa_cons (qpe_callB call_lenU (by rfl) T.n_len bt_len (qpa_cons (qpv 1) qpa_nil)) qpa_nil))) (fun _ _ => rfl)) qpa_nil))) (qpa_cons (qpe_tup (qpa_cons qpe_str qpa_nil)) (qpa_cons (qpe_tup (qpa_cons qpe_str qpa_nil)) qpa_nil)))))
    (qpss_one (qps_expr (qpe_bmL PySem.F.slot_list_append PySem.F.type_list_append mt_appendU (qpv 3) (qpa_cons (qpe_ix ix_U (qpv 6) (qpe_ix ix_U (qpe_lst (qpa_cons qpe_int (qpa_cons qpe_int (qpa_cons qpe_int (qpa_cons qpe_int (qpa_cons qpe_int (qpa_cons qpe_int qpa_nil se_Constant) se_Constant) se_Constant) se_Constant) se_Constant) se_Constant)) (qpe_call G__law_take (hr.mono (by decide)) rfl T.m__law_take F__law_take.kp b__law_take .nil pass0 (qpa_cons (qpv 0) (qpa_cons qpe_int qpa_nil))) (fun _ _ => rfl)) (fun _ _ => rfl)) qpa_nil) mono_var)))) (qpss_one (qps_if (qpt_cmpR op_ltU (qpv 5) qpe_int (nomark _)) (qpss_one (qps_expr (qpe_bmL PySem.F.slot_list_append PySem.F.type_list_append mt_appendU (qpv 3) (qpa_cons (qpe_tup (qpa_cons qpe_str (qpa_cons (qpe_call G__law_row_at (hr.mono (by decide)) rfl T.m__law_row_at F__law_row_at.kp b__law_row_at .nil pass0 (qpa_cons (qpv 0) (qpa_cons (qpv 4) qpa_nil))) qpa_nil))) qpa_nil) mono_var))) (qpss_cons (qps_set (i := 7) sc__law_expression.nd rfl (by first | exact Or.inl rfl | exact Or.inr rfl) (qpe_ix ix_U (qpe_lst (qpa_cons qpe_str (qpa_cons qpe_str (qpa_cons qpe_str (qpa_cons qpe_str (qpa_cons qpe_str (qpa_cons qpe_str qpa_nil se_Constant) se_Constant) se_Constant) se_Constant) se_Constant) se_Constant)) (qpe_op op_sub (qpv 5) qpe_int) (fun _ _ => rfl)))
    (qpss_one (qps_expr (qpe_bmL PySem.F.slot_list_append PySem.F.type_list_append mt_appendU (qpv 3) (qpa_cons (qpe_tup (qpa_cons (qpv 7) (qpa_cons (qpe_call G__law_row_at (hr.mono (by decide)) rfl T.m__law_row_at F__law_row_at.kp b__law_row_at .nil pass0 (qpa_cons (qpv 0) (qpa_cons (qpv 4) qpa_nil))) (qpa_cons (qpe_call G__law_take (hr.mono (by decide)) rfl T.m__law_take F__law_take.kp b__law_take .nil pass0 (qpa_cons (qpv 0) (qpa_cons (qpv 4) qpa_nil))) qpa_nil)))) qpa_nil) mono_var))))))))))
    (qpss_one (qps_ret (qpe_callTy call_tupleU (by rfl) T.n_tuple bt_tuple (qpa_cons (qpv 3) qpa_nil))))))), ?_⟩
    have hsz : sizeLine = 16777216 := PySem.sizeLine_eq
    simp!
    refine ⟨by omega, fun q hq => ?_⟩
    have nbq : b ≠ q := ne_of_none hb hq
    refine ⟨b, _, o, rfl, by rw [upd_ne nbq]; exact hb, ho, by omega, by omega, fun d o1 d0 d1 ho1 => ?_⟩
    obtain ⟨n, rfl⟩ : ∃ n : Nat, d = (n : Int) := ⟨d.toNat, by omega⟩
    have en : (1 + (n : Int)).toNat = n + 1 := by omega
    obtain ⟨xs0, rfl⟩ := ho.lst
    simp!
    refine ⟨by omega, by omega, ?_⟩
    rw [en]
    refine loop_range (IE H b q z (m : Int)) ?_ ?_ ?_
    · exact ⟨[], [], _, none, none, none, none, rfl, rfl, upd_same, ho1, by rw [upd_ne nbq.symm, upd_same], ⟨.nil, fun k r e => by simp at e⟩, ((Kp.refl [b] H).new hq).set (by rw [upd_ne nbq]; exact hb) (.inl (by simp))⟩
    · rintro i σ H1 hi ⟨us, rs, o2, v4, v5, v6, v7, rfl, hl, F1⟩
      have lu : us.length = rs.length := Paired.length F1.ex.at_
      simp!
      refine ⟨b, 12, _, rfl, F1.hb, F1.ho, by omega, by omega, fun kd o3 kd0 kd1 ho3 => ?_⟩
      have F2 := F1.box nbq ho3
      simp!
      refine ite_orE (fun h1 => ?_) (fun h1 h2 => ite2 (fun h3 => ?_) (fun h3 => ?_))
      · refine ⟨by omega, b, z.length, _, rfl, F2.hb, F2.ho, by omega, by omega, fun e o4 e0 e1 ho4 => ?_⟩
        have F3 := F2.box nbq ho4
        obtain ⟨ch, hch, ach⟩ := letter_at e0 e1
        simp! [ach]
        refine ⟨by omega, by omega, fun t1 ht1 => ⟨by omega, fun t2 ht2 => ⟨by omega, fun t3 ht3 => ⟨by omega, fun t4 ht4 => ?_⟩⟩⟩⟩
        have F3' := F1.box nbq ho4
        have F4 := (((F3'.new (x := .tup [V.str (Str.ofString "letter"), V.str ⟨#[ch]⟩]) ht1).new (x := .tup [V.str (Str.ofString "blank")]) ht2).new (x := .tup [V.str (Str.ofString "nothing")]) ht3).new (x := .lst [V.ref t1, V.ref t2, V.ref t3]) ht4
        have n12 : t1 ≠ t2 := ne_of_none upd_same ht2
        have n23 : t2 ≠ t3 := ne_of_none upd_same ht3
        have n34 : t3 ≠ t4 := ne_of_none upd_same ht4
        have n13 : t1 ≠ t3 := ne_of_none (by rw [upd_ne n12, upd_same]) ht3
        have n24 : t2 ≠ t4 := ne_of_none (by rw [upd_ne n23, upd_same]) ht4
        have n14 : t1 ≠ t4 := ne_of_none (by rw [upd_ne n13, upd_ne n12, upd_same]) ht4
        have g1 : upd (upd (upd (upd (upd H1 b o4) t1 (.tup [V.str (Str.ofString "letter"), V.str ⟨#[ch]⟩])) t2 (.tup [V.str (Str.ofString "blank")])) t3 (.tup [V.str (Str.ofString "nothing")])) t4 (.lst [V.ref t1, V.ref t2, V.ref t3]) t1 = some (.tup (erowV (.letter ⟨#[ch]⟩))) := by rw [upd_ne n14, upd_ne n13, upd_ne n12, upd_same]; rfl
        have g2 : upd (upd (upd (upd (upd H1 b o4) t1 (.tup [V.str (Str.ofString "letter"), V.str ⟨#[ch]⟩])) t2 (.tup [V.str (Str.ofString "blank")])) t3 (.tup [V.str (Str.ofString "nothing")])) t4 (.lst [V.ref t1, V.ref t2, V.ref t3]) t2 = some (.tup (erowV .blank)) := by rw [upd_ne n24, upd_ne n23, upd_same]; rfl
        have g3 : upd (upd (upd (upd (upd H1 b o4) t1 (.tup [V.str (Str.ofString "letter"), V.str ⟨#[ch]⟩])) t2 (.tup [V.str (Str.ofString "blank")])) t3 (.tup [V.str (Str.ofString "nothing")])) t4 (.lst [V.ref t1, V.ref t2, V.ref t3]) t3 = some (.tup (erowV .nothing)) := by rw [upd_ne n34, upd_same]; rfl
        have g4 : upd (upd (upd (upd (upd H1 b o4) t1 (.tup [V.str (Str.ofString "letter"), V.str ⟨#[ch]⟩])) t2 (.tup [V.str (Str.ofString "blank")])) t3 (.tup [V.str (Str.ofString "nothing")])) t4 (.lst [V.ref t1, V.ref t2, V.ref t3]) t4 = some (.lst [V.ref t1, V.ref t2, V.ref t3]) := upd_same
        revert F4 g1 g2 g3 g4
        generalize upd (upd (upd (upd (upd H1 b o4) t1 (.tup [V.str (Str.ofString "letter"), V.str ⟨#[ch]⟩])) t2 (.tup [V.str (Str.ofString "blank")])) t3 (.tup [V.str (Str.ofString "nothing")])) t4 (.lst [V.ref t1, V.ref t2, V.ref t3]) = H5
        intro F4 g1 g2 g3 g4
        refine ⟨by rw [F4.hq]; rfl, by omega, fun t5 ht5 => ?_⟩
        have F5 := F4.new (x := .lst [V.int 0, V.int 0, V.int 0, V.int 0, V.int 1, V.int 2]) ht5
        refine ⟨b, _, _, rfl, F5.hb, F5.ho, by omega, by omega, fun e o7 e0 e1 ho7 => ?_⟩
        have F6 := F5.box nbq ho7
        have nb5 : b ≠ t5 := ne_of_none F4.hb ht5
        have nb4 : b ≠ t4 := fun z => by subst z; have := F4.hb; rw [g4] at this; obtain ⟨c, sd, q1, _⟩ := F4.ho; rw [q1] at this; cases this
        have n45 : t4 ≠ t5 := ne_of_none g4 ht5
        have i5 : ∀ o, upd (upd H5 t5 o) b o7 t5 = some o := fun o => by rw [upd_ne nb5.symm, upd_same]
        have i4 : ∀ o, upd (upd H5 t5 o) b o7 t4 = some (.lst [V.ref t1, V.ref t2, V.ref t3]) := fun o => by rw [upd_ne nb4.symm, upd_ne n45]; exact g4
        simp! [i5, i4]
        have k6 : Kp [b] H5 (upd (upd H5 t5 (.lst [V.int 0, V.int 0, V.int 0, V.int 0, V.int 1, V.int 2])) b o7) := by
          obtain ⟨xs9, e9⟩ := F4.ho.lst
          have hb5 := F5.hb
          rw [e9] at hb5
          exact ((Kp.refl [b] H5).new ht5).set hb5 (.inl (by simp))
        have pick : ∀ (r : RE) (t : Addr), r.ok rs.length → H5 t = some (.tup (erowV r)) → ∃ xs_1, lstOf (upd (upd H5 t5 (.lst [V.int 0, V.int 0, V.int 0, V.int 0, V.int 1, V.int 2])) b o7 q) = some xs_1 ∧ xs_1.length < sizeLine ∧
            IE H b q z (m : Int) (i + 1) [some (V.ref b), some (V.str z), some (V.int (m : Int)), some (V.ref q), some (V.int (0 + (i : Int))), some (V.int kd), some (V.ref t4), v7] (upd (upd (upd H5 t5 (.lst [V.int 0, V.int 0, V.int 0, V.int 0, V.int 1, V.int 2])) b o7) q (.lst (xs_1 ++ [V.ref t]))) :=
          fun r t hr ht => ⟨us, by rw [F6.hq]; rfl, by omega, us ++ [.ref t], rs ++ [r], o7, _, _, _, _, rfl, by simp [hl], F6.put r hr (k6.tup _ _ ht) hq nbq⟩
        have : e = 0 ∨ e = 1 ∨ e = 2 ∨ e = 3 ∨ e = 4 ∨ e = 5 := by omega
        rcases this with rfl | rfl | rfl | rfl | rfl | rfl
        · exact ⟨_, atI_of (by decide) rfl, _, by rw [i4]; rfl, _, atI_of (by decide) rfl, pick (.letter ⟨#[ch]⟩) t1 rfl g1⟩
        · exact ⟨_, atI_of (by decide) rfl, _, by rw [i4]; rfl, _, atI_of (by decide) rfl, pick (.letter ⟨#[ch]⟩) t1 rfl g1⟩
        · exact ⟨_, atI_of (by decide) rfl, _, by rw [i4]; rfl, _, atI_of (by decide) rfl, pick (.letter ⟨#[ch]⟩) t1 rfl g1⟩
        · exact ⟨_, atI_of (by decide) rfl, _, by rw [i4]; rfl, _, atI_of (by decide) rfl, pick (.letter ⟨#[ch]⟩) t1 rfl g1⟩
        · exact ⟨_, atI_of (by decide) rfl, _, by rw [i4]; rfl, _, atI_of (by decide) rfl, pick .blank t2 trivial g2⟩
        · exact ⟨_, atI_of (by decide) rfl, _, by rw [i4]; rfl, _, atI_of (by decide) rfl, pick .nothing t3 trivial g3⟩
      · refine ⟨by rw [F2.hq]; rfl, b, _, _, rfl, F2.hb, F2.ho, by omega, by omega, fun e o7 H5 e0 e1 ho7 hb7 k7 => ⟨by omega, fun t ht => ?_⟩⟩
        obtain ⟨j, rfl⟩ : ∃ j : Nat, e = (j : Int) := ⟨e.toNat, by omega⟩
        have F6 := (F2.step nbq k7 ho7 hb7).new (x := .tup [V.str (Str.ofString "not"), V.int (j : Int)]) ht
        exact ⟨us, by rw [F6.hq]; rfl, by omega, us ++ [.ref t], rs ++ [.no j], o7, _, _, _, _, rfl, by simp [hl], F6.put (.no j) (show j < rs.length by omega) upd_same hq nbq⟩
      · obtain ⟨bb, hbb⟩ : ∃ bb : BW, atI [V.str (Str.ofString "behind"), V.str (Str.ofString "behind"), V.str (Str.ofString "behind"), V.str (Str.ofString "or"), V.str (Str.ofString "or"), V.str (Str.ofString "and")] (kd - 6) = some (.str (ew bb)) := by
          have : kd = 6 ∨ kd = 7 ∨ kd = 8 ∨ kd = 9 ∨ kd = 10 ∨ kd = 11 := by omega
          rcases this with rfl | rfl | rfl | rfl | rfl | rfl
          · exact ⟨.beh, atI_of (by decide) rfl⟩
          · exact ⟨.beh, atI_of (by decide) rfl⟩
          · exact ⟨.beh, atI_of (by decide) rfl⟩
          · exact ⟨.or, atI_of (by decide) rfl⟩
          · exact ⟨.or, atI_of (by decide) rfl⟩
          · exact ⟨.and, atI_of (by decide) rfl⟩
        refine ⟨by omega, fun t0 ht0 => ?_⟩
        have Fa := F2.new (x := .lst [V.str (Str.ofString "behind"), V.str (Str.ofString "behind"), V.str (Str.ofString "behind"), V.str (Str.ofString "or"), V.str (Str.ofString "or"), V.str (Str.ofString "and")]) ht0
        refine ⟨_, hbb, by rw [Fa.hq]; rfl, ?_⟩
        refine ⟨b, _, _, rfl, Fa.hb, Fa.ho, by omega, by omega, fun e o7 H5 e0 e1 ho7 hb7 k7 => ?_⟩
        have Fb := Fa.step nbq k7 ho7 hb7
        refine ⟨b, _, _, rfl, hb7, ho7, by omega, by omega, fun e2 o8 e20 e21 ho8 => ⟨by omega, fun t ht => ?_⟩⟩
        obtain ⟨j, rfl⟩ : ∃ j : Nat, e = (j : Int) := ⟨e.toNat, by omega⟩
        obtain ⟨l, rfl⟩ : ∃ l : Nat, e2 = (l : Int) := ⟨e2.toNat, by omega⟩
        have F6 := (Fb.box nbq ho8).new (x := .tup [V.str (ew bb), V.int (j : Int), V.int (l : Int)]) ht
        exact ⟨us, by rw [F6.hq]; rfl, by omega, us ++ [.ref t], rs ++ [.bin bb j l], o8, _, _, _, _, rfl, by simp [hl], F6.put (.bin bb j l) (show j < rs.length ∧ l < rs.length by omega) upd_same hq nbq⟩
    · rintro σ H1 ⟨us, rs, o2, v4, v5, v6, v7, rfl, hl, F1⟩
      simp!
      refine rTupleU_lst F1.hq fun t ht => ?_
      have kt := (Kp.refl [b] H1).new (o := .tup us) ht
      exact k t us rs o2 _ upd_same (F1.ex.kp kt) (by omega) (by omega) F1.ho (by rw [upd_ne (ne_of_none F1.hb ht)]; exact F1.hb) (F1.kp.trans kt)
end
theorem exp_ar {H : Hp} {us : List V} {rs : List RE} (E : Exp H us rs) : AR H us (rs.map erowV) ∧ ∀ (k : Nat) (t : Addr), us[k]? = some (V.ref t) → ∃ y rest, H t = some (.tup (.str y :: rest)) ∧ 1 ≤ y.length ∧ y.length ≤ 20 ∧ rest.length ≤ 2 ∧ ∀ v ∈ rest, At v := by
  have one : ∀ (k : Nat) (t : Addr), us[k]? = some (V.ref t) → ∃ y rest, H t = some (.tup (.str y :: rest)) ∧ 1 ≤ y.length ∧ y.length ≤ 20 ∧ rest.length ≤ 2 ∧ ∀ v ∈ rest, At v := fun k t e => by
    obtain ⟨r, e1, a, e2, g⟩ := pair_get E.at_ e
    cases e2
    obtain ⟨z, rest, e3, h1, h2, h3, h4⟩ := erow_ok (E.ok k r e1)
    exact ⟨z, rest, by rw [g, e3], h1, h2, h3, h4⟩
  refine ⟨?_, one⟩
  have gen : ∀ {us : List V} {rs : List RE}, Paired (fun (v : V) (r : RE) => ∃ a : Addr, v = V.ref a ∧ H a = some (.tup (erowV r))) us rs → (∀ r ∈ rs, ∃ k, r.ok k) → AR H us (rs.map erowV) := by
    intro us rs h
    induction h with
    | nil => intro _; exact .nil
    | cons h t ih =>
      intro ok
      obtain ⟨a, e, g⟩ := h
      obtain ⟨k, hk⟩ := ok _ (.head _)
      obtain ⟨z, rest, e3, h1, h2, h3, h4⟩ := erow_ok hk
      refine .cons ⟨a, e, g, ?_⟩ (ih fun r hr => ok r (.tail _ hr))
      rw [e3]
      exact RowO.cons (by omega) h4 (by omega)
  exact gen E.at_ fun r hr => by
    obtain ⟨k, hk⟩ := List.getElem?_of_mem hr
    exact ⟨k, E.ok k r hk⟩
theorem AR.set {H : Hp} {us : List V} {R : List (List V)} {k : Nat} {t : Addr} {xs : List V} (h : AR H us R) (ht : H t = some (.tup xs)) (ro : RowO xs) : AR H (us.set k (.ref t)) (R.set k xs) := by
  unfold AR at h ⊢
  induction h generalizing k with
  | nil => exact .nil
  | cons h t ih =>
    cases k with
    | zero => exact .cons ⟨_, rfl, ht, ro⟩ t
    | succ k => exact .cons h ih
def spLawT (K : PySem.W.Frag) (Pt : Addr) : Sp := fun vs H Q _ => ∃ (a : Addr) (ns : List Int), vs = [.ref a] ∧ SqL K H a (ns.map V.int) ∧ ns.length ≤ 63 ∧ a ≠ Pt ∧ TabOk H Pt LQ ∧ ∀ H', Q (.bl true) H'
structure TLw (mg : Str → Option Value) (fb ft fl fe fs fa fr : Addr) : Prop where
  n_len : mg "len" = none
  n_int : mg "int" = none
  n_list : mg "list" = none
  n_tuple : mg "tuple" = none
  n_range : mg "range" = none
  m__law_box : mg "_law_box" = some (.ref fb)
  m__law_take : mg "_law_take" = some (.ref ft)
  m__law_letters : mg "_law_letters" = some (.ref fl)
  m__law_expression : mg "_law_expression" = some (.ref fe)
  m__law_spoilt : mg "_law_spoilt" = some (.ref fs)
  m__law_any_row : mg "_law_any_row" = some (.ref fa)
  m__law_right : mg "_law_right" = some (.ref fr)
section
variable {P : Program} {w : World} {K : PySem.W.Frag} {mg : Str → Option Value} {base : Heap}
abbrev s_law : Stmt := top 37
theorem sc_law : FnScope ["_law_script", "_law_box_here", "_law_letters_here", "_law_good", "_law_at", "_law_marred", "_law_rows", "_law_k", "_law_spot", "_law_other", "_law_both", "_law_cut", "_law_fewer"] ["_law_script"] (defScope s_law) := ⟨rfl, rfl, rfl, by decide +kernel, rfl, by decide +kernel, by decide +kernel⟩
theorem ok_law {f fb ft fl fe fs fa fr Pt : Addr} {fd fdb fdt fdl fde fds fda fdr : FuncData} (F : Fun K "law" "law" s_law f fd) (T : TLw mg fb ft fl fe fs fa fr)
    (F__law_box : Fun K "_law_box" "_law_box" s__law_box fb fdb) (b__law_box : Binds K fdb ["_law_script", "_law_k"] []) (G__law_box : FnOk P w K mg base CX0 1 fb fdb ["_law_script", "_law_k"] (spBox K))
    (F__law_take : Fun K "_law_take" "_law_take" s__law_take ft fdt) (b__law_take : Binds K fdt ["_law_box_here", "_law_wide"] []) (G__law_take : FnOk P w K mg base CX0 1 ft fdt ["_law_box_here", "_law_wide"] spTake)
    (F__law_letters : Fun K "_law_letters" "_law_letters" s__law_letters fl fdl) (b__law_letters : Binds K fdl ["_law_box_here", "_law_most"] []) (G__law_letters : FnOk P w K mg base CX0 2 fl fdl ["_law_box_here", "_law_most"] spLetters)
    (F__law_expression : Fun K "_law_expression" "_law_expression" s__law_expression fe fde) (b__law_expression : Binds K fde ["_law_box_here", "_law_letters_here", "_law_most"] []) (G__law_expression : FnOk P w K mg base CX0 3 fe fde ["_law_box_here", "_law_letters_here", "_law_most"] spExp)
    (F__law_spoilt : Fun K "_law_spoilt" "_law_spoilt" s__law_spoilt fs fds) (b__law_spoilt : Binds K fds ["_law_box_here", "_law_letters_here", "_law_rows", "_law_at"] []) (G__law_spoilt : FnOk P w K mg base CX0 3 fs fds ["_law_box_here", "_law_letters_here", "_law_rows", "_law_at"] spSp)
    (F__law_any_row : Fun K "_law_any_row" "_law_any_row" s__law_any_row fa fda) (b__law_any_row : Binds K fda ["_law_box_here", "_law_letters_here", "_law_at"] []) (G__law_any_row : FnOk P w K mg base CX0 2 fa fda ["_law_box_here", "_law_letters_here", "_law_at"] spAR)
    (F__law_right : Fun K "_law_right" "_law_right" s__law_right fr fdr) (b__law_right : Binds K fdr ["_law_letters_here", "_law_rows"] []) (G__law_right : FnOk P w K mg base CX0 8 fr fdr ["_law_letters_here", "_law_rows"] (spRt Pt)) : FnOk P w K mg base CX0 9 f fd ["_law_script"] (spLawT K Pt) := by
  refine F.ok sc_law (fun vs H Q E h => ?_) (fun cdv A outer s H vs Q E hr h => ?_)
  · obtain ⟨a, ns, rfl, _⟩ := h
    rfl
  · obtain ⟨a, ns, rfl, hS, hn, naP, tb, kQ⟩ := h
    have hu := hr.units
    have hsz : sizeLine = 16777216 := PySem.sizeLine_eq
    obtain ⟨tps, hPt, _⟩ := id tb
    refine exQ (qpss_cons (qps_set (i := 1) sc_law.nd rfl (by first | exact Or.inl rfl | exact Or.inr rfl) (qpe_call G__law_box (hr.mono (by decide)) rfl T.m__law_box F__law_box.kp b__law_box .nil pass0 (qpa_cons (qpv 0) (qpa_cons qpe_int qpa_nil))))
    (qpss_cons (qps_set (i := 2) sc_law.nd rfl (by first | exact Or.inl rfl | exact Or.inr rfl) (qpe_call G__law_letters (hr.mono (by decide)) rfl T.m__law_letters F__law_letters.kp b__law_letters .nil pass0 (qpa_cons (qpv 1) (qpa_cons qpe_int qpa_nil))))
    (qpss_cons (qps_set (i := 3) sc_law.nd rfl (by first | exact Or.inl rfl | exact Or.inr rfl) (qpe_call G__law_expression (hr.mono (by decide)) rfl T.m__law_expression F__law_expression.kp b__law_expression .nil pass0 (qpa_cons (qpv 1) (qpa_cons (qpv 2) (qpa_cons (qpe_ix ix_U (qpe_lst (qpa_cons qpe_int (qpa_cons qpe_int qpa_nil))) (qpe_callTy call_intU (by rfl) T.n_int bt_int (qpa_cons (qpe_cmpR (op_eqU hu) (qpe_call G__law_take (hr.mono (by decide)) rfl T.m__law_take F__law_take.kp b__law_take .nil pass0 (qpa_cons (qpv 1) (qpa_cons qpe_int qpa_nil))) qpe_int (nomark _)) qpa_nil)) (fun _ _ => rfl)) qpa_nil)))))
    (qpss_cons (qps_set (i := 4) sc_law.nd rfl (by first | exact Or.inl rfl | exact Or.inr rfl) (qpe_call G__law_take (hr.mono (by decide)) rfl T.m__law_take F__law_take.kp b__law_take .nil pass0 (qpa_cons (qpv 1) (qpa_cons (qpe_callB call_lenU (by rfl) T.n_len bt_len (qpa_cons (qpv 3) qpa_nil)) qpa_nil))))
    (qpss_cons (qps_set (i := 5) sc_law.nd rfl (by first | exact Or.inl rfl | exact Or.inr rfl) (qpe_callTy (call_listU rfl) (by rfl) T.n_list bt_list (qpa_cons (qpv 3) qpa_nil)))
    (qpss_cons (qps_asg (qpe_call G__law_spoilt (hr.mono (by decide)) rfl T.m__law_spoilt F__law_spoilt.kp b__law_spoilt .nil pass0 (qpa_cons (qpe_call G__law_box (hr.mono (by decide)) rfl T.m__law_box F__law_box.kp b__law_box .nil pass0 (qpa_cons (qpv 0) (qpa_cons qpe_int qpa_nil))) (qpa_cons (qpv 2) (qpa_cons (qpv 3) (qpa_cons (qpv 4) qpa_nil))))) (qpg_sub (qpv 5) (qpv 4) set_U))
    (qpss_cons (qps_for PassesOwn.never rfl (qpi_any (K := K) (qpe_lst (qpa_cons (qpv 3) (qpa_cons (qpe_callTy call_tupleU (by rfl) T.n_tuple bt_tuple (qpa_cons (qpv 5) qpa_nil)) (qpa_cons (qpe_tup qpa_nil) qpa_nil)))) rfl) (qpg_name (i := 6) sc_law.nd rfl (by first | exact Or.inl rfl | exact Or.inr rfl)) (qpss_one (qps_if (qpt_not (qpt_val (qpe_call G__law_right (hr.mono (by decide)) rfl T.m__law_right F__law_right.kp b__law_right .nil pass0 (qpa_cons (qpv 2) (qpa_cons (qpv 6) qpa_nil))))) (qpss_one (qps_ret qpe_bl)) qpss_nil)))
    (qpss_cons (qps_for PassesOwn.never rfl (qpi_range2 rfl T.n_range (qpa_cons qpe_int (qpa_cons (qpe_op op_addW qpe_int (qpe_callB call_lenU (by rfl) T.n_len bt_len (qpa_cons (qpe_slice (sl_UK (K := K) rfl) (qpv 0) (qpo_some qpe_int) (qpo_some qpe_int)) qpa_nil))) qpa_nil))) (qpg_name (i := 7) sc_law.nd rfl (by first | exact Or.inl rfl | exact Or.inr rfl)) (qpss_cons (qps_set (i := 1) sc_law.nd rfl (by first | exact Or.inl rfl | exact Or.inr rfl) (qpe_call G__law_box (hr.mono (by decide)) rfl T.m__law_box F__law_box.kp b__law_box .nil pass0 (qpa_cons (qpv 0) (qpa_cons (qpv 7) qpa_nil))))
    (qpss_cons (qps_set (i := 8) sc_law.nd rfl (by first | exact Or.inl rfl | exact Or.inr rfl) (qpe_call G__law_take (hr.mono (by decide)) rfl T.m__law_take F__law_take.kp b__law_take .nil pass0 (qpa_cons (qpv 1) (qpa_cons (qpe_callB call_lenU (by rfl) T.n_len bt_len (qpa_cons (qpv 3) qpa_nil)) qpa_nil))))
    (qpss_cons (qps_set (i := 9) sc_law.nd rfl (by first | exact Or.inl rfl | exact Or.inr rfl) (qpe_callTy (call_listU rfl) (by rfl) T.n_list bt_list (qpa_cons (qpv 3) qpa_nil)))
    (qpss_cons (qps_asg (qpe_call G__law_any_row (hr.mono (by decide)) rfl T.m__law_any_row F__law_any_row.kp b__law_any_row .nil pass0 (qpa_cons (qpv 1) (qpa_cons (qpv 2) (qpa_cons (qpv 8) qpa_nil)))) (qpg_sub (qpv 9) (qpv 8) set_U))
    (qpss_cons (qps_set (i := 10) sc_law.nd rfl (by first | exact Or.inl rfl | exact Or.inr rfl) (qpe_callTy (call_listU rfl) (by rfl) T.n_list bt_list (qpa_cons (qpv 5) qpa_nil)))
    (qpss_cons (qps_asg (qpe_ix ix_U (qpv 9) (qpv 8) (fun _ _ => rfl)) (qpg_sub (qpv 10) (qpv 8) set_U))
    (qpss_one (qps_for PassesOwn.never rfl (qpi_any (K := K) (qpe_lst (qpa_cons (qpe_callTy call_tupleU (by rfl) T.n_tuple bt_tuple (qpa_cons (qpv 9) qpa_nil)) (qpa_cons (qpe_callTy call_tupleU (by rfl) T.n_tuple bt_tuple (qpa_cons (qpv 10) qpa_nil)) qpa_nil))) rfl) (qpg_name (i := 6) sc_law.nd rfl (by first | exact Or.inl rfl | exact Or.inr rfl)) (qpss_one (qps_if (qpt_not (qpt_val (qpe_call G__law_right (hr.mono (by decide)) rfl T.m__law_right F__law_right.kp b__law_right .nil pass0 (qpa_cons (qpv 2) (qpa_cons (qpv 6) qpa_nil))))) (qpss_one (qps_ret qpe_bl)) qpss_nil)))))))))))
    (qpss_cons (qps_set (i := 11) sc_law.nd rfl (by first | exact Or.inl rfl | exact Or.inr rfl) (qpe_op op_mod (qpv 4) (qpe_callB call_lenU (by rfl) T.n_len bt_len (qpa_cons (qpv 2) qpa_nil))))
    (qpss_cons (qps_set (i := 12) sc_law.nd rfl (by first | exact Or.inl rfl | exact Or.inr rfl) (qpe_op op_addW (qpe_slice (sl_UK (K := K) rfl) (qpv 2) qpo_none (qpo_some (qpv 11))) (qpe_slice (sl_UK (K := K) rfl) (qpv 2) (qpo_some (qpe_op op_addW (qpv 11) qpe_int)) qpo_none)))
    (qpss_cons (qps_if (QW.pt (qpw_and (qpt_cmpR op_gt (qpe_callB call_lenU (by rfl) T.n_len bt_len (qpa_cons (qpv 12) qpa_nil)) qpe_int (nomark _)) (qpw_and1 (qpt_not (qpt_val (qpe_call G__law_right (hr.mono (by decide)) rfl T.m__law_right F__law_right.kp b__law_right .nil pass0 (qpa_cons (qpv 12) (qpa_cons (qpv 3) qpa_nil)))))))) (qpss_one (qps_ret qpe_bl)) qpss_nil)
    (qpss_one (qps_ret (qpe_and (qpe_call G__law_right (hr.mono (by decide)) rfl T.m__law_right F__law_right.kp b__law_right .nil pass0 (qpa_cons (qpv 2) (qpa_cons (qpv 3) qpa_nil))) (qpe_one (qpe_call G__law_right (hr.mono (by decide)) rfl T.m__law_right F__law_right.kp b__law_right .nil pass0 (qpa_cons (qpe_rev (qpv 2)) (qpa_cons (qpv 3) qpa_nil)))))))))))))))))) ?_
    simp!
    refine ⟨a, 0, ns, rfl, hS, by omega, by omega, fun b o hb ho => ?_⟩
    have inb : ∀ x ∈ [b], x ∈ ([] : List Addr) ∨ H x = none := fun x hx => .inr (by cases List.mem_singleton.mp hx; exact hb)
    have k0 : Kp [] H (upd H b o) := (Kp.refl [] H).new hb
    refine ⟨b, 4, o, rfl, upd_same, ho, by omega, by omega, fun z o1 H1 hz ho1 hb1 k1 => ?_⟩
    refine ⟨by omega, fun p hp => ?_⟩
    have sb1 : SB (upd H b o) b H1 := ⟨k1, o1, hb1, ho1⟩
    refine (sb1.new hp).tq (by omega) (by omega) fun d H2 d0 d1 sb2 k2 => ?_
    have hp2 := k2.old _ _ upd_same (by simpa using sb1.ne hp)
    simp! [hp2]
    obtain ⟨v, av, mm, rfl, m1, m2⟩ := at_any (l := [V.int 12, V.int 60]) (M := fun v => ∃ m : Nat, v = .int (m : Int) ∧ 1 ≤ m ∧ m ≤ 60) (fun v hv => by
      simp only [List.mem_cons, List.not_mem_nil, or_false] at hv
      rcases hv with rfl | rfl
      · exact ⟨12, rfl, by decide, by decide⟩
      · exact ⟨60, rfl, by decide, by decide⟩) (d := if d = 0 then 1 else 0) (by split <;> decide) (by split <;> (simp; try decide))
    refine ⟨_, av, ?_⟩
    obtain ⟨o2, hb2, ho2⟩ := sb2.bx
    have zl := hz.lo
    have zh := hz.hi
    refine ⟨b, z, mm, o2, rfl, hb2, ho2, zl, by omega, m1, by omega, fun g us rs o3 H3 hg ex l1 l2 ho3 hb3 k3 => ?_⟩
    have lu : us.length = rs.length := ex.len
    have sb3 : SB (upd H b o) b H3 := ⟨sb2.kp.trans k3, o3, hb3, ho3⟩
    simp! [hg]
    refine sb3.tq (by omega) (by omega) fun at' H4 at0 at1 sb4 k4 => ?_
    obtain ⟨n, rfl⟩ : ∃ n : Nat, at' = (n : Int) := ⟨at'.toNat, by omega⟩
    have hg4 := k4.tup _ _ hg
    have ex4 := ex.kp k4
    simp! [hg4]
    intro l hl
    have k04 : Kp [] H H4 := k0.trans' sb4.kp inb
    have k5 : Kp [] H (upd H4 l (.lst us)) := k04.new hl
    have hl0 : H l = none := k04.free hl
    refine ⟨a, 1, ns, rfl, k5.seq (by simp) hS, by omega, by omega, fun b2 o5 hb5 ho5 => ?_⟩
    have hb20 : H b2 = none := k5.free hb5
    have k6 : Kp [] H (upd (upd H4 l (.lst us)) b2 o5) := k5.new hb5
    have k46 : Kp [] H4 (upd (upd H4 l (.lst us)) b2 o5) := ((Kp.refl [] H4).new hl).new hb5
    obtain ⟨ar4, one4⟩ := exp_ar ex4
    have nlt : n < us.length := by omega
    obtain ⟨xs0, t, _, ht0, _, _⟩ := ar4.get (List.getElem?_eq_getElem nlt)
    have hut : us[n]? = some (.ref t) := by rw [List.getElem?_eq_getElem nlt, ht0]
    obtain ⟨y, rest, hty, y1, y2, lr, arr⟩ := one4 n t hut
    have nlb : l ≠ b2 := ne_of_none upd_same hb5
    have hl6 : upd (upd H4 l (.lst us)) b2 o5 l = some (.lst us) := by rw [upd_ne nlb, upd_same]
    refine ⟨b2, g, z, us, n, t, y, rest, rfl, ⟨Kp.refl _ _, o5, upd_same, ho5⟩, hz, k46.tup _ _ hg4, by omega, hut, k46.tup _ _ hty, y1, y2, lr, arr, fun q xs H7 hq ro sb7 => ?_⟩
    generalize upd (upd H4 l (.lst us)) b2 o5 = H6 at k6 k46 hl6 sb7
    have hl7 : H7 l = some (.lst us) := sb7.kp.old _ _ hl6 (by simpa using nlb)
    have inb2 : ∀ x ∈ [b2], x ∈ ([] : List Addr) ∨ H x = none := fun x hx => .inr (by cases List.mem_singleton.mp hx; exact hb20)
    have k7 : Kp [] H H7 := k6.trans' sb7.kp inb2
    have k47 : Kp [b2] H4 H7 := (k46.mono (by simp)).trans sb7.kp
    refine ⟨us, by rw [hl7]; rfl, n, by unfold ixN; rw [if_pos (by omega), if_pos (by omega)]; simp, ?_⟩
    refine rTupleU_lst upd_same fun t1 ht1 => ⟨by omega, fun t2 ht2 => ⟨by omega, fun L hL => ?_⟩⟩
    have kq : Kp [l] H7 (upd H7 l (.lst (us.set n (V.ref q)))) := (Kp.refl [l] H7).set hl7 (.inl (by simp))
    have kz : Kp [l] H7 (upd (upd (upd (upd H7 l (.lst (us.set n (V.ref q)))) t1 (.tup (us.set n (V.ref q)))) t2 (.tup [])) L (.lst [V.ref g, V.ref t1, V.ref t2])) := ((kq.new ht1).new ht2).new hL
    have kHs : Kp [] H (upd (upd (upd (upd H7 l (.lst (us.set n (V.ref q)))) t1 (.tup (us.set n (V.ref q)))) t2 (.tup [])) L (.lst [V.ref g, V.ref t1, V.ref t2])) := (((k7.set hl7 (.inr hl0)).new ht1).new ht2).new hL
    have n1L : t1 ≠ L := ne_of_none (by rw [upd_ne (ne_of_none upd_same ht2), upd_same]) hL
    have n12 : t1 ≠ t2 := ne_of_none upd_same ht2
    have n2L : t2 ≠ L := ne_of_none upd_same hL
    have nl1 : l ≠ t1 := ne_of_none upd_same ht1
    have nl2 : l ≠ t2 := ne_of_none (by rw [upd_ne nl1, upd_same]) ht2
    have nlL : l ≠ L := ne_of_none (by rw [upd_ne nl2, upd_ne nl1, upd_same]) hL
    have g1 : upd (upd (upd (upd H7 l (.lst (us.set n (V.ref q)))) t1 (.tup (us.set n (V.ref q)))) t2 (.tup [])) L (.lst [V.ref g, V.ref t1, V.ref t2]) t1 = some (.tup (us.set n (V.ref q))) := by rw [upd_ne n1L, upd_ne n12, upd_same]
    have g2 : upd (upd (upd (upd H7 l (.lst (us.set n (V.ref q)))) t1 (.tup (us.set n (V.ref q)))) t2 (.tup [])) L (.lst [V.ref g, V.ref t1, V.ref t2]) t2 = some (.tup []) := by rw [upd_ne n2L, upd_same]
    have gl : upd (upd (upd (upd H7 l (.lst (us.set n (V.ref q)))) t1 (.tup (us.set n (V.ref q)))) t2 (.tup [])) L (.lst [V.ref g, V.ref t1, V.ref t2]) l = some (.lst (us.set n (V.ref q))) := by rw [upd_ne nlL, upd_ne nl2, upd_ne nl1, upd_same]
    have gL : upd (upd (upd (upd H7 l (.lst (us.set n (V.ref q)))) t1 (.tup (us.set n (V.ref q)))) t2 (.tup [])) L (.lst [V.ref g, V.ref t1, V.ref t2]) L = some (.lst [V.ref g, V.ref t1, V.ref t2]) := upd_same
    generalize upd (upd (upd (upd H7 l (.lst (us.set n (V.ref q)))) t1 (.tup (us.set n (V.ref q)))) t2 (.tup [])) L (.lst [V.ref g, V.ref t1, V.ref t2]) = Hs at kz kHs g1 g2 gl gL ⊢
    have ghs : Hs g = some (.tup us) := kz.tup _ _ (k47.tup _ _ hg4)
    have arS : AR Hs us (rs.map erowV) := (ar4.kp k47).kp kz
    have amS : AR Hs (us.set n (V.ref q)) ((rs.map erowV).set n xs) := arS.set (kz.tup _ _ hq) ro
    have lR : (rs.map erowV).length ≤ 60 := by rw [List.length_map]; omega
    have lM : ((rs.map erowV).set n xs).length ≤ 60 := by rw [List.length_set]; exact lR
    have lum : (us.set n (V.ref q)).length = us.length := List.length_set ..
    have hSs : SqL K Hs a (ns.map V.int) := kHs.seq (by simp) hS
    have tbS : TabOk Hs Pt LQ := tb.kp kHs (by simp) (by simp)
    have PtS : ∃ ps, Hs Pt = some (.tbl ps) := let ⟨ps, e, _⟩ := tbS; ⟨ps, e⟩
    obtain ⟨pS, hPS⟩ := PtS
    have nlP : l ≠ Pt := fun e => by rw [e, hPS] at gl; cases gl
    have nLP : L ≠ Pt := fun e => by rw [e, hPS] at gL; cases gL
    generalize (rs.map erowV).set n xs = M at amS lM
    generalize rs.map erowV = R at arS lR
    generalize us.set n (V.ref q) = um at gl g1 amS lum
    clear kz k47 k7 hl7 sb7 hq
    have right : ∀ (z' : Str) (t : Addr) (us' : List V) (R' : List (List V)) (H' : Hp) (Q' : VK), z'.length ≤ 100 → R'.length ≤ 200 → H' t = some (.tup us') → AR H' us' R' → TabOk H' Pt LQ → (∀ H2, Kp [Pt] H' H2 → TabOk H2 Pt LQ → Q' (.bl true) H2) → spRt Pt [.str z', .ref t] H' Q' E0 := fun z' t us' R' H' Q' h1 h2 h3 h4 h5 h6 => ⟨z', t, us', R', rfl, h3, h4, h1, h2, h5, h6⟩
    refine loop_list (xs := [V.ref g, V.ref t1, V.ref t2]) (fun i σ H' => ∃ v6 : Option V, σ = [some (.ref a), some (.ref b), some (.str z), some (.ref g), some (.int (n : Int)), some (.ref l), v6, none, none, none, none, none, none] ∧ Kp [Pt] Hs H' ∧ TabOk H' Pt LQ) ⟨none, rfl, Kp.refl _ _, tbS⟩ ?_ ?_ ?_
    · rintro i σ H' _ ⟨v6, rfl, kp, _⟩
      exact kp.old _ _ gL (by simpa using nLP)
    · rintro i x σ H' hx ⟨v6, rfl, kp, tb'⟩
      simp!
      have done : ∀ H2, Kp [Pt] H' H2 → TabOk H2 Pt LQ → ∃ c, V.bl true = V.bl c ∧ if (!c) = true then Q (V.bl false) H2 else Kp [Pt] Hs H2 ∧ TabOk H2 Pt LQ := fun H2 k2 tb2 => ⟨true, rfl, by rw [if_neg (by decide)]; exact ⟨kp.trans k2, tb2⟩⟩
      have hx' := List.mem_of_getElem? hx
      simp only [List.mem_cons, List.not_mem_nil, or_false] at hx'
      rcases hx' with rfl | rfl | rfl
      · exact right z g us R H' _ (by omega) (by omega) (kp.tup _ _ ghs) (arS.kp kp) tb' done
      · exact right z t1 um M H' _ (by omega) (by omega) (kp.tup _ _ g1) (amS.kp kp) tb' done
      · exact right z t2 [] [] H' _ (by omega) (by simp) (kp.tup _ _ g2) .nil tb' done
    · rintro σ H' ⟨v6, rfl, kp, tb'⟩
      simp!
      refine rSlU.sq (kp.seq (by simpa using naP) hSs) fun p hp => ?_
      have cl := cutV_length (ns.map V.int) (some 3) (some 12)
      rw [List.length_map] at cl
      generalize cutV (ns.map V.int) (some 3) (some 12) = cu at cl
      have kp0 : Kp [Pt] Hs (upd H' p (.lst cu)) := kp.new hp
      have tb0 : TabOk (upd H' p (.lst cu)) Pt LQ := tb'.kp ((Kp.refl [] H').new hp) (by simp) (by simp)
      have ep : upd H' p (.lst cu) p = some (.lst cu) := upd_same
      generalize upd H' p (.lst cu) = H0 at kp0 tb0 ep ⊢
      simp! [ep]
      refine ⟨2, 3 + (cu.length : Int), ⟨rfl, rfl⟩, ⟨by omega, by omega, by omega, by omega⟩, ?_⟩
      refine loop_range (fun i σ H' => ∃ v1 v6 v7 v8 v9 v10 : Option V, σ = [some (.ref a), v1, some (.str z), some (.ref g), some (.int (n : Int)), some (.ref l), v6, v7, v8, v9, v10, none, none] ∧ Kp [Pt] Hs H' ∧ TabOk H' Pt LQ) ⟨_, _, _, _, _, _, rfl, kp0, tb0⟩ ?_ ?_
      · rintro i σ H1 hi ⟨v1, v6', v7, v8, v9, v10, rfl, k1, tb1⟩
        simp!
        refine ⟨a, _, ns, rfl, k1.seq (by simpa using naP) hSs, by omega, by omega, fun b1 o hb ho => ?_⟩
        have sb0 : SB (upd H1 b1 o) b1 (upd H1 b1 o) := ⟨Kp.refl _ _, o, upd_same, ho⟩
        have kb : Kp [] H1 (upd H1 b1 o) := (Kp.refl [] H1).new hb
        have inb1 : ∀ x ∈ [b1], x ∈ ([] : List Addr) ∨ H1 x = none := fun x hx => .inr (by cases List.mem_singleton.mp hx; exact hb)
        have g0 := (k1.trans (kb.mono (by simp))).tup _ _ ghs
        generalize upd H1 b1 o = Hb at sb0 kb g0 ⊢
        simp! [g0]
        refine sb0.tq (by omega) (by omega) fun sp H2 sp0 sp1 sb2 k2 => ?_
        obtain ⟨n2, rfl⟩ : ∃ n2 : Nat, sp = (n2 : Int) := ⟨sp.toNat, by omega⟩
        have g2' := k2.tup _ _ g0
        simp! [g2']
        intro l9 hl9
        have nl9 := sb2.ne hl9
        have sb3 := sb2.new (x := .lst us) hl9
        have hl90 : H1 l9 = none := (kb.trans' sb2.kp inb1).free hl9
        refine ⟨b1, z, n2, rfl, sb3.self, zl, zh, by omega, fun q4 xs4 H4 hq4 ro4 sb4 => ?_⟩
        have h94 : H4 l9 = some (.lst us) := sb4.kp.old _ _ upd_same (by simpa using nl9)
        have k14 : Kp [] H1 H4 := kb.trans' (sb3.kp.trans sb4.kp) inb1
        have gl4 : H4 l = some (.lst um) := (k1.trans (k14.mono (by simp))).old _ _ gl (by simpa using nlP)
        have nll9 : l ≠ l9 := fun e => by rw [e] at gl; exact absurd (k1.old _ _ gl (by rw [← e]; simpa using nlP)) (by rw [hl90]; simp)
        refine ⟨us, by rw [h94]; rfl, n2, by unfold ixN; rw [if_pos (by omega), if_pos (by omega)]; simp, ?_⟩
        have k15 : Kp [] H1 (upd H4 l9 (.lst (us.set n2 (V.ref q4)))) := k14.set h94 (.inr hl90)
        have k45 : Kp [l9] H4 (upd H4 l9 (.lst (us.set n2 (V.ref q4)))) := (Kp.refl [l9] H4).set h94 (.inl (by simp))
        have h95 : upd H4 l9 (.lst (us.set n2 (V.ref q4))) l9 = some (.lst (us.set n2 (V.ref q4))) := upd_same
        have gl5 : upd H4 l9 (.lst (us.set n2 (V.ref q4))) l = some (.lst um) := by rw [upd_ne nll9]; exact gl4
        generalize upd H4 l9 (.lst (us.set n2 (V.ref q4))) = H5 at k15 k45 h95 gl5 ⊢
        refine ⟨um, by rw [gl5]; rfl, fun l10 hl10 => ?_⟩
        have n910 : l9 ≠ l10 := ne_of_none h95 hl10
        refine ⟨us.set n2 (V.ref q4), by rw [upd_ne n910, h95]; rfl, V.ref q4, atI_nat (by rw [List.getElem?_set_self (by omega)]), n2, by unfold ixN; rw [if_pos (by omega), if_pos (by omega)]; simp, ?_⟩
        refine rTupleU_lst (by rw [upd_ne n910]; exact h95) fun t3 ht3 => ?_
        have n103 : l10 ≠ t3 := ne_of_none upd_same ht3
        refine rTupleU_lst (ys := um.set n2 (V.ref q4)) (by rw [upd_ne n103, upd_same]) fun t4 ht4 => ⟨by omega, fun L2 hL2 => ?_⟩
        have k1e : Kp [] H1 (upd (upd (upd (upd H5 l10 (.lst (um.set n2 (V.ref q4)))) t3 (.tup (us.set n2 (V.ref q4)))) t4 (.tup (um.set n2 (V.ref q4)))) L2 (.lst [V.ref t3, V.ref t4])) := (((k15.new hl10).new ht3).new ht4).new hL2
        have k4e : Kp [l9] H4 (upd (upd (upd (upd H5 l10 (.lst (um.set n2 (V.ref q4)))) t3 (.tup (us.set n2 (V.ref q4)))) t4 (.tup (um.set n2 (V.ref q4)))) L2 (.lst [V.ref t3, V.ref t4])) := (((k45.new hl10).new ht3).new ht4).new hL2
        have n34 : t3 ≠ t4 := ne_of_none upd_same ht4
        have n4L : t4 ≠ L2 := ne_of_none upd_same hL2
        have n3L : t3 ≠ L2 := ne_of_none (by rw [upd_ne n34, upd_same]) hL2
        have e3 : upd (upd (upd (upd H5 l10 (.lst (um.set n2 (V.ref q4)))) t3 (.tup (us.set n2 (V.ref q4)))) t4 (.tup (um.set n2 (V.ref q4)))) L2 (.lst [V.ref t3, V.ref t4]) t3 = some (.tup (us.set n2 (V.ref q4))) := by rw [upd_ne n3L, upd_ne n34, upd_same]
        have e4 : upd (upd (upd (upd H5 l10 (.lst (um.set n2 (V.ref q4)))) t3 (.tup (us.set n2 (V.ref q4)))) t4 (.tup (um.set n2 (V.ref q4)))) L2 (.lst [V.ref t3, V.ref t4]) t4 = some (.tup (um.set n2 (V.ref q4))) := by rw [upd_ne n4L, upd_same]
        have eL : upd (upd (upd (upd H5 l10 (.lst (um.set n2 (V.ref q4)))) t3 (.tup (us.set n2 (V.ref q4)))) t4 (.tup (um.set n2 (V.ref q4)))) L2 (.lst [V.ref t3, V.ref t4]) L2 = some (.lst [V.ref t3, V.ref t4]) := upd_same
        generalize upd (upd (upd (upd H5 l10 (.lst (um.set n2 (V.ref q4)))) t3 (.tup (us.set n2 (V.ref q4)))) t4 (.tup (um.set n2 (V.ref q4)))) L2 (.lst [V.ref t3, V.ref t4]) = He at k1e k4e e3 e4 eL ⊢
        have kSe : Kp [Pt] Hs He := k1.trans (k1e.mono (by simp))
        have tbe : TabOk He Pt LQ := tb1.kp k1e (by simp) (by simp)
        have nL2P : L2 ≠ Pt := fun e => by obtain ⟨ps, ee, _⟩ := tbe; rw [e, ee] at eL; cases eL
        have ar3 : AR He (us.set n2 (V.ref q4)) (R.set n2 xs4) := (arS.kp kSe).set (k4e.tup _ _ hq4) ro4
        have ar4' : AR He (um.set n2 (V.ref q4)) (M.set n2 xs4) := (amS.kp kSe).set (k4e.tup _ _ hq4) ro4
        refine loop_list (xs := [V.ref t3, V.ref t4]) (fun j σ H' => ∃ v6 : Option V, σ = [some (.ref a), some (.ref b1), some (.str z), some (.ref g), some (.int (n : Int)), some (.ref l), v6, some (.int (2 + (i : Int))), some (.int (n2 : Int)), some (.ref l9), some (.ref l10), none, none] ∧ Kp [Pt] He H' ∧ TabOk H' Pt LQ) ⟨_, rfl, Kp.refl _ _, tbe⟩ ?_ ?_ ?_
        · rintro j σ H' _ ⟨v6, rfl, kp', _⟩
          exact kp'.old _ _ eL (by simpa using nL2P)
        · rintro j x σ H' hx ⟨v6, rfl, kp', tb''⟩
          simp!
          have done : ∀ H2, Kp [Pt] H' H2 → TabOk H2 Pt LQ → ∃ c, V.bl true = V.bl c ∧ if (!c) = true then Q (V.bl false) H2 else Kp [Pt] He H2 ∧ TabOk H2 Pt LQ := fun H2 k2 tb2 => ⟨true, rfl, by rw [if_neg (by decide)]; exact ⟨kp'.trans k2, tb2⟩⟩
          have hx' := List.mem_of_getElem? hx
          simp only [List.mem_cons, List.not_mem_nil, or_false] at hx'
          rcases hx' with rfl | rfl
          · exact right z t3 _ _ H' _ (by omega) (by rw [List.length_set]; omega) (kp'.tup _ _ e3) (ar3.kp kp') tb'' done
          · exact right z t4 _ _ H' _ (by omega) (by rw [List.length_set]; omega) (kp'.tup _ _ e4) (ar4'.kp kp') tb'' done
        · rintro σ H' ⟨v6, rfl, kp', tb''⟩
          exact ⟨_, _, _, _, _, _, rfl, kSe.trans kp', tb''⟩
      · rintro σ H1 ⟨v1, v6', v7, v8, v9, v10, rfl, k1, tb1⟩
        simp!
        have gh := k1.tup _ _ ghs
        have q0 := Int.emod_nonneg (n : Int) (show (z.length : Int) ≠ 0 by omega)
        have q1 := Int.emod_lt_of_pos (n : Int) (show (0 : Int) < z.length by omega)
        have c1 := cut_len z none (some ((n : Int) % (z.length : Int)))
        have c2 := cut_len z (some ((n : Int) % (z.length : Int) + 1)) none
        have lrev : (revS z).length ≤ 100 := by
          have : (revS z).length = z.length := by simp [revS, Str.length]
          omega
        have last : ∀ (H2 : Hp), Kp [Pt] Hs H2 → TabOk H2 Pt LQ → spRt Pt [V.str z, V.ref g] H2 (fun x H1 => ∃ c, x = V.bl c ∧ if c = true then z.length ≤ sizeLine ∧ spRt Pt [V.str (revS z), V.ref g] H1 Q E0 else Q (V.bl false) H1) E0 := fun H2 k2 tb2 =>
          right z g us R H2 _ (by omega) (by omega) (k2.tup _ _ ghs) (arS.kp k2) tb2 fun H3 k3 tb3 => ⟨true, rfl, by
            rw [if_pos rfl]
            exact ⟨by omega, right _ g us R H3 _ lrev (by omega) ((k2.trans k3).tup _ _ ghs) (arS.kp (k2.trans k3)) tb3 fun H4 _ _ => kQ H4⟩⟩
        have lf : (cutS z none (some ((n : Int) % (z.length : Int))) ++ cutS z (some ((n : Int) % (z.length : Int) + 1)) none).length ≤ 100 := by rw [apl]; omega
        refine ⟨by omega, by omega, by omega, by omega, by omega, by omega, ite2 (fun h => ?_) (fun h => last H1 k1 tb1)⟩
        exact right _ g us R H1 _ lf (by omega) gh (arS.kp k1) tb1 fun H3 k3 tb3 => ⟨true, rfl, by
          rw [if_neg (by decide)]
          exact last H3 (k1.trans k3) tb3⟩
end
theorem c_of {K : PySem.W.Frag} {hh : Heap} (X : K.In hh) {b c : Addr} {fd : FuncData} {oc : Value} {od : Option Addr} {osl : Array (Option Value)} (h3 : PySem.W.nsIn K mainGlobals "is_expression_row" = some (some (.ref b))) (h4 : K.lookup b = some ⟨oc, od, .func fd, osl⟩) (h5 : fd.code = .ref c) (h6 : PySem.W.codeHdIn K c 256 = true) : ∃ c, PySem.W.CodeHd hh c 256 := ⟨c, PySem.W.codeHd_of_K X h6⟩
theorem kdict_of {P : Program} {w : World} {K : PySem.W.Frag} {a : Addr} {kvs : List (Key × V)} {es : Array DictEntry} {ep : Nat} (lk : K.lookup a = some { cls := .type "dict", data := .dict es ep })
    (h : Paired (fun (e : DictEntry) (kv : Key × V) => ∃ x t, e.key = .str x t ∧ e.hash = PyData.keyHash w.params x ∧ kv.1 = .inr x ∧ RelV kv.2 e.val) es.toList kvs) (nd : (kvs.map Prod.fst).Nodup) : KDict P w K a kvs := by
  have key : ∀ {l : List DictEntry} {kvs : List (Key × V)}, Paired (fun (e : DictEntry) (kv : Key × V) => ∃ x t, e.key = .str x t ∧ e.hash = PyData.keyHash w.params x ∧ kv.1 = .inr x ∧ RelV kv.2 e.val) l kvs → ∃ m : List (Str × Tok × Value), l = m.map (entS w) ∧ KV kvs (m.map fun p => ((Sum.inr p.1 : Key), p.2.2)) := by
    intro l kvs h
    induction h with
    | nil => exact ⟨[], rfl, .nil⟩
    | cons h _ ih =>
      obtain ⟨x, t, e1, e2, e3, e4⟩ := h
      obtain ⟨m, f1, f2⟩ := ih
      rename_i e kv _ _ _
      refine ⟨(x, t, e.val) :: m, ?_, .cons ⟨e3, e4⟩ f2⟩
      rw [List.map_cons, ← f1]
      obtain ⟨hh, kk, vv⟩ := e
      cases e1
      cases e2
      rfl
  obtain ⟨m, e1, e2⟩ := key h
  exact KDict.of lk e1 e2 nd
theorem us1 {C : List Value → Prop} (h : ∀ v0 : Value, C [v0]) (us : List Value) (e : us.length = 1) : C us :=
  match us, e with | [v0], _ => h v0
theorem us3 {C : List Value → Prop} (h : ∀ v0 v1 v2 : Value, C [v0, v1, v2]) (us : List Value) (e : us.length = 3) : C us :=
  match us, e with | [v0, v1, v2], _ => h v0 v1 v2
theorem us4 {C : List Value → Prop} (h : ∀ v0 v1 v2 v3 : Value, C [v0, v1, v2, v3]) (us : List Value) (e : us.length = 4) : C us :=
  match us, e with | [v0, v1, v2, v3], _ => h v0 v1 v2 v3
theorem all_mk {l : PySem.W.OpenLaw} {w : World} {K : PySem.W.Frag} {h : Heap} {mg : Str → Option Value} {fa f1 f2 f3 f4 f5 f6 f7 f8 f9 f10 f11 f12 f13 f14 f15 f16 f17 f18 f19 f20 : Addr} (X : K.In h) (G : h.Ns mainGlobals mg) (hfa : mg "law" = some (.ref fa))
    {od1 od2 od3 od4 od5 od6 od7 od8 od9 od10 od11 od12 od13 od14 od15 od16 od17 od18 od19 od20 an1 an2 an3 an4 an5 an6 an7 an8 an9 an10 an11 an12 an13 an14 an15 an16 an17 an18 an19 an20 : Option Addr} {sl1 sl2 sl3 sl4 sl5 sl6 sl7 sl8 sl9 sl10 sl11 sl12 sl13 sl14 sl15 sl16 sl17 sl18 sl19 sl20 : Array (Option Value)} {oc1 kV1 dc1 pm1 cd1 ct1 oc2 kV2 dc2 pm2 cd2 ct2 oc3 kV3 dc3 pm3 cd3 ct3 oc4 kV4 dc4 pm4 cd4 ct4 oc5 kV5 dc5 pm5 cd5 ct5 oc6 kV6 dc6 pm6 cd6 ct6 oc7 kV7 dc7 pm7 cd7 ct7 oc8 kV8 dc8 pm8 cd8 ct8 oc9 kV9 dc9 pm9 cd9 ct9 oc10 kV10 dc10 pm10 cd10 ct10 oc11 kV11 dc11 pm11 cd11 ct11 oc12 kV12 dc12 pm12 cd12 ct12 oc13 kV13 dc13 pm13 cd13 ct13 oc14 kV14 dc14 pm14 cd14 ct14 oc15 kV15 dc15 pm15 cd15 ct15 oc16 kV16 dc16 pm16 cd16 ct16 oc17 kV17 dc17 pm17 cd17 ct17 oc18 kV18 dc18 pm18 cd18 ct18 oc19 kV19 dc19 pm19 cd19 ct19 oc20 kV20 dc20 pm20 cd20 ct20 : Value}
    {af cc D : Addr} {esf : Array DictEntry} {epf : Nat} {a0_ a1_ a2_ a3_ a4_ a5_ a6_ : Addr} {qd0 : Option Addr} {qi0 : Array Value} {qn0 : Nat} {qs0 : Array (Option Value)} {qd1 : Option Addr} {qi1 : Array Value} {qn1 : Nat} {qs1 : Array (Option Value)} {qd2 : Option Addr} {qi2 : Array Value} {qn2 : Nat} {qs2 : Array (Option Value)} {qd3 : Option Addr} {qi3 : Array Value} {qn3 : Nat} {qs3 : Array (Option Value)} {qd4 : Option Addr} {qi4 : Array Value} {qn4 : Nat} {qs4 : Array (Option Value)} {qd5 : Option Addr} {qi5 : Array Value} {qn5 : Nat} {qs5 : Array (Option Value)} {qd6 : Option Addr} {qi6 : Array Value} {qn6 : Nat} {qs6 : Array (Option Value)} {ND : Addr} {nmD qD : Str} {bsD subD : List Value} {snD : List Str} {abD : Bool} {colD : Option Bool} {ddD : Option Addr} {noD : Value} {kgD khD kiD kjD kkD : Option Value} {ndD : Option Addr} {esD : Array DictEntry} {enD : Nat} {nlD : Array (Option Value)} {C0 N0 : Addr} {nm0 q0 : Str} {bs0 sub0 : List Value} {sn0 : List Str} {ab0 : Bool} {col0 : Option Bool} {dd0 : Option Addr} {ka0 kb0 kc0 kd0 kf0 : Option Value} {C1 N1 : Addr} {nm1 q1 : Str} {bs1 sub1 : List Value} {sn1 : List Str} {ab1 : Bool} {col1 : Option Bool} {dd1 : Option Addr} {ka1 kb1 kc1 kd1 kf1 : Option Value} {C2 N2 : Addr} {nm2 q2 : Str} {bs2 sub2 : List Value} {sn2 : List Str} {ab2 : Bool} {col2 : Option Bool} {dd2 : Option Addr} {ka2 kb2 kc2 kd2 kf2 : Option Value} {C3 N3 : Addr} {nm3 q3 : Str} {bs3 sub3 : List Value} {sn3 : List Str} {ab3 : Bool} {col3 : Option Bool} {dd3 : Option Addr} {ka3 kb3 kc3 kd3 kf3 : Option Value} {C4 N4 : Addr} {nm4 q4 : Str} {bs4 sub4 : List Value} {sn4 : List Str} {ab4 : Bool} {col4 : Option Bool} {dd4 : Option Addr} {ka4 kb4 kc4 kd4 kf4 : Option Value} {C5 N5 : Addr} {nm5 q5 : Str} {bs5 sub5 : List Value} {sn5 : List Str} {ab5 : Bool} {col5 : Option Bool} {dd5 : Option Addr} {ka5 kb5 kc5 kd5 kf5 : Option Value} {C6 N6 : Addr} {nm6 q6 : Str} {bs6 sub6 : List Value} {sn6 : List Str} {ab6 : Bool} {col6 : Option Bool} {dd6 : Option Addr} {ka6 kb6 kc6 kd6 kf6 : Option Value} {C7 N7 : Addr} {nm7 q7 : Str} {bs7 sub7 : List Value} {sn7 : List Str} {ab7 : Bool} {col7 : Option Bool} {dd7 : Option Addr} {ka7 kb7 kc7 kd7 kf7 : Option Value} {C8 N8 : Addr} {nm8 q8 : Str} {bs8 sub8 : List Value} {sn8 : List Str} {ab8 : Bool} {col8 : Option Bool} {dd8 : Option Addr} {ka8 kb8 kc8 kd8 kf8 : Option Value} {C9 N9 : Addr} {nm9 q9 : Str} {bs9 sub9 : List Value} {sn9 : List Str} {ab9 : Bool} {col9 : Option Bool} {dd9 : Option Addr} {ka9 kb9 kc9 kd9 kf9 : Option Value} {C10 N10 : Addr} {nm10 q10 : Str} {bs10 sub10 : List Value} {sn10 : List Str} {ab10 : Bool} {col10 : Option Bool} {dd10 : Option Addr} {ka10 kb10 kc10 kd10 kf10 : Option Value} {C11 N11 : Addr} {nm11 q11 : Str} {bs11 sub11 : List Value} {sn11 : List Str} {ab11 : Bool} {col11 : Option Bool} {dd11 : Option Addr} {ka11 kb11 kc11 kd11 kf11 : Option Value} {no11 : Value} {nd11 : Option Addr} {es11 : Array DictEntry} {en11 : Nat} {nl11 : Array (Option Value)} {F11 : Addr} {vd11 va11 : Option Addr} {vs11 : Array (Option Value)} {vk11 vo11 vp11 vc11 vt11 : Value}
    (a1 : PySem.W.nsIn K mainGlobals "has_form" = some (some (.ref f1))) (l1 : K.lookup f1 = some ⟨oc1, od1, .func (PySem.W.fnOf "has_form" "has_form" (defArgs s_has_form) (defBody s_has_form) (defScope s_has_form) .none kV1 dc1 pm1 an1 cd1 ct1), sl1⟩) (c1 : PySem.W.codeIn K cd1 "has_form" = true) (k1 : PySem.W.keepIn K (.ref f1) = true)
    (a2 : PySem.W.nsIn K mainGlobals "is_row_ahead" = some (some (.ref f2))) (l2 : K.lookup f2 = some ⟨oc2, od2, .func (PySem.W.fnOf "is_row_ahead" "is_row_ahead" (defArgs s_is_row_ahead) (defBody s_is_row_ahead) (defScope s_is_row_ahead) .none kV2 dc2 pm2 an2 cd2 ct2), sl2⟩) (c2 : PySem.W.codeIn K cd2 "is_row_ahead" = true) (k2 : PySem.W.keepIn K (.ref f2) = true)
    (a3 : PySem.W.nsIn K mainGlobals "is_one_letter" = some (some (.ref f3))) (l3 : K.lookup f3 = some ⟨oc3, od3, .func (PySem.W.fnOf "is_one_letter" "is_one_letter" (defArgs s_is_one_letter) (defBody s_is_one_letter) (defScope s_is_one_letter) .none kV3 dc3 pm3 an3 cd3 ct3), sl3⟩) (c3 : PySem.W.codeIn K cd3 "is_one_letter" = true) (k3 : PySem.W.keepIn K (.ref f3) = true)
    (a4 : PySem.W.nsIn K mainGlobals "look_expression" = some (some (.ref f4))) (l4 : K.lookup f4 = some ⟨oc4, od4, .func (PySem.W.fnOf "look_expression" "look_expression" (defArgs s_look_expression) (defBody s_look_expression) (defScope s_look_expression) .none kV4 dc4 pm4 an4 cd4 ct4), sl4⟩) (c4 : PySem.W.codeIn K cd4 "look_expression" = true) (k4 : PySem.W.keepIn K (.ref f4) = true)
    (a5 : PySem.W.nsIn K mainGlobals "is_expression_row" = some (some (.ref f5))) (l5 : K.lookup f5 = some ⟨oc5, od5, .func (PySem.W.fnOf "is_expression_row" "is_expression_row" (defArgs s_is_expression_row) (defBody s_is_expression_row) (defScope s_is_expression_row) .none kV5 dc5 pm5 an5 cd5 ct5), sl5⟩) (c5 : PySem.W.codeIn K cd5 "is_expression_row" = true) (k5 : PySem.W.keepIn K (.ref f5) = true)
    (a6 : PySem.W.nsIn K mainGlobals "_law_box" = some (some (.ref f6))) (l6 : K.lookup f6 = some ⟨oc6, od6, .func (PySem.W.fnOf "_law_box" "_law_box" (defArgs s__law_box) (defBody s__law_box) (defScope s__law_box) .none kV6 dc6 pm6 an6 cd6 ct6), sl6⟩) (c6 : PySem.W.codeIn K cd6 "_law_box" = true) (k6 : PySem.W.keepIn K (.ref f6) = true)
    (a7 : PySem.W.nsIn K mainGlobals "_law_take" = some (some (.ref f7))) (l7 : K.lookup f7 = some ⟨oc7, od7, .func (PySem.W.fnOf "_law_take" "_law_take" (defArgs s__law_take) (defBody s__law_take) (defScope s__law_take) .none kV7 dc7 pm7 an7 cd7 ct7), sl7⟩) (c7 : PySem.W.codeIn K cd7 "_law_take" = true) (k7 : PySem.W.keepIn K (.ref f7) = true)
    (a8 : PySem.W.nsIn K mainGlobals "_law_letters" = some (some (.ref f8))) (l8 : K.lookup f8 = some ⟨oc8, od8, .func (PySem.W.fnOf "_law_letters" "_law_letters" (defArgs s__law_letters) (defBody s__law_letters) (defScope s__law_letters) .none kV8 dc8 pm8 an8 cd8 ct8), sl8⟩) (c8 : PySem.W.codeIn K cd8 "_law_letters" = true) (k8 : PySem.W.keepIn K (.ref f8) = true)
    (a9 : PySem.W.nsIn K mainGlobals "_law_row_at" = some (some (.ref f9))) (l9 : K.lookup f9 = some ⟨oc9, od9, .func (PySem.W.fnOf "_law_row_at" "_law_row_at" (defArgs s__law_row_at) (defBody s__law_row_at) (defScope s__law_row_at) .none kV9 dc9 pm9 an9 cd9 ct9), sl9⟩) (c9 : PySem.W.codeIn K cd9 "_law_row_at" = true) (k9 : PySem.W.keepIn K (.ref f9) = true)
    (a10 : PySem.W.nsIn K mainGlobals "_law_expression" = some (some (.ref f10))) (l10 : K.lookup f10 = some ⟨oc10, od10, .func (PySem.W.fnOf "_law_expression" "_law_expression" (defArgs s__law_expression) (defBody s__law_expression) (defScope s__law_expression) .none kV10 dc10 pm10 an10 cd10 ct10), sl10⟩) (c10 : PySem.W.codeIn K cd10 "_law_expression" = true) (k10 : PySem.W.keepIn K (.ref f10) = true)
    (a11 : PySem.W.nsIn K mainGlobals "_law_bad_word" = some (some (.ref f11))) (l11 : K.lookup f11 = some ⟨oc11, od11, .func (PySem.W.fnOf "_law_bad_word" "_law_bad_word" (defArgs s__law_bad_word) (defBody s__law_bad_word) (defScope s__law_bad_word) .none kV11 dc11 pm11 an11 cd11 ct11), sl11⟩) (c11 : PySem.W.codeIn K cd11 "_law_bad_word" = true) (k11 : PySem.W.keepIn K (.ref f11) = true)
    (a12 : PySem.W.nsIn K mainGlobals "_law_bad_sign" = some (some (.ref f12))) (l12 : K.lookup f12 = some ⟨oc12, od12, .func (PySem.W.fnOf "_law_bad_sign" "_law_bad_sign" (defArgs s__law_bad_sign) (defBody s__law_bad_sign) (defScope s__law_bad_sign) .none kV12 dc12 pm12 an12 cd12 ct12), sl12⟩) (c12 : PySem.W.codeIn K cd12 "_law_bad_sign" = true) (k12 : PySem.W.keepIn K (.ref f12) = true)
    (a13 : PySem.W.nsIn K mainGlobals "_law_bad_number" = some (some (.ref f13))) (l13 : K.lookup f13 = some ⟨oc13, od13, .func (PySem.W.fnOf "_law_bad_number" "_law_bad_number" (defArgs s__law_bad_number) (defBody s__law_bad_number) (defScope s__law_bad_number) .none kV13 dc13 pm13 an13 cd13 ct13), sl13⟩) (c13 : PySem.W.codeIn K cd13 "_law_bad_number" = true) (k13 : PySem.W.keepIn K (.ref f13) = true)
    (a14 : PySem.W.nsIn K mainGlobals "_law_spoilt" = some (some (.ref f14))) (l14 : K.lookup f14 = some ⟨oc14, od14, .func (PySem.W.fnOf "_law_spoilt" "_law_spoilt" (defArgs s__law_spoilt) (defBody s__law_spoilt) (defScope s__law_spoilt) .none kV14 dc14 pm14 an14 cd14 ct14), sl14⟩) (c14 : PySem.W.codeIn K cd14 "_law_spoilt" = true) (k14 : PySem.W.keepIn K (.ref f14) = true)
    (a15 : PySem.W.nsIn K mainGlobals "_law_any_row" = some (some (.ref f15))) (l15 : K.lookup f15 = some ⟨oc15, od15, .func (PySem.W.fnOf "_law_any_row" "_law_any_row" (defArgs s__law_any_row) (defBody s__law_any_row) (defScope s__law_any_row) .none kV15 dc15 pm15 an15 cd15 ct15), sl15⟩) (c15 : PySem.W.codeIn K cd15 "_law_any_row" = true) (k15 : PySem.W.keepIn K (.ref f15) = true)
    (a16 : PySem.W.nsIn K mainGlobals "_law_good_row" = some (some (.ref f16))) (l16 : K.lookup f16 = some ⟨oc16, od16, .func (PySem.W.fnOf "_law_good_row" "_law_good_row" (defArgs s__law_good_row) (defBody s__law_good_row) (defScope s__law_good_row) .none kV16 dc16 pm16 an16 cd16 ct16), sl16⟩) (c16 : PySem.W.codeIn K cd16 "_law_good_row" = true) (k16 : PySem.W.keepIn K (.ref f16) = true)
    (a17 : PySem.W.nsIn K mainGlobals "_law_first_bad" = some (some (.ref f17))) (l17 : K.lookup f17 = some ⟨oc17, od17, .func (PySem.W.fnOf "_law_first_bad" "_law_first_bad" (defArgs s__law_first_bad) (defBody s__law_first_bad) (defScope s__law_first_bad) .none kV17 dc17 pm17 an17 cd17 ct17), sl17⟩) (c17 : PySem.W.codeIn K cd17 "_law_first_bad" = true) (k17 : PySem.W.keepIn K (.ref f17) = true)
    (a18 : PySem.W.nsIn K mainGlobals "_law_looked" = some (some (.ref f18))) (l18 : K.lookup f18 = some ⟨oc18, od18, .func (PySem.W.fnOf "_law_looked" "_law_looked" (defArgs s__law_looked) (defBody s__law_looked) (defScope s__law_looked) .none kV18 dc18 pm18 an18 cd18 ct18), sl18⟩) (c18 : PySem.W.codeIn K cd18 "_law_looked" = true) (k18 : PySem.W.keepIn K (.ref f18) = true)
    (a19 : PySem.W.nsIn K mainGlobals "_law_right" = some (some (.ref f19))) (l19 : K.lookup f19 = some ⟨oc19, od19, .func (PySem.W.fnOf "_law_right" "_law_right" (defArgs s__law_right) (defBody s__law_right) (defScope s__law_right) .none kV19 dc19 pm19 an19 cd19 ct19), sl19⟩) (c19 : PySem.W.codeIn K cd19 "_law_right" = true) (k19 : PySem.W.keepIn K (.ref f19) = true)
    (a20 : PySem.W.nsIn K mainGlobals "law" = some (some (.ref f20))) (l20 : K.lookup f20 = some ⟨oc20, od20, .func (PySem.W.fnOf "law" "law" (defArgs s_law) (defBody s_law) (defScope s_law) .none kV20 dc20 pm20 an20 cd20 ct20), sl20⟩) (c20 : PySem.W.codeIn K cd20 "law" = true) (k20 : PySem.W.keepIn K (.ref f20) = true)
    (z_len : PySem.W.nsIn K mainGlobals "len" = some none)
    (z_int : PySem.W.nsIn K mainGlobals "int" = some none)
    (z_range : PySem.W.nsIn K mainGlobals "range" = some none)
    (z_list : PySem.W.nsIn K mainGlobals "list" = some none)
    (z_tuple : PySem.W.nsIn K mainGlobals "tuple" = some none)
    (z_isinstance : PySem.W.nsIn K mainGlobals "isinstance" = some none)
    (z_str : PySem.W.nsIn K mainGlobals "str" = some none)
    (z_bool : PySem.W.nsIn K mainGlobals "bool" = some none)
    (z_max : PySem.W.nsIn K mainGlobals "max" = some none)
    (z_all : PySem.W.nsIn K mainGlobals "all" = some none)
    (z_zip : PySem.W.nsIn K mainGlobals "zip" = some none)
    (z_enumerate : PySem.W.nsIn K mainGlobals "enumerate" = some none)
    (z_ValueError : PySem.W.nsIn K mainGlobals "ValueError" = some none)
    (ef : PySem.W.nsIn K mainGlobals "FORMS" = some (some (.ref af)))
    (lf : K.lookup af = some { cls := .type "dict", data := .dict esf epf })
    (vf : Paired (fun (e : DictEntry) (kv : Key × V) => ∃ x t, e.key = .str x t ∧ e.hash = PyData.keyHash w.params x ∧ kv.1 = .inr x ∧ RelV kv.2 e.val) esf.toList (KF a0_ a1_ a2_ a3_ a4_ a5_ a6_))
    (nf : ((KF a0_ a1_ a2_ a3_ a4_ a5_ a6_).map Prod.fst).Nodup)
    (sm : (af == sysModules) = false)
    (qk0 : K.lookup a0_ = some ⟨.type "tuple", qd0, .seq qi0 qn0, qs0⟩)
    (qv0 : Vals [] qi0.toList)
    (qz0 : qi0.size ≤ sizeLine)
    (qk1 : K.lookup a1_ = some ⟨.type "tuple", qd1, .seq qi1 qn1, qs1⟩)
    (qv1 : Vals [] qi1.toList)
    (qz1 : qi1.size ≤ sizeLine)
    (qk2 : K.lookup a2_ = some ⟨.type "tuple", qd2, .seq qi2 qn2, qs2⟩)
    (qv2 : Vals [.str "letter"] qi2.toList)
    (qz2 : qi2.size ≤ sizeLine)
    (qk3 : K.lookup a3_ = some ⟨.type "tuple", qd3, .seq qi3 qn3, qs3⟩)
    (qv3 : Vals [.str "row"] qi3.toList)
    (qz3 : qi3.size ≤ sizeLine)
    (qk4 : K.lookup a4_ = some ⟨.type "tuple", qd4, .seq qi4 qn4, qs4⟩)
    (qv4 : Vals [.str "row", .str "row"] qi4.toList)
    (qz4 : qi4.size ≤ sizeLine)
    (qk5 : K.lookup a5_ = some ⟨.type "tuple", qd5, .seq qi5 qn5, qs5⟩)
    (qv5 : Vals [.str "row", .str "row"] qi5.toList)
    (qz5 : qi5.size ≤ sizeLine)
    (qk6 : K.lookup a6_ = some ⟨.type "tuple", qd6, .seq qi6 qn6, qs6⟩)
    (qv6 : Vals [.str "row", .str "row"] qi6.toList)
    (qz6 : qi6.size ≤ sizeLine)
    (ecd : cd5 = .ref cc)
    (hcin : PySem.W.codeHdIn K cc 256 = true)
    (aD : PySem.W.nsIn K mainGlobals "CalmError" = some (some (.ref D)))
    (lD : K.lookup D = some (excClassObj nmD qD D ND bsD bmVE true snD subD abD colD ddD kgD khD kiD kjD kkD "ValueError.__new__"))
    (tyD : PySem.W.typeIn K (.ref D) = some (.type "type"))
    (lnD : K.lookup ND = some ⟨noD, ndD, .dict esD enD, nlD⟩)
    (eoD : (esD.all fun e => match e.key with | .str _ _ => true | _ => false) = true)
    (inD : PySem.W.nsIn K ND "__init__" = some none)
    (spD : PySem.W.specialIn K (.ref D) "__getattribute__" = some (some (.builtin "type.__getattribute__")))
    (rdD : PySem.W.readsIn K D (.type "type") = true)
    (fcD : PySem.W.findCls K (.ref D) (.type "type") "__init__" = some (.val (.builtin "ValueError.__init__")))
    (ac0 : PySem.W.nsIn K mainGlobals "BadLetters" = some (some (.ref C0)))
    (lc0 : K.lookup C0 = some (excClassObj nm0 q0 C0 N0 bs0 (.ref D :: bmVE) true sn0 sub0 ab0 col0 dd0 ka0 kb0 kc0 kd0 kf0 "ValueError.__new__"))
    (ty0 : PySem.W.typeIn K (.ref C0) = some (.type "type"))
    (ac1 : PySem.W.nsIn K mainGlobals "BadRoom" = some (some (.ref C1)))
    (lc1 : K.lookup C1 = some (excClassObj nm1 q1 C1 N1 bs1 (.ref D :: bmVE) true sn1 sub1 ab1 col1 dd1 ka1 kb1 kc1 kd1 kf1 "ValueError.__new__"))
    (ty1 : PySem.W.typeIn K (.ref C1) = some (.type "type"))
    (ac2 : PySem.W.nsIn K mainGlobals "BadText" = some (some (.ref C2)))
    (lc2 : K.lookup C2 = some (excClassObj nm2 q2 C2 N2 bs2 (.ref D :: bmVE) true sn2 sub2 ab2 col2 dd2 ka2 kb2 kc2 kd2 kf2 "ValueError.__new__"))
    (ty2 : PySem.W.typeIn K (.ref C2) = some (.type "type"))
    (ac3 : PySem.W.nsIn K mainGlobals "NoLetter" = some (some (.ref C3)))
    (lc3 : K.lookup C3 = some (excClassObj nm3 q3 C3 N3 bs3 (.ref D :: bmVE) true sn3 sub3 ab3 col3 dd3 ka3 kb3 kc3 kd3 kf3 "ValueError.__new__"))
    (ty3 : PySem.W.typeIn K (.ref C3) = some (.type "type"))
    (ac4 : PySem.W.nsIn K mainGlobals "NotCalm" = some (some (.ref C4)))
    (lc4 : K.lookup C4 = some (excClassObj nm4 q4 C4 N4 bs4 (.ref D :: bmVE) true sn4 sub4 ab4 col4 dd4 ka4 kb4 kc4 kd4 kf4 "ValueError.__new__"))
    (ty4 : PySem.W.typeIn K (.ref C4) = some (.type "type"))
    (ac5 : PySem.W.nsIn K mainGlobals "NotClosed" = some (some (.ref C5)))
    (lc5 : K.lookup C5 = some (excClassObj nm5 q5 C5 N5 bs5 (.ref D :: bmVE) true sn5 sub5 ab5 col5 dd5 ka5 kb5 kc5 kd5 kf5 "ValueError.__new__"))
    (ty5 : PySem.W.typeIn K (.ref C5) = some (.type "type"))
    (ac6 : PySem.W.nsIn K mainGlobals "NoName" = some (some (.ref C6)))
    (lc6 : K.lookup C6 = some (excClassObj nm6 q6 C6 N6 bs6 (.ref D :: bmVE) true sn6 sub6 ab6 col6 dd6 ka6 kb6 kc6 kd6 kf6 "ValueError.__new__"))
    (ty6 : PySem.W.typeIn K (.ref C6) = some (.type "type"))
    (ac7 : PySem.W.nsIn K mainGlobals "NoRow" = some (some (.ref C7)))
    (lc7 : K.lookup C7 = some (excClassObj nm7 q7 C7 N7 bs7 (.ref D :: bmVE) true sn7 sub7 ab7 col7 dd7 ka7 kb7 kc7 kd7 kf7 "ValueError.__new__"))
    (ty7 : PySem.W.typeIn K (.ref C7) = some (.type "type"))
    (ac8 : PySem.W.nsIn K mainGlobals "OtherLetters" = some (some (.ref C8)))
    (lc8 : K.lookup C8 = some (excClassObj nm8 q8 C8 N8 bs8 (.ref D :: bmVE) true sn8 sub8 ab8 col8 dd8 ka8 kb8 kc8 kd8 kf8 "ValueError.__new__"))
    (ty8 : PySem.W.typeIn K (.ref C8) = some (.type "type"))
    (ac9 : PySem.W.nsIn K mainGlobals "TooLong" = some (some (.ref C9)))
    (lc9 : K.lookup C9 = some (excClassObj nm9 q9 C9 N9 bs9 (.ref D :: bmVE) true sn9 sub9 ab9 col9 dd9 ka9 kb9 kc9 kd9 kf9 "ValueError.__new__"))
    (ty9 : PySem.W.typeIn K (.ref C9) = some (.type "type"))
    (ac10 : PySem.W.nsIn K mainGlobals "TooMany" = some (some (.ref C10)))
    (lc10 : K.lookup C10 = some (excClassObj nm10 q10 C10 N10 bs10 (.ref D :: bmVE) true sn10 sub10 ab10 col10 dd10 ka10 kb10 kc10 kd10 kf10 "ValueError.__new__"))
    (ty10 : PySem.W.typeIn K (.ref C10) = some (.type "type"))
    (ac11 : PySem.W.nsIn K mainGlobals "BadRow" = some (some (.ref C11)))
    (lc11 : K.lookup C11 = some (excClassObj nm11 q11 C11 N11 bs11 (.ref D :: bmVE) true sn11 sub11 ab11 col11 dd11 ka11 kb11 kc11 kd11 kf11 "ValueError.__new__"))
    (ln11 : K.lookup N11 = some ⟨no11, nd11, .dict es11 en11, nl11⟩)
    (eo11 : (es11.all fun e => match e.key with | .str _ _ => true | _ => false) = true)
    (sa11 : PySem.W.findIn K (.ref C11) "__setattr__" = some (some (.builtin "object.__setattr__")))
    (ga11 : PySem.W.findIn K (.ref C11) "__getattribute__" = some (some (.builtin "BaseException.__getattribute__")))
    (gx11 : PySem.W.findIn K (.ref C11) "__getattr__" = some none)
    (kp11 : PySem.W.keepIn K (.ref C11) = true)
    (cc11 : PySem.W.findIn K (.ref C11) "__class__" = some (some (.builtin "object.__class__")))
    (ob11 : PySem.W.mroIn K C11 (.type "object") = some true)
    (in11 : PySem.W.nsIn K N11 "__init__" = some (some (.ref F11)))
    (lf11 : K.lookup F11 = some ⟨.type "function", vd11, .func (PySem.W.fnOf "__init__" "BadRow.__init__" (defArgs s_BadRow__init__) (defBody s_BadRow__init__) (defScope s_BadRow__init__) .none vk11 vo11 vp11 va11 vc11 vt11), vs11⟩)
    (cf11 : PySem.W.codeIn K vc11 "BadRow.__init__" = true)
    (kq11 : PySem.W.keepIn K (.ref F11) = true)
    (qf : PySem.W.findIn K (.ref C11) "at" = some none)
    (ne0 : C11 ≠ C0)
    (nd_0 : C0 ≠ D)
    (ne1 : C11 ≠ C1)
    (nd_1 : C1 ≠ D)
    (ne2 : C11 ≠ C2)
    (nd_2 : C2 ≠ D)
    (ne3 : C11 ≠ C3)
    (nd_3 : C3 ≠ D)
    (ne4 : C11 ≠ C4)
    (nd_4 : C4 ≠ D)
    (ne5 : C11 ≠ C5)
    (nd_5 : C5 ≠ D)
    (ne6 : C11 ≠ C6)
    (nd_6 : C6 ≠ D)
    (ne7 : C11 ≠ C7)
    (nd_7 : C7 ≠ D)
    (ne8 : C11 ≠ C8)
    (nd_8 : C8 ≠ D)
    (ne9 : C11 ≠ C9)
    (nd_9 : C9 ≠ D)
    (ne10 : C11 ≠ C10)
    (nd_10 : C10 ≠ D)
    (neD : C11 ≠ D)
    : ∃ fd : FuncData, (∀ (s : Shared) (v : Value), BindsTo s fd ⟨[v], []⟩ [("_law_script", v)]) ∧ ∀ base : Heap, K.In base → base.Ns mainGlobals mg → (∀ t ∈ [256], base.BuiltinsAt mg t) → FnOk l.prog w K mg base CX0 9 fa fd ["_law_script"] (spLawT K 256) := by
  have e := hfa.symm.trans (PySem.W.mg_of X G a20)
  cases e
  have F_has_form := fun_mk (st := s_has_form) l1 c1 k1
  have m_has_form := PySem.W.mg_of X G a1
  have b_has_form := F_has_form.binds (ps := ["row", "form", "fits"]) fun _ _ _ _ _ _ => us3 fun _ _ _ => rfl
  have F_is_row_ahead := fun_mk (st := s_is_row_ahead) l2 c2 k2
  have m_is_row_ahead := PySem.W.mg_of X G a2
  have b_is_row_ahead := F_is_row_ahead.binds (ps := ["thing", "at"]) fun _ _ _ _ _ _ => us2 fun _ _ => rfl
  have F_is_one_letter := fun_mk (st := s_is_one_letter) l3 c3 k3
  have m_is_one_letter := PySem.W.mg_of X G a3
  have b_is_one_letter := F_is_one_letter.binds (ps := ["thing", "letters"]) fun _ _ _ _ _ _ => us2 fun _ _ => rfl
  have F_look_expression := fun_mk (st := s_look_expression) l4 c4 k4
  have m_look_expression := PySem.W.mg_of X G a4
  have b_look_expression := F_look_expression.binds (ps := ["letters", "expression"]) fun _ _ _ _ _ _ => us2 fun _ _ => rfl
  have F_is_expression_row := fun_mk (st := s_is_expression_row) l5 c5 k5
  have m_is_expression_row := PySem.W.mg_of X G a5
  have b_is_expression_row := F_is_expression_row.binds (ps := ["letters", "row", "at"]) fun _ _ _ _ _ _ => us3 fun _ _ _ => rfl
  have F__law_box := fun_mk (st := s__law_box) l6 c6 k6
  have m__law_box := PySem.W.mg_of X G a6
  have b__law_box := F__law_box.binds (ps := ["_law_script", "_law_k"]) fun _ _ _ _ _ _ => us2 fun _ _ => rfl
  have F__law_take := fun_mk (st := s__law_take) l7 c7 k7
  have m__law_take := PySem.W.mg_of X G a7
  have b__law_take := F__law_take.binds (ps := ["_law_box_here", "_law_wide"]) fun _ _ _ _ _ _ => us2 fun _ _ => rfl
  have F__law_letters := fun_mk (st := s__law_letters) l8 c8 k8
  have m__law_letters := PySem.W.mg_of X G a8
  have b__law_letters := F__law_letters.binds (ps := ["_law_box_here", "_law_most"]) fun _ _ _ _ _ _ => us2 fun _ _ => rfl
  have F__law_row_at := fun_mk (st := s__law_row_at) l9 c9 k9
  have m__law_row_at := PySem.W.mg_of X G a9
  have b__law_row_at := F__law_row_at.binds (ps := ["_law_box_here", "_law_k"]) fun _ _ _ _ _ _ => us2 fun _ _ => rfl
  have F__law_expression := fun_mk (st := s__law_expression) l10 c10 k10
  have m__law_expression := PySem.W.mg_of X G a10
  have b__law_expression := F__law_expression.binds (ps := ["_law_box_here", "_law_letters_here", "_law_most"]) fun _ _ _ _ _ _ => us3 fun _ _ _ => rfl
  have F__law_bad_word := fun_mk (st := s__law_bad_word) l11 c11 k11
  have m__law_bad_word := PySem.W.mg_of X G a11
  have b__law_bad_word := F__law_bad_word.binds (ps := ["_law_box_here", "_law_word"]) fun _ _ _ _ _ _ => us2 fun _ _ => rfl
  have F__law_bad_sign := fun_mk (st := s__law_bad_sign) l12 c12 k12
  have m__law_bad_sign := PySem.W.mg_of X G a12
  have b__law_bad_sign := F__law_bad_sign.binds (ps := ["_law_box_here", "_law_letters_here"]) fun _ _ _ _ _ _ => us2 fun _ _ => rfl
  have F__law_bad_number := fun_mk (st := s__law_bad_number) l13 c13 k13
  have m__law_bad_number := PySem.W.mg_of X G a13
  have b__law_bad_number := F__law_bad_number.binds (ps := ["_law_box_here", "_law_letters_here", "_law_at"]) fun _ _ _ _ _ _ => us3 fun _ _ _ => rfl
  have F__law_spoilt := fun_mk (st := s__law_spoilt) l14 c14 k14
  have m__law_spoilt := PySem.W.mg_of X G a14
  have b__law_spoilt := F__law_spoilt.binds (ps := ["_law_box_here", "_law_letters_here", "_law_rows", "_law_at"]) fun _ _ _ _ _ _ => us4 fun _ _ _ _ => rfl
  have F__law_any_row := fun_mk (st := s__law_any_row) l15 c15 k15
  have m__law_any_row := PySem.W.mg_of X G a15
  have b__law_any_row := F__law_any_row.binds (ps := ["_law_box_here", "_law_letters_here", "_law_at"]) fun _ _ _ _ _ _ => us3 fun _ _ _ => rfl
  have F__law_good_row := fun_mk (st := s__law_good_row) l16 c16 k16
  have m__law_good_row := PySem.W.mg_of X G a16
  have b__law_good_row := F__law_good_row.binds (ps := ["_law_letters_here", "_law_row", "_law_at"]) fun _ _ _ _ _ _ => us3 fun _ _ _ => rfl
  have F__law_first_bad := fun_mk (st := s__law_first_bad) l17 c17 k17
  have m__law_first_bad := PySem.W.mg_of X G a17
  have b__law_first_bad := F__law_first_bad.binds (ps := ["_law_letters_here", "_law_rows"]) fun _ _ _ _ _ _ => us2 fun _ _ => rfl
  have F__law_looked := fun_mk (st := s__law_looked) l18 c18 k18
  have m__law_looked := PySem.W.mg_of X G a18
  have b__law_looked := F__law_looked.binds (ps := ["_law_letters_here", "_law_rows"]) fun _ _ _ _ _ _ => us2 fun _ _ => rfl
  have F__law_right := fun_mk (st := s__law_right) l19 c19 k19
  have m__law_right := PySem.W.mg_of X G a19
  have b__law_right := F__law_right.binds (ps := ["_law_letters_here", "_law_rows"]) fun _ _ _ _ _ _ => us2 fun _ _ => rfl
  have F_law := fun_mk (st := s_law) l20 c20 k20
  have m_law := PySem.W.mg_of X G a20
  have b_law := F_law.binds (ps := ["_law_script"]) fun _ _ _ _ _ _ => us1 fun _ => rfl
  have n_len := PySem.W.mg_none_of X G z_len
  have n_int := PySem.W.mg_none_of X G z_int
  have n_range := PySem.W.mg_none_of X G z_range
  have n_list := PySem.W.mg_none_of X G z_list
  have n_tuple := PySem.W.mg_none_of X G z_tuple
  have n_isinstance := PySem.W.mg_none_of X G z_isinstance
  have n_str := PySem.W.mg_none_of X G z_str
  have n_bool := PySem.W.mg_none_of X G z_bool
  have n_max := PySem.W.mg_none_of X G z_max
  have n_all := PySem.W.mg_none_of X G z_all
  have n_zip := PySem.W.mg_none_of X G z_zip
  have n_enumerate := PySem.W.mg_none_of X G z_enumerate
  have n_ValueError := PySem.W.mg_none_of X G z_ValueError
  refine ⟨PySem.W.fnOf "law" "law" (defArgs s_law) (defBody s_law) (defScope s_law) .none kV20 dc20 pm20 an20 cd20 ct20, fun s v => .of_eq rfl, fun base kb _ hbt => ?_⟩
  have hd : PySem.W.CodeHd base cc 256 := PySem.W.codeHd_of_K kb hcin
  have nsD : PySem.W.nsOkIn K ND = true := ns_ok lnD eoD
  have tl : PySem.W.tailIn K bmVE (.ref D :: bmVE) = true := tail_ok lD nsD inD
  have ns11 : PySem.W.nsOkIn K N11 = true := ns_ok ln11 eo11
  have cX : XC K C11 D N11 := ⟨⟨_, _, _, _, _, _, _, _, _, _, _, _, _, lc11⟩, tl, ns11, sa11, ga11, gx11, kp11⟩
  have xt : XT K C11 := ⟨_, _, _, _, _, _, _, _, _, _, _, _, _, _, _, _, _, lc11, by first | rfl | decide | simp [bmVE]⟩
  have m_CalmError := PySem.W.mg_of X G aD
  have m_BadLetters := PySem.W.mg_of X G ac0
  have m_BadRoom := PySem.W.mg_of X G ac1
  have m_BadText := PySem.W.mg_of X G ac2
  have m_NoLetter := PySem.W.mg_of X G ac3
  have m_NotCalm := PySem.W.mg_of X G ac4
  have m_NotClosed := PySem.W.mg_of X G ac5
  have m_NoName := PySem.W.mg_of X G ac6
  have m_NoRow := PySem.W.mg_of X G ac7
  have m_OtherLetters := PySem.W.mg_of X G ac8
  have m_TooLong := PySem.W.mg_of X G ac9
  have m_TooMany := PySem.W.mg_of X G ac10
  have m_BadRow := PySem.W.mg_of X G ac11
  have F_B := fun_mk (st := s_BadRow__init__) lf11 cf11 kq11
  have b_B := F_B.binds (ps := ["self", "at"]) fun _ _ _ _ _ _ us hl => match us, hl with | [_, _], _ => rfl
  have G_B := ok_BadRow__init__ (P := l.prog) (w := w) (base := base) F_B ⟨m_CalmError, ⟨spD, rdD, fcD⟩⟩
  have ss : PySem.W.kitOne K (.type "str") (.type "str") = some true := if_pos (by simp)
  have ii : PySem.W.kitOne K (.type "int") (.type "int") = some true := if_pos (by simp)
  have tt : PySem.W.kitOne K (.type "tuple") (.type "tuple") = some true := if_pos (by simp)
  have is_ : PySem.W.kitOne K (.type "int") (.type "str") = some false := by
    unfold PySem.W.kitOne
    rw [if_neg (by decide)]
    unfold PySem.W.kitCls
    first | rfl | decide +kernel | simp
  have si : PySem.W.kitOne K (.type "str") (.type "int") = some false := by
    unfold PySem.W.kitOne
    rw [if_neg (by decide)]
    unfold PySem.W.kitCls
    first | rfl | decide +kernel | simp
  have ib : PySem.W.kitOne K (.type "int") (.type "bool") = some false := by
    unfold PySem.W.kitOne
    rw [if_neg (by decide)]
    unfold PySem.W.kitCls
    first | rfl | decide +kernel | simp
  have kF : KDict l.prog w K af (KF a0_ a1_ a2_ a3_ a4_ a5_ a6_) := kdict_of lf vf nf
  have mF := PySem.W.mg_of X G ef
  have t0 : ∀ H : Hp, SqT K H a0_ [] := fun H => .inr ⟨_, _, _, qk0, rfl, rfl, qz0, qv0⟩
  have t1 : ∀ H : Hp, SqT K H a1_ [] := fun H => .inr ⟨_, _, _, qk1, rfl, rfl, qz1, qv1⟩
  have t2 : ∀ H : Hp, SqT K H a2_ [.str "letter"] := fun H => .inr ⟨_, _, _, qk2, rfl, rfl, qz2, qv2⟩
  have t3 : ∀ H : Hp, SqT K H a3_ [.str "row"] := fun H => .inr ⟨_, _, _, qk3, rfl, rfl, qz3, qv3⟩
  have t4 : ∀ H : Hp, SqT K H a4_ [.str "row", .str "row"] := fun H => .inr ⟨_, _, _, qk4, rfl, rfl, qz4, qv4⟩
  have t5 : ∀ H : Hp, SqT K H a5_ [.str "row", .str "row"] := fun H => .inr ⟨_, _, _, qk5, rfl, rfl, qz5, qv5⟩
  have t6 : ∀ H : Hp, SqT K H a6_ [.str "row", .str "row"] := fun H => .inr ⟨_, _, _, qk6, rfl, rfl, qz6, qv6⟩
  have ko : ∀ o ∈ [C0, C1, C2, C3, C4, C5, C6, C7, C8, C9, C10], PySem.W.kitOne K (.ref C11) (.ref o) = some false := fun o ho => by
    simp only [List.mem_cons, List.not_mem_nil, or_false] at ho
    rcases ho with rfl | rfl | rfl | rfl | rfl | rfl | rfl | rfl | rfl | rfl | rfl
    · exact kit_ne lc11 lc0 ty0 ne0 nd_0
    · exact kit_ne lc11 lc1 ty1 ne1 nd_1
    · exact kit_ne lc11 lc2 ty2 ne2 nd_2
    · exact kit_ne lc11 lc3 ty3 ne3 nd_3
    · exact kit_ne lc11 lc4 ty4 ne4 nd_4
    · exact kit_ne lc11 lc5 ty5 ne5 nd_5
    · exact kit_ne lc11 lc6 ty6 ne6 nd_6
    · exact kit_ne lc11 lc7 ty7 ne7 nd_7
    · exact kit_ne lc11 lc8 ty8 ne8 nd_8
    · exact kit_ne lc11 lc9 ty9 ne9 nd_9
    · exact kit_ne lc11 lc10 ty10 ne10 nd_10
  have g1 := ok__law_take (P := l.prog) (w := w) (mg := mg) (base := base) F__law_take
  have g2 := ok__law_letters (P := l.prog) (w := w) (base := base) F__law_letters ⟨n_len, n_list, n_range, m__law_take⟩ F__law_take b__law_take g1
  have g3 := ok__law_row_at (P := l.prog) (w := w) (base := base) F__law_row_at ⟨m__law_take⟩ F__law_take b__law_take g1
  have g4 := ok__law_expression (P := l.prog) (w := w) (base := base) F__law_expression ⟨n_range, n_len, n_tuple, m__law_take, m__law_row_at⟩ F__law_take b__law_take g1 F__law_row_at b__law_row_at g3
  have hT : TRA K mg := ⟨n_isinstance, n_int, n_bool, n_str, n_len, ii, si, ib, ss, is_⟩
  have g5 := ok_is_row_ahead (P := l.prog) (w := w) (base := base) F_is_row_ahead hT
  have g6 := ok_is_one_letter (P := l.prog) (w := w) (base := base) F_is_one_letter hT
  have g7 := ok_has_form (P := l.prog) (w := w) (base := base) F_has_form ⟨n_len, n_all, n_zip⟩
  have g8 := ok_is_expression_row (P := l.prog) (w := w) (base := base) (Pt := 256) F_is_expression_row ⟨n_len, mF, m_has_form, m_is_one_letter, m_is_row_ahead, kF, sm, t0, t1, t2, t3, t4, t5, t6, rfl, hd, hbt 256 (.head _)⟩ ecd F_has_form b_has_form g7 F_is_one_letter b_is_one_letter g6 F_is_row_ahead b_is_row_ahead g5
  have g9 := ok_look_expression (P := l.prog) (w := w) (base := base) F_look_expression ⟨n_len, n_enumerate, m_is_expression_row, m_BadRow, cX, in11, ⟨_, lf11, rfl⟩, qf⟩ b_B G_B F_is_expression_row b_is_expression_row g8
  have g10 := ok__law_looked (P := l.prog) (w := w) (base := base) F__law_looked ⟨n_isinstance, n_ValueError, m_look_expression, m_BadRow, xt, m_CalmError, m_BadLetters, m_BadRoom, m_BadText, m_NoLetter, m_NotCalm, m_NotClosed, m_NoName, m_NoRow, m_OtherLetters, m_TooLong, m_TooMany, cX, ⟨cc11, ob11⟩, ko, kit_D lc11 lD tyD neD, kit_V lc11, qf⟩ F_look_expression b_look_expression g9
  have g11 := ok__law_good_row (P := l.prog) (w := w) (base := base) F__law_good_row ⟨n_len, n_list, n_int, n_str, n_isinstance, ss, is_⟩
  have g12 := ok__law_first_bad (P := l.prog) (w := w) (base := base) F__law_first_bad ⟨n_len, n_int, n_enumerate, m__law_good_row⟩ F__law_good_row b__law_good_row g11
  have g13 := ok__law_right (P := l.prog) (w := w) (base := base) F__law_right ⟨n_isinstance, n_tuple, n_bool, m__law_looked, m__law_first_bad, tt, ib⟩ F__law_looked b__law_looked g10 F__law_first_bad b__law_first_bad g12
  have g14 := ok__law_bad_word (P := l.prog) (w := w) (base := base) F__law_bad_word ⟨n_len, m__law_take⟩ F__law_take b__law_take g1
  have g15 := ok__law_bad_sign (P := l.prog) (w := w) (base := base) F__law_bad_sign ⟨n_len, m__law_take⟩ F__law_take b__law_take g1
  have g16 := ok__law_bad_number (P := l.prog) (w := w) (base := base) F__law_bad_number ⟨n_len, m__law_take⟩ F__law_take b__law_take g1
  have g17 := ok__law_spoilt (P := l.prog) (w := w) (base := base) F__law_spoilt ⟨n_max, m__law_take, m__law_bad_word, m__law_bad_sign, m__law_bad_number⟩ F__law_take b__law_take g1 F__law_bad_word b__law_bad_word g14 F__law_bad_sign b__law_bad_sign g15 F__law_bad_number b__law_bad_number g16
  have g18 := ok__law_any_row (P := l.prog) (w := w) (base := base) F__law_any_row ⟨n_len, n_int, n_range, n_tuple, m__law_take⟩ F__law_take b__law_take g1
  exact ok_law F_law ⟨n_len, n_int, n_list, n_tuple, n_range, m__law_box, m__law_take, m__law_letters, m__law_expression, m__law_spoilt, m__law_any_row, m__law_right⟩ F__law_box b__law_box (ok__law_box F__law_box ⟨n_len, n_int⟩) F__law_take b__law_take g1 F__law_letters b__law_letters g2 F__law_expression b__law_expression g4 F__law_spoilt b__law_spoilt g17 F__law_any_row b__law_any_row g18 F__law_right b__law_right g13
theorem sq_ne {K : PySem.W.Frag} {H : Hp} {a t : Addr} {xs : List V} {ps : Array Value} (hS : SqL K H a xs) (hT : H t = some (.tbl ps)) (hK : K.lookup t = none) : a ≠ t := by
  rintro rfl
  rcases hS with (h | ⟨o, h⟩) | ⟨o, its, n, h, _⟩
  · rw [hT] at h; cases h
  · rw [hT] at h; cases h
  · rw [hK] at h; cases h
theorem walk {l : PySem.W.OpenLaw} {q : Program} {loose : List Str} {XP : (Str → Option Value) → Heap → Prop} {YP : World → Heap → Prop} {d : DefRec} {K : Params → PySem.W.Frag} (hn : l.most = some 63) (hdf : d.params.defaults = [])
    (hY : ∀ (w : World) (h : Heap), YP w h → (K w.params).In h) (hT : ∀ (w : World) (h : Heap), YP w h → ∀ t ∈ [256], h.get? t = some (PySem.W.tabObj #[]))
    (hC : ∀ (w : World) (h : Heap), (K w.params).In h → ∀ t ∈ [256], ∃ c, PySem.W.CodeHd h c t) (hN : ∀ w : World, ∀ t ∈ [256], (K w.params).lookup t = none)
    (F : ∀ (w : World) (mg : Str → Option Value) (fa : Addr) (h : Heap), (K w.params).In h → h.Ns mainGlobals mg → mg d.name = some (.ref fa) →
      ∃ fd : FuncData, (∀ (s : Shared) (u : Value), BindsTo s fd ⟨[u], []⟩ [("_law_script", u)]) ∧ ∀ base : Heap, (K w.params).In base → base.Ns mainGlobals mg → (∀ t ∈ [256], base.BuiltinsAt mg t) → FnOk l.prog w (K w.params) mg base CX0 9 fa fd ["_law_script"] (spLawT (K w.params) 256)) :
    PySem.W.WalkO q loose XP YP l.row.toRowW d [] (fun f vs => PySem.call f vs) :=
  L2.walk_ofT (n := 63) (k := 9) (x := "_law_script") (ts := [256]) (CX := fun _ => CX0) (sp := fun w => spLawT (K w.params) 256) hn (by decide) hdf ⟨rfl, by decide, by decide, rfl⟩ hY hT hC hN F (fun w _ a ns hl hS hT => ⟨a, ns, rfl, hS, hl, sq_ne hS (hT 256 (.head _)) (hN w 256 (.head _)), ⟨#[], hT 256 (.head _), trivial, fun p cv e => by cases e⟩, fun _ => rfl⟩) fun _ _ _ _ _ z => z
end My
theorem PySem.W.Fast.tw9351807929217174240 : True := trivial
theorem PySem.W.Fast.tw6237282177177383722 : True := trivial
theorem PySem.W.Fast.tw13633376900350967907 : True := trivial
theorem PySem.W.Fast.tw3088349138098009929 : True := trivial
open PySem PySem.W PyProof.Rows
set_option maxRecDepth 100000 in
set_option maxHeartbeats 0 in
theorem PySem.Challenge.cw_calmword_k20_expressions_looked_at_holds : PySem.Challenge.rw_calmword_k20_expressions_looked_at.Holds := by
  w_on; o_law; k_head; (case hw => w_witness2)
  k_fill
  refine My.walk (l := PySem.Challenge.rw_calmword_k20_expressions_looked_at) rfl rfl (fun w h Y => PySem.W.km_in_of Y) (fun w h Y => PySem.W.km_tabs_of Y) ?cC ?cN ?F
  case cC => intro w h X t ht; cases List.mem_singleton.mp ht; refine' My.c_of X ?h3 ?h4 ?h5 ?h6; (case h3 => k_is); (case h4 => k_is); (case h5 => rfl); (case h6 => kernel_rfl)
  case cN => exact fun w t ht => by cases List.mem_singleton.mp ht; rfl
  case F =>
    intro w mg fa h KX G hmg
    refine' My.all_mk KX G hmg ?a1 ?l1 ?c1 ?k1 ?a2 ?l2 ?c2 ?k2 ?a3 ?l3 ?c3 ?k3 ?a4 ?l4 ?c4 ?k4 ?a5 ?l5 ?c5 ?k5 ?a6 ?l6 ?c6 ?k6 ?a7 ?l7 ?c7 ?k7 ?a8 ?l8 ?c8 ?k8 ?a9 ?l9 ?c9 ?k9 ?a10 ?l10 ?c10 ?k10 ?a11 ?l11 ?c11 ?k11 ?a12 ?l12 ?c12 ?k12 ?a13 ?l13 ?c13 ?k13 ?a14 ?l14 ?c14 ?k14 ?a15 ?l15 ?c15 ?k15 ?a16 ?l16 ?c16 ?k16 ?a17 ?l17 ?c17 ?k17 ?a18 ?l18 ?c18 ?k18 ?a19 ?l19 ?c19 ?k19 ?a20 ?l20 ?c20 ?k20 ?z_len ?z_int ?z_range ?z_list ?z_tuple ?z_isinstance ?z_str ?z_bool ?z_max ?z_all ?z_zip ?z_enumerate ?z_ValueError ?ef ?lf ?vf ?nf ?sm ?qk0 ?qv0 ?qz0 ?qk1 ?qv1 ?qz1 ?qk2 ?qv2 ?qz2 ?qk3 ?qv3 ?qz3 ?qk4 ?qv4 ?qz4 ?qk5 ?qv5 ?qz5 ?qk6 ?qv6 ?qz6 ?ecd ?hcin ?aD ?lD ?tyD ?lnD ?eoD ?inD ?spD ?rdD ?fcD ?ac0 ?lc0 ?ty0 ?ac1 ?lc1 ?ty1 ?ac2 ?lc2 ?ty2 ?ac3 ?lc3 ?ty3 ?ac4 ?lc4 ?ty4 ?ac5 ?lc5 ?ty5 ?ac6 ?lc6 ?ty6 ?ac7 ?lc7 ?ty7 ?ac8 ?lc8 ?ty8 ?ac9 ?lc9 ?ty9 ?ac10 ?lc10 ?ty10 ?ac11 ?lc11 ?ln11 ?eo11 ?sa11 ?ga11 ?gx11 ?kp11 ?cc11 ?ob11 ?in11 ?lf11 ?cf11 ?kq11 ?qf ?ne0 ?nd_0 ?ne1 ?nd_1 ?ne2 ?nd_2 ?ne3 ?nd_3 ?ne4 ?nd_4 ?ne5 ?nd_5 ?ne6 ?nd_6 ?ne7 ?nd_7 ?ne8 ?nd_8 ?ne9 ?nd_9 ?ne10 ?nd_10 ?neD
    (case a1 => k_is)
    (case l1 => k_is)
    (case c1 => k_is)
    (case k1 => k_is)
    (case a2 => k_is)
    (case l2 => k_is)
    (case c2 => k_is)
    (case k2 => k_is)
    (case a3 => k_is)
    (case l3 => k_is)
    (case c3 => k_is)
    (case k3 => k_is)
    (case a4 => k_is)
    (case l4 => k_is)
    (case c4 => k_is)
    (case k4 => k_is)
    (case a5 => k_is)
    (case l5 => k_is)
    (case c5 => k_is)
    (case k5 => k_is)
    (case a6 => k_is)
    (case l6 => k_is)
    (case c6 => k_is)
    (case k6 => k_is)
    (case a7 => k_is)
    (case l7 => k_is)
    (case c7 => k_is)
    (case k7 => k_is)
    (case a8 => k_is)
    (case l8 => k_is)
    (case c8 => k_is)
    (case k8 => k_is)
    (case a9 => k_is)
    (case l9 => k_is)
    (case c9 => k_is)
    (case k9 => k_is)
    (case a10 => k_is)
    (case l10 => k_is)
    (case c10 => k_is)
    (case k10 => k_is)
    (case a11 => k_is)
    (case l11 => k_is)
    (case c11 => k_is)
    (case k11 => k_is)
    (case a12 => k_is)
    (case l12 => k_is)
    (case c12 => k_is)
    (case k12 => k_is)
    (case a13 => k_is)
    (case l13 => k_is)
    (case c13 => k_is)
    (case k13 => k_is)
    (case a14 => k_is)
    (case l14 => k_is)
    (case c14 => k_is)
    (case k14 => k_is)
    (case a15 => k_is)
    (case l15 => k_is)
    (case c15 => k_is)
    (case k15 => k_is)
    (case a16 => k_is)
    (case l16 => k_is)
    (case c16 => k_is)
    (case k16 => k_is)
    (case a17 => k_is)
    (case l17 => k_is)
    (case c17 => k_is)
    (case k17 => k_is)
    (case a18 => k_is)
    (case l18 => k_is)
    (case c18 => k_is)
    (case k18 => k_is)
    (case a19 => k_is)
    (case l19 => k_is)
    (case c19 => k_is)
    (case k19 => k_is)
    (case a20 => k_is)
    (case l20 => k_is)
    (case c20 => k_is)
    (case k20 => k_is)
    (case z_len => k_is)
    (case z_int => k_is)
    (case z_range => k_is)
    (case z_list => k_is)
    (case z_tuple => k_is)
    (case z_isinstance => k_is)
    (case z_str => k_is)
    (case z_bool => k_is)
    (case z_max => k_is)
    (case z_all => k_is)
    (case z_zip => k_is)
    (case z_enumerate => k_is)
    (case z_ValueError => k_is)
    (case ef => k_is)
    (case lf => k_is)
    (case vf => exact (.cons ⟨_, _, rfl, rfl, rfl, rfl⟩ (.cons ⟨_, _, rfl, rfl, rfl, rfl⟩ (.cons ⟨_, _, rfl, rfl, rfl, rfl⟩ (.cons ⟨_, _, rfl, rfl, rfl, rfl⟩ (.cons ⟨_, _, rfl, rfl, rfl, rfl⟩ (.cons ⟨_, _, rfl, rfl, rfl, rfl⟩ (.cons ⟨_, _, rfl, rfl, rfl, rfl⟩ .nil))))))))
    (case nf => (show List.Nodup [(Sum.inr (Str.ofString "nothing") : L2.Key), Sum.inr (Str.ofString "blank"), Sum.inr (Str.ofString "letter"), Sum.inr (Str.ofString "not"), Sum.inr (Str.ofString "or"), Sum.inr (Str.ofString "and"), Sum.inr (Str.ofString "behind")]; decide +kernel))
    (case sm => first | rfl | decide)
    (case qk0 => k_is)
    (case qv0 => exact .nil)
    (case qz0 => first | decide | simp)
    (case qk1 => k_is)
    (case qv1 => exact .nil)
    (case qz1 => first | decide | simp)
    (case qk2 => k_is)
    (case qv2 => exact (.cons ⟨_, rfl⟩ .nil))
    (case qz2 => first | decide | simp)
    (case qk3 => k_is)
    (case qv3 => exact (.cons ⟨_, rfl⟩ .nil))
    (case qz3 => first | decide | simp)
    (case qk4 => k_is)
    (case qv4 => exact (.cons ⟨_, rfl⟩ (.cons ⟨_, rfl⟩ .nil)))
    (case qz4 => first | decide | simp)
    (case qk5 => k_is)
    (case qv5 => exact (.cons ⟨_, rfl⟩ (.cons ⟨_, rfl⟩ .nil)))
    (case qz5 => first | decide | simp)
    (case qk6 => k_is)
    (case qv6 => exact (.cons ⟨_, rfl⟩ (.cons ⟨_, rfl⟩ .nil)))
    (case qz6 => first | decide | simp)
    (case ecd => rfl)
    (case hcin => kernel_rfl)
    (case aD => k_is)
    (case lD => k_is)
    (case tyD => k_is)
    (case lnD => k_is)
    (case eoD => first | (simp; done) | rfl)
    (case inD => k_is)
    (case spD => k_is)
    (case rdD => k_is)
    (case fcD => k_is)
    (case ac0 => k_is)
    (case lc0 => k_is)
    (case ty0 => k_is)
    (case ac1 => k_is)
    (case lc1 => k_is)
    (case ty1 => k_is)
    (case ac2 => k_is)
    (case lc2 => k_is)
    (case ty2 => k_is)
    (case ac3 => k_is)
    (case lc3 => k_is)
    (case ty3 => k_is)
    (case ac4 => k_is)
    (case lc4 => k_is)
    (case ty4 => k_is)
    (case ac5 => k_is)
    (case lc5 => k_is)
    (case ty5 => k_is)
    (case ac6 => k_is)
    (case lc6 => k_is)
    (case ty6 => k_is)
    (case ac7 => k_is)
    (case lc7 => k_is)
    (case ty7 => k_is)
    (case ac8 => k_is)
    (case lc8 => k_is)
    (case ty8 => k_is)
    (case ac9 => k_is)
    (case lc9 => k_is)
    (case ty9 => k_is)
    (case ac10 => k_is)
    (case lc10 => k_is)
    (case ty10 => k_is)
    (case ac11 => k_is)
    (case lc11 => k_is)
    (case ln11 => k_is)
    (case eo11 => first | (simp; done) | rfl)
    (case sa11 => k_is)
    (case ga11 => k_is)
    (case gx11 => k_is)
    (case kp11 => k_is)
    (case cc11 => k_is)
    (case ob11 => k_is)
    (case in11 => k_is)
    (case lf11 => k_is)
    (case cf11 => k_is)
    (case kq11 => k_is)
    (case qf => k_is)
    (case ne0 => decide)
    (case nd_0 => decide)
    (case ne1 => decide)
    (case nd_1 => decide)
    (case ne2 => decide)
    (case nd_2 => decide)
    (case ne3 => decide)
    (case nd_3 => decide)
    (case ne4 => decide)
    (case nd_4 => decide)
    (case ne5 => decide)
    (case nd_5 => decide)
    (case ne6 => decide)
    (case nd_6 => decide)
    (case ne7 => decide)
    (case nd_7 => decide)
    (case ne8 => decide)
    (case nd_8 => decide)
    (case ne9 => decide)
    (case nd_9 => decide)
    (case ne10 => decide)
    (case nd_10 => decide)
    (case neD => decide)
