import PyProof.Rows.All
import Wide.All
import OpenK.AllK
import Wide.FinOn
import Lean
import PyProof.EqAt
import PyProof.EqKinds
import PyProof.TupleCall
import PySem.Challenge.RW_calmword_k27_expressions_read
set_option Elab.async false
set_option linter.all false
set_option maxRecDepth 100000
namespace L2
open PySem PySem.Spec PyProof.Rows
abbrev Key := Sum Int Str
def keyIs : Key → Value → Bool
  | .inl k, v => Value.isInt k v
  | .inr x, v => Value.isStrOf x v
def keyH (w : World) : Key → Int
  | .inl k => hashInt k
  | .inr x => hashStr w x
theorem keyIs_shape : ∀ {k : Key} {v : Value}, keyIs k v = true → (∃ i t, k = Sum.inl i ∧ v = Value.int i t) ∨ (∃ x t, k = Sum.inr x ∧ v = Value.str x t)
  | .inl i, v, h => by
    obtain ⟨t, e⟩ := Value.isInt_shape (k := i) (v := v) h
    exact .inl ⟨i, t, rfl, e⟩
  | .inr x, v, h => by
    obtain ⟨t, e⟩ := Value.isStrOf_shape (x := x) (v := v) h
    exact .inr ⟨x, t, rfl, e⟩
theorem keyIs_int (i : Int) (t : Tok) : keyIs (.inl i) (.int i t) = true := by simp [keyIs, Value.isInt]
theorem keyIs_str (x : Str) (t : Tok) : keyIs (.inr x) (.str x t) = true := by simp [keyIs, Value.isStrOf]
theorem key_ll (a b : Int) : decide ((Sum.inl a : Key) = Sum.inl b) = (a == b) := by
  by_cases e : a = b
  · subst e; simp
  · have h : ¬ (Sum.inl a : Key) = Sum.inl b := fun q => e (Sum.inl.inj q)
    rw [decide_eq_false h]
    exact (beq_eq_false_iff_ne.mpr e).symm
theorem key_rr (a b : Str) : decide ((Sum.inr a : Key) = Sum.inr b) = decide (a = b) := by
  by_cases e : a = b
  · subst e; simp
  · have h : ¬ (Sum.inr a : Key) = Sum.inr b := fun q => e (Sum.inr.inj q)
    rw [decide_eq_false h, decide_eq_false e]
theorem key_lr (a : Int) (b : Str) : decide ((Sum.inl a : Key) = Sum.inr b) = false := decide_eq_false (fun q => nomatch q)
theorem key_rl (a : Str) (b : Int) : decide ((Sum.inr a : Key) = Sum.inl b) = false := decide_eq_false (fun q => nomatch q)
def mixKind (prog : Program) (w : World) : PySem.KeyKind prog w Key where
  is := keyIs
  hash := keyH w
  inj := fun v a b ha hb => by
    rcases keyIs_shape ha with ⟨i, t, rfl, rfl⟩ | ⟨x, t, rfl, rfl⟩
    · rcases keyIs_shape hb with ⟨j, u, rfl, e⟩ | ⟨y, u, rfl, e⟩
      · injection e with e1 _; rw [e1]
      · exact nomatch e
    · rcases keyIs_shape hb with ⟨j, u, rfl, e⟩ | ⟨y, u, rfl, e⟩
      · exact nomatch e
      · injection e with e1 _; rw [e1]
  byValue := fun k v h => by
    rcases keyIs_shape h with ⟨i, t, rfl, rfl⟩ | ⟨x, t, rfl, rfl⟩ <;> rfl
  pyHash := fun hv h => by
    rcases keyIs_shape hv with ⟨i, t, rfl, rfl⟩ | ⟨x, t, rfl, rfl⟩
    · exact wpAny_pyHash_int h
    · exact wpAny_pyHash_str h
  eqBool := fun hu hv h => by
    rcases keyIs_shape hu with ⟨i, t, rfl, rfl⟩ | ⟨x, t, rfl, rfl⟩
    · rcases keyIs_shape hv with ⟨j, u, rfl, rfl⟩ | ⟨y, u, rfl, rfl⟩
      · rw [key_ll] at h; exact wpAny_eqBool_int h
      · rw [key_lr] at h; exact SeqAt.EqAt.int_str i t y u _ _ _ _ h
    · rcases keyIs_shape hv with ⟨j, u, rfl, rfl⟩ | ⟨y, u, rfl, rfl⟩
      · rw [key_rl] at h; exact SeqAt.EqAt.str_int x t j u _ _ _ _ h
      · rw [key_rr] at h; exact wpAny_eqBool_str h
  «strs» := fun k x t v h => by
    rcases keyIs_shape h with ⟨i, u, rfl, e⟩ | ⟨y, u, rfl, e⟩
    · exact nomatch e
    · injection e with e1 _
      subst e1
      cases v <;> rfl
theorem mixKind_int (prog : Program) (w : World) (i : Int) (t : Tok) : (mixKind prog w).is (.inl i) (.int i t) = true := keyIs_int i t
theorem mixKind_str (prog : Program) (w : World) (x : Str) (t : Tok) : (mixKind prog w).is (.inr x) (.str x t) = true := keyIs_str x t
end L2
namespace L2
open PySem PySem.Spec PyProof.Rows
inductive V where
  | non | bl (b : Bool) | int (i : Int) | str (x : Str) | byt (b : Array UInt8) | flt (b : UInt64) | ref (a : Addr) | ty (n : String)
  deriving DecidableEq
def RelV : V → Value → Prop
  | .non, u => u = Value.none
  | .bl b, u => u = Value.bool b
  | .int i, u => ∃ t, u = Value.int i t
  | .str x, u => ∃ t, u = Value.str x t
  | .byt b, u => ∃ t, u = Value.bytes b t
  | .flt b, u => ∃ t, u = Value.float b t
  | .ref a, u => u = Value.ref a
  | .ty n, u => u = Value.type n
abbrev Vals : List V → List Value → Prop := Paired RelV
theorem Vals.length {xs : List V} {us : List Value} (r : Vals xs us) : xs.length = us.length := Paired.length r
theorem Vals.get : ∀ {xs : List V} {us : List Value} {i : Nat} {x : V}, Vals xs us → xs[i]? = some x → ∃ u, us[i]? = some u ∧ RelV x u
  | _, _, _, _, .nil, e => by simp at e
  | _, _, 0, _, .cons r _, e => by simp at e; subst e; exact ⟨_, rfl, r⟩
  | _, _, i + 1, x, .cons _ t, e => by
    obtain ⟨u, h1, h2⟩ := Vals.get (i := i) (x := x) t (by simpa using e)
    exact ⟨u, by simpa using h1, h2⟩
theorem Vals.set {x : V} {u : Value} (r : RelV x u) : ∀ {xs : List V} {us : List Value} (i : Nat), Vals xs us → Vals (xs.set i x) (us.set i u)
  | _, _, _, .nil => .nil
  | _, _, 0, .cons _ t => .cons r t
  | _, _, i + 1, .cons q t => .cons q (Vals.set r i t)
theorem Vals.append : ∀ {xs ys : List V} {us ws : List Value}, Vals xs us → Vals ys ws → Vals (xs ++ ys) (us ++ ws)
  | _, _, _, _, .nil, s => s
  | _, _, _, _, .cons r t, s => .cons r (Vals.append t s)
theorem Vals.take : ∀ {xs : List V} {us : List Value} (n : Nat), Vals xs us → Vals (xs.take n) (us.take n)
  | _, _, 0, _ => .nil
  | _, _, _ + 1, .nil => .nil
  | _, _, n + 1, .cons r t => .cons r (Vals.take n t)
theorem Vals.drop : ∀ {xs : List V} {us : List Value} (n : Nat), Vals xs us → Vals (xs.drop n) (us.drop n)
  | _, _, 0, r => r
  | _, _, _ + 1, .nil => .nil
  | _, _, n + 1, .cons _ t => Vals.drop n t
def RelO : Option V → Option Value → Prop
  | some v, some u => RelV v u
  | none, none => True
  | _, _ => False
def KV {κ : Type} : List (κ × V) → List (κ × Value) → Prop := Paired fun (p : κ × V) (q : κ × Value) => p.1 = q.1 ∧ RelV p.2 q.2
def kV : Key → V
  | .inl i => .int i
  | .inr x => .str x
inductive HO where
    | lst (xs : List V)
    | tup (xs : List V)
    | dK (kvs : List (Key × V)) | dT (kvs : List (List Key × V))
    | set (S : Int → Bool) (n : Nat)
    | ins (C dx : Addr) (fs : List (Str × V))
    | own (x : Addr)
    | xd (fs : List (Str × V))
    | met (f x : Addr)
    | rng (lo hi : Int)
    | frz (o : Obj) (u : HO)
    | tbl (ps : Array Value)
    | ext (φ : Heap → Prop)
abbrev Hp := Addr → Option HO
def upd (H : Hp) (a : Addr) (o : HO) : Hp := fun b => if b = a then some o else H b
theorem upd_same {H : Hp} {a : Addr} {o : HO} : upd H a o a = some o := by unfold upd; rw [if_pos rfl]
theorem upd_ne {H : Hp} {a b : Addr} {o : HO} (h : b ≠ a) : upd H a o b = H b := by unfold upd; rw [if_neg h]
theorem upd_upd {H : Hp} {a : Addr} {o u : HO} : upd (upd H a o) a u = upd H a u := by
  funext b; unfold upd; split <;> rfl
theorem ne_of {H : Hp} {a b : Addr} {o u : HO} (h : H a = some o) (h' : H b = some u) (d : o ≠ u) : a ≠ b := by
  intro e; subst e; rw [h] at h'; exact d (Option.some.inj h')
theorem ne_of_none {H : Hp} {a b : Addr} {o : HO} (h : H a = some o) (h' : H b = none) : a ≠ b := by
  intro e; subst e; rw [h] at h'; cases h'
section
variable (P : Program) (w : World)
def ObjOk (H : Hp) (h : Heap) (a : Addr) : HO → Prop
  | .lst xs => xs.length ≤ sizeLine ∧ ∃ (its : List Value) (n : Nat), Vals xs its ∧ h.get? a = some { cls := .type "list", data := .seq its.toArray n }
  | .tup xs => xs.length ≤ sizeLine ∧ ∃ its : List Value, Vals xs its ∧ IsTup h a its.toArray
  | .dK kvs => kvs.length ≤ sizeLine ∧ (a == sysModules) = false ∧ ∃ vs, KV kvs vs ∧ h.DictOf (mixKind P w) a vs
  | .dT kvs => kvs.length ≤ sizeLine ∧ (a == sysModules) = false ∧ ∃ xs : List (List Key × Addr × Value),
      Paired (fun (p : List Key × V) (q : List Key × Addr × Value) => p.1 = q.1 ∧ H q.2.1 = some (.tup (p.1.map kV)) ∧ RelV p.2 q.2.2) kvs xs ∧
      ∃ o es ep, h.get? a = some o ∧ o.ExactDict ∧ o.data = .dict es ep ∧ es.toList = xs.map (entryOfKey (tupleKind (mixKind P w))) ∧ (xs.map (·.1)).Nodup
  | .set S n => h.SetOf (intKind P w) a S n
  | .ins C dx fs => H dx = some (.own a) ∧ fs.length ≤ 1000 ∧ dx ≠ a ∧ h.get? a = some (PySem.W.instObj C dx) ∧
      ∃ mA, h.Ns1 dx mA ∧ (∀ f, RelO (fs.lookup f) (mA f)) ∧ PySem.Within mA (fs.map (·.1))
  | .own _ => ∃ o, h.get? a = some o
  | .xd fs => ∃ mA, h.Ns1 a mA ∧ ∀ f, RelO (fs.lookup f) (mA f)
  | .rng lo hi => ∃ t u v, h.get? a = some { cls := .type "range", data := .fields #[.int lo t, .int hi u, .int 1 v] }
  | .frz o u => h.get? a = some o ∧ ObjOk H h a u
  | .tbl ps => h.get? a = some { cls := .none, data := .fields ps }
  | .met f x => h.get? a = some (PySem.W.methodObj (.ref f) (.ref x))
  | .ext φ => φ h ∧ (∃ o, h.get? a = some o) ∧ ∀ h1 h2 : Heap, φ h1 → (∀ o, h1.get? a = some o → h2.get? a = some o) → φ h2
def HOk (H : Hp) (h : Heap) : Prop := ∀ a o, H a = some o → ObjOk P w H h a o
end
section
variable {P : Program} {w : World} {H H' : Hp} {h h' : Heap} {a : Addr} {o : HO}
theorem ObjOk.lt (x : ObjOk P w H h a o) : a < h.objs.size := by
  cases o with
  | lst xs => obtain ⟨_, _, _, _, e⟩ := x; exact Heap.lt_size e
  | tup xs => obtain ⟨_, _, _, p⟩ := x; exact p.lt
  | dK kvs => obtain ⟨_, _, _, _, o, _, _, e, _⟩ := x; exact Heap.lt_size e
  | dT kvs => obtain ⟨_, _, _, _, o, _, _, e, _⟩ := x; exact Heap.lt_size e
  | set S n => obtain ⟨o, _, _, _, e, _⟩ := x; exact Heap.lt_size e
  | ins C dx fs => obtain ⟨_, _, _, e, _⟩ := x; exact Heap.lt_size e
  | own y => obtain ⟨_, e⟩ := x; exact Heap.lt_size e
  | xd fs => obtain ⟨_, ⟨_, _, _, e, _⟩, _⟩ := x; exact Heap.lt_size e
  | rng lo hi => obtain ⟨_, _, _, e⟩ := x; exact Heap.lt_size e
  | frz ob u => obtain ⟨e, _⟩ := x; exact Heap.lt_size e
  | tbl ps => exact Heap.lt_size (show h.get? a = some _ from x)
  | met f y => exact Heap.lt_size (show h.get? a = some _ from x)
  | ext φ => obtain ⟨_, ⟨_, e⟩, _⟩ := x; exact Heap.lt_size e
theorem Paired.mapP {α β : Type} {F G : α → β → Prop} : ∀ {l₁ : List α} {l₂ : List β}, Paired F l₁ l₂ → (∀ a b, F a b → G a b) → Paired G l₁ l₂
  | _, _, .nil, _ => .nil
  | _, _, .cons r t, f => .cons (f _ _ r) (Paired.mapP t f)
theorem ObjOk.stay (x : ObjOk P w H h a o) (k : ∀ b u, (b = a ∨ H b = some (.own a)) → h.get? b = some u → h'.get? b = some u)
    (ho : ∀ b, H b = some (.own a) → H' b = some (.own a)) (ht : ∀ b xs, H b = some (.tup xs) → H' b = some (.tup xs)) : ObjOk P w H' h' a o := by
  induction o with
  | lst xs => obtain ⟨z, its, n, r, e⟩ := x; exact ⟨z, its, n, r, k _ _ (.inl rfl) e⟩
  | tup xs => obtain ⟨z, its, r, ob, e, c⟩ := x; exact ⟨z, its, r, ob, k _ _ (.inl rfl) e, c⟩
  | dK kvs => obtain ⟨z, y, vs, r, ob, es, ep, e, c⟩ := x; exact ⟨z, y, vs, r, ob, es, ep, k _ _ (.inl rfl) e, c⟩
  | dT kvs =>
    obtain ⟨z, y, xs, r, ob, es, ep, e, c⟩ := x
    exact ⟨z, y, xs, Paired.mapP r fun p q z => ⟨z.1, ht _ _ z.2.1, z.2.2⟩, ob, es, ep, k _ _ (.inl rfl) e, c⟩
  | set S n => obtain ⟨ob, es, ep, t, e, c⟩ := x; exact ⟨ob, es, ep, t, k _ _ (.inl rfl) e, c⟩
  | ins C dx fs =>
    obtain ⟨d, z, ne, e, mA, ⟨od, es, ep, e2, c⟩, r⟩ := x
    exact ⟨ho _ d, z, ne, k _ _ (.inl rfl) e, mA, ⟨od, es, ep, k _ _ (.inr d) e2, c⟩, r⟩
  | own y => obtain ⟨ob, e⟩ := x; exact ⟨ob, k _ _ (.inl rfl) e⟩
  | xd fs => obtain ⟨mA, ⟨od, es, ep, e, c⟩, r⟩ := x; exact ⟨mA, ⟨od, es, ep, k _ _ (.inl rfl) e, c⟩, r⟩
  | rng lo hi => obtain ⟨t, u, v, e⟩ := x; exact ⟨t, u, v, k _ _ (.inl rfl) e⟩
  | frz ob u ih => obtain ⟨e, q⟩ := x; exact ⟨k _ _ (.inl rfl) e, ih q⟩
  | tbl ps =>
    have e : h.get? a = some { cls := .none, data := .fields ps } := x
    show h'.get? a = some { cls := .none, data := .fields ps }
    exact k a _ (.inl rfl) e
  | met f y =>
    have e : h.get? a = some (PySem.W.methodObj (.ref f) (.ref y)) := x
    show h'.get? a = some (PySem.W.methodObj (.ref f) (.ref y))
    exact k a _ (.inl rfl) e
  | ext φ => obtain ⟨p, ⟨o, e⟩, st⟩ := x; exact ⟨st _ _ p fun o q => k _ _ (.inl rfl) q, ⟨o, k _ _ (.inl rfl) e⟩, st⟩
theorem HOk.lt (x : HOk P w H h) (e : H a = some o) : a < h.objs.size := (x a o e).lt
theorem HOk.fresh (x : HOk P w H h) (e : h.objs.size ≤ a) : H a = none := by
  cases q : H a with
  | none => rfl
  | some u => exact absurd (Nat.lt_of_lt_of_le (x.lt q) e) (Nat.lt_irrefl _)
theorem HOk.kept (x : HOk P w H h) (k : ∀ b u, h.get? b = some u → h'.get? b = some u) : HOk P w H h' := fun a o e =>
  (x a o e).stay (fun b u _ q => k b u q) (fun _ q => q) fun _ _ q => q
theorem HOk.laid (x : HOk P w H h) (k : ∀ b u, h.get? b = some u → h'.get? b = some u) (hp : h.objs.size ≤ a) (new : ObjOk P w (upd H a o) h' a o) : HOk P w (upd H a o) h' := fun b u e => by
  have hn := x.fresh hp
  by_cases hb : b = a
  · subst hb; rw [upd_same] at e; cases e; exact new
  · rw [upd_ne hb] at e
    exact (x b u e).stay (fun c v _ q => k c v q) (fun c q => by rw [upd_ne (ne_of_none q hn)]; exact q) fun c xs q => by rw [upd_ne (ne_of_none q hn)]; exact q
end
def Rd (H : Hp) (a : Addr) (u : HO) : Prop := H a = some u ∨ ∃ o, H a = some (.frz o u)
theorem Rd.ok {P : Program} {w : World} {H : Hp} {h : Heap} {a : Addr} {u : HO} (r : Rd H a u) (x : HOk P w H h) : ObjOk P w H h a u := by
  rcases r with r | ⟨o, r⟩
  · exact x a u r
  · obtain ⟨_, q⟩ := x a _ r
    exact q
def Mut : Option HO → Prop
  | some (.lst _) => True
  | some (.dK _) => True
  | some (.dT _) => True
  | some (.set _ _) => True
  | some (.ins _ _ _) => True
  | some (.ext _) => True
  | _ => False
section
variable {P : Program} {w : World} {H : Hp} {h h' : Heap} {x e : Addr} {o' : HO}
theorem HOk.write (ok : HOk P w H h) (mu : Mut (H x)) (he : e = x ∨ H e = some (.own x)) (k : ∀ b u, b ≠ e → h.get? b = some u → h'.get? b = some u) (heo : ∃ u, h'.get? e = some u)
    (new : ObjOk P w (upd H x o') h' x o') : HOk P w (upd H x o') h' := fun b u q => by
  have nown : ∀ c y, H c = some (.own y) → c ≠ x := fun c y r z => by subst z; rw [r] at mu; exact mu
  have ntup : ∀ c xs, H c = some (.tup xs) → c ≠ x := fun c xs r z => by subst z; rw [r] at mu; exact mu
  by_cases hb : b = x
  · subst hb; rw [upd_same] at q; cases q; exact new
  · rw [upd_ne hb] at q
    by_cases hbe : b = e
    · have q' : H b = some (.own x) := by
        rcases he with z | z
        · exact absurd (hbe.trans z) hb
        · rw [hbe]; exact z
      rw [q] at q'; cases q'
      obtain ⟨v, hv⟩ := heo
      exact ⟨v, by rw [hbe]; exact hv⟩
    · refine (ok b u q).stay (fun c v hc r => k c v ?_ r) (fun c r => by rw [upd_ne (nown c b r)]; exact r) fun c xs r => by rw [upd_ne (ntup c xs r)]; exact r
      rcases hc with rfl | hc
      · exact hbe
      · rintro rfl
        rcases he with z | z
        · exact nown c b hc z
        · rw [hc] at z; cases z; exact hb rfl
end
structure Un (fs ex : List Addr) (H H' : Hp) (h h' : Heap) : Prop where
  keep : ∀ b o, h.get? b = some o → H b = none → b ∉ fs → b ∉ ex → h'.get? b = some o
  slot : ∀ b o, h.get? b = some o → H b = none → b ∈ fs → b ∉ ex → ∃ sl, h'.get? b = some { o with slots := sl }
  free : ∀ b o, h.get? b = some o → H b = none → b ∉ ex → H' b = none
  there : ∀ b o, h.get? b = some o → b ∉ ex → ∃ o', h'.get? b = some o'
  tups : ∀ b xs, H b = some (.tup xs) → H' b = some (.tup xs)
  frzs : ∀ b o u, H b = some (.frz o u) → H' b = some (.frz o u)
  tbls : ∀ b ps, H b = some (.tbl ps) → ∃ more, H' b = some (.tbl (ps ++ more))
section
variable {fs fs' ex ex' : List Addr} {H H1 H2 : Hp} {h h1 h2 h' : Heap} {a x e : Addr} {o : HO}
theorem Un.any (u : Un fs ex H H1 h h1) {b : Addr} {ob : Obj} (q : h.get? b = some ob) (n : H b = none) (hx : b ∉ ex) : ∃ sl, h1.get? b = some { ob with slots := sl } := by
  by_cases hb : b ∈ fs
  · exact u.slot b ob q n hb hx
  · exact ⟨ob.slots, u.keep b ob q n hb hx⟩
theorem Un.kept (k : ∀ b u, h.get? b = some u → h'.get? b = some u) : Un fs ex H H h h' :=
  ⟨fun b ob q _ _ _ => k b ob q, fun b ob q _ _ _ => ⟨ob.slots, k b ob q⟩, fun _ _ _ n _ => n, fun b ob q _ => ⟨ob, k b ob q⟩, fun _ _ q => q, fun _ _ _ q => q, fun _ ps q => ⟨#[], by rw [q]; simp⟩⟩
theorem Un.refl : Un fs ex H H h h := Un.kept fun _ _ q => q
theorem Un.laid (k : ∀ b u, h.get? b = some u → h'.get? b = some u) (hp : h.objs.size ≤ a) (hn : H a = none) : Un fs ex H (upd H a o) h h' where
  keep := fun b u q _ _ _ => k b u q
  slot := fun b u q _ _ _ => ⟨u.slots, k b u q⟩
  free := fun b u q n _ => by rw [upd_ne (Nat.ne_of_lt (Nat.lt_of_lt_of_le (Heap.lt_size q) hp))]; exact n
  there := fun b u q _ => ⟨u, k b u q⟩
  tups := fun b xs q => by rw [upd_ne (ne_of_none q hn)]; exact q
  frzs := fun b u xs q => by rw [upd_ne (ne_of_none q hn)]; exact q
  tbls := fun b ps q => ⟨#[], by rw [upd_ne (ne_of_none q hn), q]; simp⟩
theorem Un.write (mu : Mut (H x)) (he : e = x ∨ H e = some (.own x)) (k : ∀ b u, b ≠ e → h.get? b = some u → h'.get? b = some u) (heo : ∃ u, h'.get? e = some u) : Un fs ex H (upd H x o) h h' := by
  have hx : ∀ b, H b = none → b ≠ x := fun b n z => by subst z; rw [n] at mu; exact mu
  have hb : ∀ b, H b = none → b ≠ e := fun b n z => by
    subst z
    rcases he with r | r
    · exact hx b n r
    · rw [n] at r; cases r
  have hm : ∀ b u, H b = some u → ¬ Mut (some u) → b ≠ x := fun b u q nm z => by subst z; rw [q] at mu; exact nm mu
  refine ⟨fun b u q n _ _ => k b u (hb b n) q, fun b u q n _ _ => ⟨u.slots, k b u (hb b n) q⟩, fun b u q n _ => by rw [upd_ne (hx b n)]; exact n, fun b u q _ => ?_,
    fun b xs q => by rw [upd_ne (hm b _ q fun z => z)]; exact q, fun b u xs q => by rw [upd_ne (hm b _ q fun z => z)]; exact q, fun b ps q => ⟨#[], by rw [upd_ne (hm b _ q fun z => z), q]; simp⟩⟩
  by_cases hbe : b = e
  · subst hbe; exact heo
  · exact ⟨u, k b u hbe q⟩
end
def trk (h : Heap) (H : Hp) : List Addr := (List.range h.objs.size).filter fun a => (H a).isSome
def hidT (h : Heap) (H : Hp) : Heap := PySem.W.hideAll h (trk h H)
theorem hidT_size (h : Heap) (H : Hp) : (hidT h H).objs.size = h.objs.size := PySem.W.hideAll_size _ _
theorem hidT_get {h : Heap} {H : Hp} {b : Addr} {o : Obj} (e : h.get? b = some o) (n : H b = none) : (hidT h H).get? b = some o :=
  PySem.W.hideAll_get _ e fun hm => by
    have q : (H b).isSome = true := (List.mem_filter.mp hm).2
    rw [n] at q; simp at q
theorem of_hidT {h : Heap} {H : Hp} {b : Addr} {o : Obj} (e : (hidT h H).get? b = some o) : h.get? b = some o ∧ H b = none := by
  have e' : h.get? b = some o := PySem.W.of_hideAll (trk h H) e
  refine ⟨e', ?_⟩
  cases q : H b with
  | none => rfl
  | some x =>
    have hm : b ∈ trk h H := List.mem_filter.mpr ⟨List.mem_range.mpr (Heap.lt_size e'), by simp [q]⟩
    have z : (hidT h H).get? b = none := PySem.W.hideAll_none (trk h H) hm
    rw [z] at e; cases e
end L2
namespace L2
open PySem PySem.Spec PyProof.Rows
structure Mod (K : PySem.W.Frag) (mg : Str → Option Value) (base : Heap) : Prop where
  kin : K.In base
  glob : base.Ns mainGlobals mg
  blt : ∃ mb, base.Ns builtinsNs mb ∧ ∀ x : Str, x ≠ "__name__" → mb x = bootBuiltins x
  nolimit : base.NoLimit
structure Cx where
  prog : Program
  w : World
  K : PySem.W.Frag
  mg : Str → Option Value
  base : Heap
  A : Around
  N : List Str
  s₀ : Shared
  H₀ : Hp
  env : Env
  outer : List Env
  stack : List Env
  ex : List Addr
  fn : Str → Bool
  calm : Bool
  pn : List (Addr × Obj)
  xe : Value → Shared → Prop
def frs (l : List Env) : List Addr := l.filterMap (·.frame)
abbrev Cx.fs (X : Cx) : List Addr := frs X.outer
def Vis (sc : Scope) (x : Str) : Prop := sc.names.lookup x = some .local ∨ sc.names.lookup x = some .cell ∨ sc.names.lookup x = some .free
def Loc (sc : Scope) (x : Str) : Prop := sc.names.lookup x = some .local ∨ sc.names.lookup x = some .cell
def Look (env : Env) (h : Heap) (m : Str → Option Value) (x : Str) (u : Value) : Prop :=
  (env.kindOf x = some .local ∧ m x = some u) ∨ ((env.kindOf x = some .cell ∨ env.kindOf x = some .free) ∧ ∃ c, env.cells.lookup x = some c ∧ h.IsCell c (some u))
structure Cx.Ok (X : Cx) : Prop where
  mod : Mod X.K X.mg X.base
  kind : X.env.scope.kind = .function
  glob : X.env.globals = mainGlobals
  blt : X.env.builtins = builtinsNs
  above : X.s₀.heap.objs.size ≤ X.env.locals
  inj : ∀ x y c, X.env.cells.lookup x = some c → X.env.cells.lookup y = some c → x = y
  has : ∀ x, (X.env.kindOf x = some .cell ∨ X.env.kindOf x = some .free) → ∃ c, X.env.cells.lookup x = some c
  cab : ∀ x c, X.fn x = true → X.env.cells.lookup x = some c → X.s₀.heap.objs.size ≤ c
  hd : X.calm = true → X.A.handled = none
  frames : X.A.frames = some X.stack
  stk : X.stack = X.outer ∨ (X.stack = X.env :: X.outer ∧ X.env.frame = some X.env.locals)
  exf : ∀ b ∈ X.ex, b ≠ X.env.locals ∧ ∀ x c, X.env.cells.lookup x = some c → c ≠ b
  bs : ∀ b o, X.base.get? b = some o → X.s₀.heap.get? b = some o ∧ X.H₀ b = none
  bsz : X.base.objs.size ≤ X.s₀.heap.objs.size
  noex : ∀ b o, X.base.get? b = some o → b ∉ X.ex
  exfs : ∀ b ∈ X.ex, b ∉ X.fs
  funs : X.s₀.heap.FunFrames X.base X.outer
  frf : ∀ b ∈ X.fs, X.H₀ b = none
structure Inv (X : Cx) (pins : List (Addr × Obj)) (σ : List (Option V)) (H : Hp) (s : Shared) : Prop where
  ok : X.Ok
  os : s.os = X.s₀.os
  bare : AllBare s.gens
  base : Un X.fs X.ex X.H₀ H X.s₀.heap s.heap
  loc : ∃ m, s.heap.Ns X.env.locals m ∧ ∀ (i : Nat) (x : Str) (v : V), X.N[i]? = some x → σ[i]? = some (some v) → Vis X.env.scope x → ∃ u, RelV v u ∧ Look X.env s.heap m x u
  cell : ∀ x c, X.env.cells.lookup x = some c → ∃ v, s.heap.IsCell c v
  free : H X.env.locals = none
  freeC : ∀ x c, X.env.cells.lookup x = some c → H c = none
  pin : ∀ p ∈ X.pn ++ pins, s.heap.get? p.1 = some p.2 ∧ H p.1 = none ∧ p.1 ≠ X.env.locals ∧ p.1 ∉ X.fs ∧ ∀ v, p.2.data ≠ .cell v
  hok : HOk X.prog X.w H s.heap
  len : σ.length = X.N.length
section
variable {X : Cx} {pins : List (Addr × Obj)} {σ : List (Option V)} {H H' : Hp} {s : Shared} {h' : Heap}
theorem Cx.Ok.nofr (ok : X.Ok) {b : Addr} {o : Obj} (e : X.base.get? b = some o) : b ∉ X.fs := fun hb => by
  have := (ok.funs.mem hb).1
  rw [e] at this; cases this
theorem Inv.bs (I : Inv X pins σ H s) : ∀ b o, X.base.get? b = some o → s.heap.get? b = some o ∧ H b = none := fun b o e =>
  ⟨I.base.keep b o (I.ok.bs b o e).1 (I.ok.bs b o e).2 (I.ok.nofr e) (I.ok.noex b o e), I.base.free b o (I.ok.bs b o e).1 (I.ok.bs b o e).2 (I.ok.noex b o e)⟩
theorem Inv.bk (I : Inv X pins σ H s) : ∀ b o, X.base.get? b = some o → s.heap.get? b = some o := fun b o e => (I.bs b o e).1
theorem Inv.mod (I : Inv X pins σ H s) : Mod X.K X.mg X.base := I.ok.mod
theorem Inv.kIn (I : Inv X pins σ H s) : X.K.In s.heap := I.ok.mod.kin.keeps I.bk
theorem Inv.lt (I : Inv X pins σ H s) : X.env.locals < s.heap.objs.size := let ⟨_, hn, _⟩ := I.loc; hn.lt
theorem Inv.sz (I : Inv X pins σ H s) : X.s₀.heap.objs.size ≤ s.heap.objs.size := Nat.le_trans I.ok.above (Nat.le_of_lt I.lt)
theorem Inv.nofs (I : Inv X pins σ H s) {a : Addr} (h : s.heap.objs.size ≤ a) : a ∉ X.fs := fun hb => by
  obtain ⟨_, o, ho, _⟩ := I.ok.funs.mem hb
  exact absurd (Nat.lt_of_lt_of_le (Heap.lt_size ho) (Nat.le_trans I.sz h)) (Nat.lt_irrefl _)
theorem Inv.cne (I : Inv X pins σ H s) : ∀ x c, X.env.cells.lookup x = some c → c ≠ X.env.locals := fun x c e z => by
  obtain ⟨v, o, ho, hd⟩ := I.cell x c e
  obtain ⟨m, ⟨o', es, ep, ho', hd', _⟩, _⟩ := I.loc
  rw [z, ho'] at ho; cases ho; rw [hd'] at hd; cases hd
theorem Inv.funs (I : Inv X pins σ H s) : s.heap.FunFrames X.base X.outer := by
  have all : ∀ (l : List Env), (∀ b ∈ frs l, b ∈ X.fs) → X.s₀.heap.FunFrames X.base l → s.heap.FunFrames X.base l := by
    intro l
    induction l with
    | nil => intro _ _; trivial
    | cons env r ih =>
      intro hs hl
      obtain ⟨hk, ⟨L, o, hf, hn, ho, hd⟩, hr⟩ := hl
      have hL : L ∈ X.fs := hs L (by unfold frs; rw [List.filterMap_cons, hf]; exact List.mem_cons_self)
      obtain ⟨sl, e⟩ := I.base.slot L o ho (I.ok.frf L hL) hL fun z => I.ok.exfs L z hL
      exact ⟨hk, ⟨L, _, hf, hn, e, hd⟩, ih (fun b hb => hs b (by unfold frs; rw [List.filterMap_cons, hf]; exact List.mem_cons_of_mem _ hb)) hr⟩
  exact all X.outer (fun _ hb => hb) I.ok.funs
theorem Inv.stack (I : Inv X pins σ H s) : s.heap.FunFrames X.base X.stack := by
  rcases I.ok.stk with e | ⟨e, hf⟩
  · rw [e]; exact I.funs
  · rw [e]
    obtain ⟨m, hn, _⟩ := I.loc
    refine .cons (by rw [I.ok.kind]; decide) hf hn ?_ I.funs
    exact Heap.get?_none_of_le (Nat.le_trans I.ok.bsz I.ok.above)
theorem Inv.stkSub (I : Inv X pins σ H s) : ∀ b ∈ frs X.stack, b ∈ X.env.locals :: X.fs := fun b hb => by
  rcases I.ok.stk with e | ⟨e, hf⟩
  · rw [e] at hb; exact List.mem_cons_of_mem _ hb
  · rw [e] at hb
    unfold frs at hb
    rw [List.filterMap_cons, hf] at hb
    exact hb
theorem Inv.stkFree (I : Inv X pins σ H s) : ∀ b ∈ frs X.stack, H b = none := fun b hb => by
  rcases List.mem_cons.mp (I.stkSub b hb) with e | hb
  · rw [e]; exact I.free
  · obtain ⟨_, o, ho, _⟩ := I.ok.funs.mem hb
    exact I.base.free b o ho (I.ok.frf b hb) fun z => I.ok.exfs b z hb
theorem Inv.step {g' : Array GenState} {t' : Nat} {d' : Drawn} {ch : List Addr} (I : Inv X pins σ H s)
    (hch : ∀ b ∈ ch, (b ∈ X.ex ∨ X.s₀.heap.objs.size ≤ b) ∧ b ≠ X.env.locals ∧ (∀ x c, X.env.cells.lookup x = some c → c ≠ b) ∧ ∀ p ∈ X.pn ++ pins, p.1 ≠ b)
    (keep : ∀ b o, b ≠ X.env.locals → b ∉ X.fs → b ∉ ch → s.heap.get? b = some o → H b = none → h'.get? b = some o)
    (slot : ∀ b o, b ≠ X.env.locals → b ∈ X.fs → b ∉ ch → s.heap.get? b = some o → H b = none → ∃ sl, h'.get? b = some { o with slots := sl }) (free : ∀ b o, b ∉ ch → s.heap.get? b = some o → H b = none → H' b = none)
    (there : ∀ b o, b ∉ ch → s.heap.get? b = some o → ∃ o', h'.get? b = some o')
    (tups : ∀ b xs, H b = some (.tup xs) → H' b = some (.tup xs)) (frzs : ∀ b o u, H b = some (.frz o u) → H' b = some (.frz o u)) (tbls : ∀ b ps, H b = some (.tbl ps) → ∃ more, H' b = some (.tbl (ps ++ more)))
    (ns : ∀ m, s.heap.Ns X.env.locals m → h'.Ns X.env.locals m) (hok : HOk X.prog X.w H' h') (hg : AllBare g') :
    Inv X pins σ H' { s with heap := h', gens := g', drawn := d', toks := t' } := by
  have neL : ∀ b o, X.s₀.heap.get? b = some o → b ≠ X.env.locals := fun b o e => Nat.ne_of_lt (Nat.lt_of_lt_of_le (Heap.lt_size e) I.ok.above)
  have neC : ∀ b o, X.s₀.heap.get? b = some o → b ∉ X.ex → b ∉ ch := fun b o e hx hb => by
    rcases (hch b hb).1 with z | z
    · exact hx z
    · exact absurd (Nat.lt_of_lt_of_le (Heap.lt_size e) z) (Nat.lt_irrefl _)
  have cellK : ∀ x c, X.env.cells.lookup x = some c → ∀ v, s.heap.IsCell c v → h'.IsCell c v := fun x c e v ⟨o, ho, hd⟩ => by
    have nch : c ∉ ch := fun z => (hch c z).2.2.1 x c e rfl
    by_cases hc : c ∈ X.fs
    · obtain ⟨sl, q⟩ := slot c o (I.cne x c e) hc nch ho (I.freeC x c e)
      exact ⟨_, q, hd⟩
    · exact ⟨o, keep c o (I.cne x c e) hc nch ho (I.freeC x c e), hd⟩
  refine ⟨I.ok, I.os, hg, ⟨fun b o e n hb hx => ?_, fun b o e n hb hx => ?_, fun b o e n hx => ?_, fun b o e hx => ?_, fun b xs e => tups b xs (I.base.tups b xs e), fun b o xs e => frzs b o xs (I.base.frzs b o xs e), fun b ps e => ?_⟩, ?_, fun x c e => ?_, ?_, fun x c e => ?_, fun p hp => ?_, hok, I.len⟩
  · exact keep b o (neL b o e) hb (neC b o e hx) (I.base.keep b o e n hb hx) (I.base.free b o e n hx)
  · obtain ⟨sl, e1⟩ := I.base.slot b o e n hb hx
    obtain ⟨sl', e2⟩ := slot b _ (neL b o e) hb (neC b o e hx) e1 (I.base.free b o e n hx)
    exact ⟨sl', e2⟩
  · obtain ⟨o', e1⟩ := I.base.there b o e hx
    exact free b o' (neC b o e hx) e1 (I.base.free b o e n hx)
  · obtain ⟨o', e1⟩ := I.base.there b o e hx
    exact there b o' (neC b o e hx) e1
  · obtain ⟨m1, e1⟩ := I.base.tbls b ps e
    obtain ⟨m2, e2⟩ := tbls b _ e1
    exact ⟨m1 ++ m2, by rw [e2, Array.append_assoc]⟩
  · obtain ⟨m, hn, hl⟩ := I.loc
    refine ⟨m, ns m hn, fun i x v e1 e2 e3 => ?_⟩
    obtain ⟨u, r, l⟩ := hl i x v e1 e2 e3
    refine ⟨u, r, ?_⟩
    rcases l with l | ⟨k, c, e, z⟩
    · exact .inl l
    · exact .inr ⟨k, c, e, cellK x c e _ z⟩
  · obtain ⟨v, z⟩ := I.cell x c e
    exact ⟨v, cellK x c e v z⟩
  · obtain ⟨m, ⟨o, _, _, ho, _⟩, _⟩ := I.loc
    exact free _ o (fun z => (hch _ z).2.1 rfl) ho I.free
  · obtain ⟨v, o, ho, hd⟩ := I.cell x c e
    exact free c o (fun z => (hch c z).2.2.1 x c e rfl) ho (I.freeC x c e)
  · obtain ⟨e, n, ne, nf, d⟩ := I.pin p hp
    have nch : p.1 ∉ ch := fun z => (hch p.1 z).2.2.2 p hp rfl
    exact ⟨keep p.1 p.2 ne nf nch e n, free p.1 p.2 nch e n, ne, nf, d⟩
theorem Inv.un {t' : Nat} (I : Inv X pins σ H s) (u : Un X.fs [] H H' s.heap h') (hok : HOk X.prog X.w H' h') : Inv X pins σ H' { s with heap := h', toks := t' } := by
  obtain ⟨m, ⟨o, es, ep, ho, r⟩, _⟩ := id I.loc
  obtain ⟨sl, hL⟩ := u.any ho I.free (by simp)
  exact I.step (g' := s.gens) (d' := s.drawn) (ch := []) (fun _ z => nomatch z) (fun b o _ hb _ e n => u.keep b o e n hb (by simp)) (fun b o _ hb _ e n => u.slot b o e n hb (by simp)) (fun b o _ e n => u.free b o e n (by simp)) (fun b o _ e => u.there b o e (by simp)) u.tups u.frzs u.tbls (fun m' hm => by
    obtain ⟨o', es', ep', ho', r'⟩ := hm
    rw [ho] at ho'; cases ho'
    exact ⟨_, es', ep', hL, r'⟩) hok I.bare
theorem Inv.call {g' : Array GenState} {t' : Nat} {d' : Drawn} {ch : List Addr} (I : Inv X pins σ H s) (u : Un (frs X.stack) ch H H' s.heap h') (hok : HOk X.prog X.w H' h') (hg : AllBare g')
    (hch : ∀ b ∈ ch, (b ∈ X.ex ∨ X.s₀.heap.objs.size ≤ b) ∧ b ≠ X.env.locals ∧ (∀ x c, X.env.cells.lookup x = some c → c ≠ b) ∧ ∀ p ∈ X.pn ++ pins, p.1 ≠ b) :
    Inv X pins σ H' { s with heap := h', gens := g', drawn := d', toks := t' } := by
  obtain ⟨m, ⟨o, es, ep, ho, r⟩, _⟩ := id I.loc
  obtain ⟨sl, hL⟩ := u.any ho I.free fun z => (hch _ z).2.1 rfl
  exact I.step (ch := ch) hch (fun b o hL hb hc e n => u.keep b o e n (fun z => (List.mem_cons.mp (I.stkSub b z)).elim hL hb) hc) (fun b o _ _ hc e n => u.any e n hc) (fun b o hc e n => u.free b o e n hc) (fun b o hc e => u.there b o e hc) u.tups u.frzs u.tbls (fun m' hm => by
    obtain ⟨o', es', ep', ho', r'⟩ := hm
    rw [ho] at ho'; cases ho'
    exact ⟨_, es', ep', hL, r'⟩) hok hg
theorem Inv.turned {t' : Nat} {it : Addr} (I : Inv X pins σ H s) (k : ∀ b o, b ≠ it → s.heap.get? b = some o → h'.get? b = some o) (hn : H it = none) (hL : it ≠ X.env.locals)
    (h1 : it ∈ X.ex ∨ X.s₀.heap.objs.size ≤ it) (h2 : ∀ x c, X.env.cells.lookup x = some c → c ≠ it) (h3 : ∀ p ∈ X.pn ++ pins, p.1 ≠ it) : Inv X pins σ H { s with heap := h', toks := t' } := by
  have nit : ∀ b u, H b = some u → b ≠ it := fun b u e z => by rw [z, hn] at e; cases e
  refine I.step (g' := s.gens) (d' := s.drawn) (ch := [it]) (fun b hb => ?_) (fun b o _ _ hc e _ => k b o (fun z => hc (by simp [z])) e) (fun b o _ _ hc e _ => ⟨o.slots, k b o (fun z => hc (by simp [z])) e⟩) (fun _ _ _ _ n => n)
    (fun b o hc e => ⟨o, k b o (fun z => hc (by simp [z])) e⟩) (fun _ _ e => e) (fun _ _ _ e => e) (fun b ps e => ⟨#[], by rw [e]; simp⟩) (fun m hm => ?_) (fun b u e => ?_) I.bare
  · have e : b = it := by simpa using hb
    subst e
    exact ⟨h1, hL, h2, h3⟩
  · obtain ⟨o, es, ep, ho, r⟩ := hm
    exact ⟨o, es, ep, k _ o (Ne.symm hL) ho, r⟩
  · refine (I.hok b u e).stay (fun c v hc q => k c v ?_ q) (fun _ q => q) fun _ _ q => q
    rcases hc with z | z
    · rw [z]; exact nit b u e
    · exact nit c _ z
theorem Inv.tok (I : Inv X pins σ H s) (t : Nat) : Inv X pins σ H { s with toks := t } := I.un (h' := s.heap) (t' := t) Un.refl I.hok
theorem Inv.kept {t' : Nat} (I : Inv X pins σ H s) (k : ∀ b u, s.heap.get? b = some u → h'.get? b = some u) : Inv X pins σ H { s with heap := h', toks := t' } := I.un (Un.kept k) (I.hok.kept k)
theorem Inv.laid {a : Addr} {o : HO} {t' : Nat} (I : Inv X pins σ H s) (k : ∀ b u, s.heap.get? b = some u → h'.get? b = some u) (hp : s.heap.objs.size ≤ a) (new : ObjOk X.prog X.w (upd H a o) h' a o) :
    Inv X pins σ (upd H a o) { s with heap := h', toks := t' } := I.un (Un.laid k hp (I.hok.fresh hp)) (I.hok.laid k hp new)
theorem Inv.write {x e : Addr} {o : HO} {t' : Nat} (I : Inv X pins σ H s) (mu : Mut (H x)) (he : e = x ∨ H e = some (.own x)) (k : ∀ b u, b ≠ e → s.heap.get? b = some u → h'.get? b = some u) (heo : ∃ u, h'.get? e = some u)
    (new : ObjOk X.prog X.w (upd H x o) h' x o) : Inv X pins σ (upd H x o) { s with heap := h', toks := t' } := I.un (Un.write mu he k heo) (I.hok.write mu he k heo new)
theorem Inv.pins_of {pins' : List (Addr × Obj)} (I : Inv X pins σ H s) (h : ∀ p ∈ pins', s.heap.get? p.1 = some p.2 ∧ H p.1 = none ∧ p.1 ≠ X.env.locals ∧ p.1 ∉ X.fs ∧ ∀ v, p.2.data ≠ .cell v) : Inv X pins' σ H s :=
  ⟨I.ok, I.os, I.bare, I.base, I.loc, I.cell, I.free, I.freeC, fun p hp => (List.mem_append.mp hp).elim (fun z => I.pin p (List.mem_append_left _ z)) (h p), I.hok, I.len⟩
theorem nodup_ix {N : List Str} (hN : N.Nodup) {i j : Nat} {x : Str} (a : N[i]? = some x) (b : N[j]? = some x) : i = j := by
  obtain ⟨h1, e1⟩ := List.getElem?_eq_some_iff.mp a
  obtain ⟨h2, e2⟩ := List.getElem?_eq_some_iff.mp b
  exact (List.getElem_inj hN).mp (e1.trans e2.symm)
theorem store_ok2 {M : Model} {A : Around} {E : Value → Shared → Prop} {i : Nat} {x : Str} {v : V} {u : Value} {Q : Unit → Shared → Prop} (I : Inv X pins σ H s) (hN : X.N.Nodup) (hi : X.N[i]? = some x) (hx : Loc X.env.scope x) (r : RelV v u)
    (h : ∀ s', Inv X pins (σ.set i (some v)) H s' → (∃ a, Heap.SameBut a s.heap s'.heap ∧ (a = X.env.locals ∨ X.env.cells.lookup x = some a)) → Q () s') (hf : X.fn x = true ∨ X.env.scope.names.lookup x = some .local := by first | exact .inl rfl | exact .inr rfl | assumption) : wpAny M A (storeName X.env x u) Q E s := by
  obtain ⟨m, hn, hl⟩ := id I.loc
  have hcls : (X.env.scope.kind == .class || (X.env.scope.kind == .module && X.env.locals != X.env.globals)) = false := by rw [I.ok.kind]; rfl
  have hiσ : i < σ.length := by rw [I.len]; exact (List.getElem?_eq_some_iff.mp hi).1
  have cne := I.cne
  have tracked : ∀ {a : Addr} {h' : Heap}, (∃ o, s.heap.get? a = some o ∧ H a = none) → Heap.SameBut a s.heap h' → HOk X.prog X.w H h' := fun {a h'} ha hs b ob e => by
    obtain ⟨_, _, hfree⟩ := ha
    refine (I.hok b ob e).stay (fun c w' hc q => (hs.2 c ?_).trans q) (fun _ q => q) fun _ _ q => q
    rintro rfl
    rcases hc with rfl | hc
    · rw [hfree] at e; cases e
    · rw [hfree] at hc; cases hc
  rcases hx with hk | hk
  · refine wpAny_storeName_local hk hn (fun h' hn' hs => ?_) hcls
    obtain ⟨oL, _, _, hoL, _⟩ := id hn
    refine h _ ⟨I.ok, I.os, I.bare, ⟨fun b o e n hb hx => ?_, fun b o e n hb hx => ?_, I.base.free, fun b o e hx => ?_, I.base.tups, I.base.frzs, I.base.tbls⟩, ⟨_, hn', fun j y v' e1 e2 e3 => ?_⟩, fun y c e => ?_, I.free, I.freeC, fun p hp => ?_, tracked ⟨oL, hoL, I.free⟩ hs, by simpa using I.len⟩ ⟨_, hs, .inl rfl⟩
    · exact (hs.2 b (Nat.ne_of_lt (Nat.lt_of_lt_of_le (Heap.lt_size e) I.ok.above))).trans (I.base.keep b o e n hb hx)
    · obtain ⟨sl, e1⟩ := I.base.slot b o e n hb hx
      exact ⟨sl, (hs.2 b (Nat.ne_of_lt (Nat.lt_of_lt_of_le (Heap.lt_size e) I.ok.above))).trans e1⟩
    · obtain ⟨o', e1⟩ := I.base.there b o e hx
      exact ⟨o', (hs.2 b (Nat.ne_of_lt (Nat.lt_of_lt_of_le (Heap.lt_size e) I.ok.above))).trans e1⟩
    · by_cases hj : j = i
      · subst hj
        rw [hi] at e1; cases e1
        rw [List.getElem?_set_self hiσ] at e2
        cases e2
        exact ⟨u, r, .inl ⟨hk, by simp⟩⟩
      · rw [List.getElem?_set_ne (Ne.symm hj)] at e2
        obtain ⟨u', r', q⟩ := hl j y v' e1 e2 e3
        refine ⟨u', r', ?_⟩
        rcases q with ⟨k, e⟩ | ⟨k, c, e, z⟩
        · refine .inl ⟨k, ?_⟩
          have : y ≠ x := fun e => hj (nodup_ix hN e1 (e ▸ hi))
          simp [this, e]
        · exact .inr ⟨k, c, e, z.sameBut hs (cne y c e)⟩
    · obtain ⟨w', z⟩ := I.cell y c e
      exact ⟨w', z.sameBut hs (cne y c e)⟩
    · obtain ⟨e, n, ne, nf, d⟩ := I.pin p hp
      exact ⟨(hs.2 p.1 ne).trans e, n, ne, nf, d⟩
  · have hfn : X.fn x = true := by
      rcases hf with z | z
      · exact z
      · rw [z] at hk; cases hk
    obtain ⟨c, hc⟩ := I.ok.has x (.inl hk)
    obtain ⟨w', z⟩ := I.cell x c hc
    refine wpAny_storeName_cell I.ok.kind hk hc z (fun h' hc' hs => ?_)
    obtain ⟨oc, hoc, hocd⟩ := id z
    refine h { s with heap := h' } ⟨I.ok, I.os, I.bare, ⟨fun b o e n hb hx => ?_, fun b o e n hb hx => ?_, I.base.free, fun b o e hx => ?_, I.base.tups, I.base.frzs, I.base.tbls⟩, ⟨m, hn.sameBut hs (Ne.symm (cne x c hc)), fun j y v' e1 e2 e3 => ?_⟩, fun y c' e => ?_, I.free, I.freeC, fun p hp => ?_, tracked ⟨oc, hoc, I.freeC x c hc⟩ hs, by simpa using I.len⟩ ⟨c, hs, .inr hc⟩
    · exact (hs.2 b (Nat.ne_of_lt (Nat.lt_of_lt_of_le (Heap.lt_size e) (I.ok.cab x c hfn hc)))).trans (I.base.keep b o e n hb hx)
    · obtain ⟨sl, e1⟩ := I.base.slot b o e n hb hx
      exact ⟨sl, (hs.2 b (Nat.ne_of_lt (Nat.lt_of_lt_of_le (Heap.lt_size e) (I.ok.cab x c hfn hc)))).trans e1⟩
    · obtain ⟨o', e1⟩ := I.base.there b o e hx
      exact ⟨o', (hs.2 b (Nat.ne_of_lt (Nat.lt_of_lt_of_le (Heap.lt_size e) (I.ok.cab x c hfn hc)))).trans e1⟩
    · by_cases hj : j = i
      · subst hj
        rw [hi] at e1; cases e1
        rw [List.getElem?_set_self hiσ] at e2
        cases e2
        exact ⟨u, r, .inr ⟨.inl hk, c, hc, hc'⟩⟩
      · rw [List.getElem?_set_ne (Ne.symm hj)] at e2
        obtain ⟨u', r', q⟩ := hl j y v' e1 e2 e3
        refine ⟨u', r', ?_⟩
        rcases q with q | ⟨k, c', e, z'⟩
        · exact .inl q
        · refine .inr ⟨k, c', e, z'.sameBut hs ?_⟩
          rintro rfl
          exact hj (nodup_ix hN e1 (I.ok.inj _ _ _ e hc ▸ hi))
    · by_cases hcc : c' = c
      · subst hcc; exact ⟨_, hc'⟩
      · obtain ⟨w2, z2⟩ := I.cell y c' e
        exact ⟨w2, z2.sameBut hs hcc⟩
    · obtain ⟨e, n, ne, nf, d⟩ := I.pin p hp
      refine ⟨(hs.2 p.1 ?_).trans e, n, ne, nf, d⟩
      intro q
      rw [q, hoc] at e
      have q' : oc = p.2 := Option.some.inj e
      exact d w' (by rw [← q']; exact hocd)
theorem store_ok {M : Model} {A : Around} {E : Value → Shared → Prop} {i : Nat} {x : Str} {v : V} {u : Value} {Q : Unit → Shared → Prop} (I : Inv X pins σ H s) (hN : X.N.Nodup) (hi : X.N[i]? = some x) (hx : Loc X.env.scope x) (r : RelV v u)
    (h : ∀ s', Inv X pins (σ.set i (some v)) H s' → Q () s') (hf : X.fn x = true ∨ X.env.scope.names.lookup x = some .local := by first | exact .inl rfl | exact .inr rfl | assumption) : wpAny M A (storeName X.env x u) Q E s :=
  store_ok2 I hN hi hx r (fun s' I' _ => h s' I') hf
theorem Inv.call' {s' : Shared} {ch : List Addr} (I : Inv X pins σ H s) (ho : s'.os = s.os) (u : Un (frs X.stack) ch H H' s.heap s'.heap) (hok : HOk X.prog X.w H' s'.heap) (hg : AllBare s'.gens)
    (hch : ∀ b ∈ ch, (b ∈ X.ex ∨ X.s₀.heap.objs.size ≤ b) ∧ b ≠ X.env.locals ∧ (∀ x c, X.env.cells.lookup x = some c → c ≠ b) ∧ ∀ p ∈ X.pn ++ pins, p.1 ≠ b) : Inv X pins σ H' s' := by
  obtain ⟨h', g', d', t', o'⟩ := s'
  have e : o' = s.os := ho
  subst e
  exact I.call (g' := g') (t' := t') (d' := d') u hok hg hch
end
abbrev XK := Value → Option Addr → Hp → Prop
abbrev St := List (Option V)
abbrev VK := V → Hp → Prop
abbrev TE := St → Hp → VK → Prop
abbrev TT := St → Hp → (Bool → Hp → Prop) → Prop
abbrev TA := St → Hp → (List V → Hp → Prop) → Prop
structure Ends where
  nx : St → Hp → Prop
  rt : VK
  bk : St → Hp → Prop := fun _ _ => False
  ct : St → Hp → Prop := fun _ _ => False
abbrev TS := Ends → St → Hp → Prop
def EP (X : Cx) (pins : List (Addr × Obj)) (σ : St) (Q : VK) (u : Value) (s' : Shared) : Prop := ∃ v H', Inv X pins σ H' s' ∧ RelV v u ∧ Q v H'
def TP (X : Cx) (pins : List (Addr × Obj)) (σ : St) (Q : Bool → Hp → Prop) (b : Bool) (s' : Shared) : Prop := ∃ H', Inv X pins σ H' s' ∧ Q b H'
def AP (X : Cx) (pins : List (Addr × Obj)) (σ : St) (Q : List V → Hp → Prop) (us : List Value) (s' : Shared) : Prop := ∃ vs H', Inv X pins σ H' s' ∧ Vals vs us ∧ Q vs H'
def SP (X : Cx) (pins : List (Addr × Obj)) (D : Ends) (f : Flow) (s' : Shared) : Prop :=
  match f with
  | .next => ∃ σ' H', Inv X pins σ' H' s' ∧ D.nx σ' H'
  | .brk => ∃ σ' H', Inv X pins σ' H' s' ∧ D.bk σ' H'
  | .cont => ∃ σ' H', Inv X pins σ' H' s' ∧ D.ct σ' H'
  | .ret u => ∃ v σ' H', Inv X pins σ' H' s' ∧ RelV v u ∧ D.rt v H'
def PE (X : Cx) (e : Expr) (t : TE) : Prop :=
  ∀ (pins : List (Addr × Obj)) (s : Shared) (σ : St) (H : Hp) (Q : VK), Inv X pins σ H s → t σ H Q → wpAny (model X.prog X.w) X.A (eval e X.env) (EP X pins σ Q) X.xe s
def PT (X : Cx) (e : Expr) (t : TT) : Prop :=
  ∀ (pins : List (Addr × Obj)) (s : Shared) (σ : St) (H : Hp) (Q : Bool → Hp → Prop), Inv X pins σ H s → t σ H Q → wpAny (model X.prog X.w) X.A (isTrue e X.env (eval e X.env)) (TP X pins σ Q) X.xe s
def PW (X : Cx) (e : Expr) (t : TT) : Prop :=
  ∀ (whole : Sem Value) (pins : List (Addr × Obj)) (s : Shared) (σ : St) (H : Hp) (Q : Bool → Hp → Prop), Inv X pins σ H s → t σ H Q → wpAny (model X.prog X.w) X.A (isTrue e X.env whole) (TP X pins σ Q) X.xe s
theorem PW.pt {X : Cx} {e : Expr} {t : TT} (h : PW X e t) : PT X e t := h _
def PA (X : Cx) (es : List Expr) (t : TA) : Prop :=
  ∀ (pos : Pos) (pins : List (Addr × Obj)) (s : Shared) (σ : St) (H : Hp) (Q : List V → Hp → Prop), Inv X pins σ H s → t σ H Q → wpAny (model X.prog X.w) X.A (spliced (backTo pos (starEach es X.env))) (AP X pins σ Q) X.xe s
def PS (X : Cx) (st : Stmt) (t : TS) : Prop :=
  ∀ (pins : List (Addr × Obj)) (s : Shared) (σ : St) (H : Hp) (D : Ends), Inv X pins σ H s → t D σ H → wpAny (model X.prog X.w) X.A (exec st X.env) (SP X pins D) X.xe s
def PSs (X : Cx) (st : List Stmt) (t : TS) : Prop :=
  ∀ (pins : List (Addr × Obj)) (s : Shared) (σ : St) (H : Hp) (D : Ends), Inv X pins σ H s → t D σ H → wpAny (model X.prog X.w) X.A (execs st X.env) (SP X pins D) X.xe s
theorem thn {α : Type} {t : Sem α} {Q Q' : α → Shared → Prop} {M : Model} {A : Around} {E : Value → Shared → Prop} {s : Shared} (h : wpAny M A t Q E s) (hQ : ∀ a s, Q a s → Q' a s) : wpAny M A t Q' E s := wpAny_mono h hQ fun _ _ x => x
end L2
namespace L2
open PySem PySem.Spec PyProof.Rows
section
variable {X : Cx}
def tVar (i : Nat) : TE := fun σ H Q => ∃ v, σ[i]? = some (some v) ∧ Q v H
def tC (v : V) : TE := fun _ H Q => Q v H
theorem pe_var {i : Nat} {x : Str} {pos : Pos} (hN : X.N[i]? = some x) (hv : Vis X.env.scope x) (hd : (x == ("__debug__" : Str)) = false := by decide) (hcd : (x == ("__classdict__" : Str)) = false := by decide) : PE X (.Name x pos) (tVar i) := by
  intro pins s σ H Q I h
  obtain ⟨v, e, h⟩ := h
  obtain ⟨m, hn, hl⟩ := I.loc
  obtain ⟨u, r, l⟩ := hl i x v hN e hv
  have fin : EP X pins σ Q u s := ⟨v, H, I, r, h⟩
  rcases l with ⟨hk, hm⟩ | ⟨hk, c, hc, hcell⟩
  · exact wpAny_Name (wpAny_loadName_local I.ok.kind hk hn hm fin) hd
  · rcases hk with hk | hk
    · exact wpAny_Name (wpAny_loadName_cell I.ok.kind hk hc hcell fin) hd
    · exact wpAny_Name (wpAny_loadName_free I.ok.kind hk hc hcell fin hcd) hd
theorem pe_int {i j pos} : PE X (.Constant (.int i) j pos) (tC (.int i)) := fun _ _ _ H _ I h => wpAny_Constant_int ⟨.int i, H, I.tok _, ⟨_, rfl⟩, h⟩
theorem pe_bl {b j pos} : PE X (.Constant (.bool b) j pos) (tC (.bl b)) := fun _ _ _ H _ I h => Constant_bool ⟨.bl b, H, I, rfl, h⟩
theorem pe_str {x j pos} : PE X (.Constant (.str x) j pos) (tC (.str x)) := fun _ _ _ H _ I h => Calls.Constant_str ⟨.str x, H, I.tok _, ⟨_, rfl⟩, h⟩
def Gl (X : Cx) (x : Str) : Prop := X.env.kindOf x = some .globalImplicit
theorem ld_glob {E : Value → Shared → Prop} {pins : List (Addr × Obj)} {s : Shared} {σ : St} {H : Hp} {x : Str} {u : Value} {pos : Pos} {Q : Value → Shared → Prop} (I : Inv X pins σ H s) (hg : Gl X x) (hm : X.mg x = some u) (h : Q u s)
    (hd : (x == ("__debug__" : Str)) = false := by decide) : wpAny (model X.prog X.w) X.A (eval (.Name x pos) X.env) Q E s :=
  Calls.Name_function_global I.ok.kind hg (Calls.loadGlobal_global (by rw [I.ok.glob]; exact I.mod.glob.keeps I.bk) hm h) hd
theorem ld_blt {E : Value → Shared → Prop} {pins : List (Addr × Obj)} {s : Shared} {σ : St} {H : Hp} {x : Str} {u : Value} {pos : Pos} {Q : Value → Shared → Prop} (I : Inv X pins σ H s) (hg : Gl X x) (hm : X.mg x = none) (hv : bootBuiltins x = some u) (h : Q u s)
    (hn : x ≠ "__name__" := by decide) (hd : (x == ("__debug__" : Str)) = false := by decide) : wpAny (model X.prog X.w) X.A (eval (.Name x pos) X.env) Q E s := by
  obtain ⟨mb, h1, h2⟩ := I.mod.blt
  exact Calls.Name_function_global I.ok.kind hg (Calls.loadGlobal_builtin (by rw [I.ok.glob]; exact I.mod.glob.keeps I.bk) hm (by rw [I.ok.blt]; exact h1.keeps I.bk) ((h2 x hn).trans hv) h) hd
theorem pe_glob {x : Str} {v : V} {u : Value} {pos : Pos} (hg : Gl X x) (hm : X.mg x = some u) (r : RelV v u) (hd : (x == ("__debug__" : Str)) = false := by decide) : PE X (.Name x pos) (tC v) :=
  fun _ _ _ H _ I h => ld_glob I hg hm ⟨v, H, I, r, h⟩ hd
theorem pe_bltn {x : Str} {v : V} {u : Value} {pos : Pos} (hg : Gl X x) (hm : X.mg x = none) (hv : bootBuiltins x = some u) (r : RelV v u) (hn : x ≠ "__name__" := by decide) (hd : (x == ("__debug__" : Str)) = false := by decide) : PE X (.Name x pos) (tC v) :=
  fun _ _ _ H _ I h => ld_blt I hg hm hv ⟨v, H, I, r, h⟩ hn hd
variable {a b : Expr} {ta tb : TE} {pos : Pos}
def PC (X : Cx) (op : CmpOp) (a b : Expr) (t : TE) : Prop :=
  ∀ (pins : List (Addr × Obj)) (s : Shared) (σ : St) (H : Hp) (Q : VK), Inv X pins σ H s → t σ H Q →
    wpAny (model X.prog X.w) X.A (eval a X.env) (fun v s₁ => wpAny (model X.prog X.w) X.A (eval b X.env) (fun u s₂ => wpAny (model X.prog X.w) X.A (compareOp op v u) (EP X pins σ Q) X.xe s₂) X.xe s₁) X.xe s
def tB (t : TE) : TT := fun σ H Q => t σ H fun x H1 => ∃ c, x = .bl c ∧ Q c H1
theorem pt_cmp {op : CmpOp} {t : TE} (h : PC X op a b t) (h1 : behindInMarks op b = false := by first | exact nobehind _ (by decide) (by decide) | rfl) : PT X (.Compare a [op] [b] pos) (tB t) := by
  intro pins s σ H Q I hw
  refine wpAny_isTrue_Compare1 (thn (h pins s σ H _ I hw) fun v s1 h1 => thn h1 fun u s2 h2 => thn h2 fun c s3 ⟨x, H1, I1, r1, q1⟩ => ?_) h1
  obtain ⟨d, rfl, q⟩ := q1
  cases r1
  exact wpAny_truthy_bool ⟨H1, I1, q⟩
theorem pt_val {e : Expr} {t : TE} (h : PE X e t) (he : ∀ whole, isTrue e X.env whole = (do let v ← whole; standAt e.pos; holding [v] (truthy v)) := by intro _; rfl) : PT X e (tB t) := by
  intro pins s σ H Q I hw
  refine isTrue_plain (thn (h pins s σ H _ I hw) fun v s1 ⟨x, H1, I1, r1, q1⟩ => ?_) (he _)
  obtain ⟨d, rfl, q⟩ := q1
  cases r1
  exact wpAny_truthy_bool ⟨H1, I1, q⟩
variable {tA tB' : TT} {rest : List Expr}
def tAnd (t u : TT) : TT := fun σ H Q => t σ H fun c H1 => if c = true then u σ H1 Q else Q false H1
def tOr (t u : TT) : TT := fun σ H Q => t σ H fun c H1 => if c = true then Q true H1 else u σ H1 Q
def tNot (t : TT) : TT := fun σ H Q => t σ H fun c H1 => Q (!c) H1
theorem pw_and1 (ha : PT X a tA) : PW X (.BoolOp .And [a] pos) tA := by
  intro wh pins s σ H Q I h
  refine isTrue_and (thn (ha pins s σ H Q I h) fun c s1 e => ?_)
  cases c with
  | true => exact isTrue_and_nil e
  | false => exact e
theorem pw_or1 (ha : PT X a tA) : PW X (.BoolOp .Or [a] pos) tA := by
  intro wh pins s σ H Q I h
  refine isTrue_or (thn (ha pins s σ H Q I h) fun c s1 e => ?_)
  cases c with
  | false => exact isTrue_or_nil e
  | true => exact e
theorem pw_and (ha : PT X a tA) (hb : PW X (.BoolOp .And (b :: rest) pos) tB') : PW X (.BoolOp .And (a :: b :: rest) pos) (tAnd tA tB') := by
  intro wh pins s σ H Q I h
  refine isTrue_and (thn (ha pins s σ H _ I h) fun c s1 ⟨H1, I1, q1⟩ => ?_)
  cases c with
  | true => exact hb wh pins s1 σ H1 Q I1 q1
  | false => exact ⟨H1, I1, q1⟩
theorem pw_or (ha : PT X a tA) (hb : PW X (.BoolOp .Or (b :: rest) pos) tB') : PW X (.BoolOp .Or (a :: b :: rest) pos) (tOr tA tB') := by
  intro wh pins s σ H Q I h
  refine isTrue_or (thn (ha pins s σ H _ I h) fun c s1 ⟨H1, I1, q1⟩ => ?_)
  cases c with
  | true => exact ⟨H1, I1, q1⟩
  | false => exact hb wh pins s1 σ H1 Q I1 q1
theorem pt_not (ha : PT X a tA) : PT X (.UnaryOp .Not a pos) (tNot tA) := by
  intro pins s σ H Q I h
  exact isTrue_not (ha pins s σ H (fun c H1 => Q (!c) H1) I h)
def tAndV (ta tb : TE) : TE := fun σ H Q => ta σ H fun x H1 => ∃ c, x = .bl c ∧ if c = true then tb σ H1 Q else Q (.bl false) H1
def tOrV (ta tb : TE) : TE := fun σ H Q => ta σ H fun x H1 => ∃ c, x = .bl c ∧ if c = true then Q (.bl true) H1 else tb σ H1 Q
def tNotV (ta : TE) : TE := fun σ H Q => ta σ H fun x H1 => ∃ c, x = .bl c ∧ Q (.bl (!c)) H1
theorem pe_one {op} {t : TE} (h : PE X a t) : PE X (.BoolOp op [a] pos) t := fun pins s σ H Q I hw => BoolOp_one (h pins s σ H Q I hw)
theorem pe_and (ha : PE X a ta) (hb : PE X (.BoolOp .And (b :: rest) pos) tb) : PE X (.BoolOp .And (a :: b :: rest) pos) (tAndV ta tb) := by
  intro pins s σ H Q I h
  refine BoolOp_and (thn (ha pins s σ H _ I h) fun v s1 ⟨x, H1, I1, r1, q1⟩ => ?_)
  obtain ⟨c, rfl, q1⟩ := q1
  cases r1
  refine wpAny_truthy_bool ?_
  cases c with
  | true => exact hb pins s1 σ H1 Q I1 q1
  | false => exact ⟨.bl false, H1, I1, rfl, q1⟩
theorem pe_or (ha : PE X a ta) (hb : PE X (.BoolOp .Or (b :: rest) pos) tb) : PE X (.BoolOp .Or (a :: b :: rest) pos) (tOrV ta tb) := by
  intro pins s σ H Q I h
  refine BoolOp_or (thn (ha pins s σ H _ I h) fun v s1 ⟨x, H1, I1, r1, q1⟩ => ?_)
  obtain ⟨c, rfl, q1⟩ := q1
  cases r1
  refine wpAny_truthy_bool ?_
  cases c with
  | false => exact hb pins s1 σ H1 Q I1 q1
  | true => exact ⟨.bl true, H1, I1, rfl, q1⟩
theorem pe_not (ha : PE X a ta) : PE X (.UnaryOp .Not a pos) (tNotV ta) := by
  intro pins s σ H Q I h
  refine UnaryOp_ (thn (ha pins s σ H _ I h) fun v s1 ⟨x, H1, I1, r1, q1⟩ => ?_)
  obtain ⟨c, rfl, q1⟩ := q1
  cases r1
  exact not_of (wpAny_truthy_bool ⟨.bl (!c), H1, I1, rfl, q1⟩)
def tIf (t : TT) (ta tb : TE) : TE := fun σ H Q => t σ H fun c H1 => if c = true then ta σ H1 Q else tb σ H1 Q
theorem pe_ifExp {c : Expr} (hc : PT X c tA) (ha : PE X a ta) (hb : PE X b tb) : PE X (.IfExp c a b pos) (tIf tA ta tb) := by
  intro pins s σ H Q I h
  refine wpAny_IfExp (thn (hc pins s σ H _ I h) fun d s1 ⟨H1, I1, q1⟩ => ?_)
  cases d with
  | true => exact ha pins s1 σ H1 Q I1 q1
  | false => exact hb pins s1 σ H1 Q I1 q1
end
end L2
namespace L2
open PySem PySem.Spec PyProof.Rows
def SqL (K : PySem.W.Frag) (H : Hp) (a : Addr) (xs : List V) : Prop :=
  Rd H a (.lst xs) ∨
    ∃ (o : Obj) (its : Array Value) (n : Nat), K.lookup a = some o ∧ o.cls = .type "list" ∧ o.dict = none ∧ o.data = .seq its n ∧ its.size ≤ sizeLine ∧ Vals xs its.toList
def SqT (K : PySem.W.Frag) (H : Hp) (a : Addr) (xs : List V) : Prop :=
  Rd H a (.tup xs) ∨
    ∃ (o : Obj) (its : Array Value) (n : Nat), K.lookup a = some o ∧ o.cls = .type "tuple" ∧ o.data = .seq its n ∧ its.size ≤ sizeLine ∧ Vals xs its.toList
def absV : Value → Option V
  | .none => some .non
  | .bool b => some (.bl b)
  | .int i _ => some (.int i)
  | .str x _ => some (.str x)
  | .bytes b _ => some (.byt b)
  | .float b _ => some (.flt b)
  | .ref a => some (.ref a)
  | .type n => some (.ty n)
  | _ => none
theorem RelV.abs {x : V} {u : Value} (r : RelV x u) : absV u = some x := by
  cases x with
  | non => cases r; rfl
  | bl _ => cases r; rfl
  | int _ => obtain ⟨t, rfl⟩ := r; rfl
  | str _ => obtain ⟨t, rfl⟩ := r; rfl
  | byt _ => obtain ⟨t, rfl⟩ := r; rfl
  | flt _ => obtain ⟨t, rfl⟩ := r; rfl
  | ref _ => cases r; rfl
  | ty _ => cases r; rfl
theorem RelV.inj {x y : V} {u : Value} (r : RelV x u) (q : RelV y u) : x = y := Option.some.inj (r.abs.symm.trans q.abs)
theorem Vals.inj : ∀ {xs ys : List V} {us : List Value}, Vals xs us → Vals ys us → xs = ys
  | _, _, _, .nil, .nil => rfl
  | _, _, _, .cons r t, .cons r' t' => by rw [r.inj r', Vals.inj t t']
section
variable {X : Cx} {pins : List (Addr × Obj)} {σ : St} {H : Hp} {s : Shared} {a : Addr} {xs ys : List V}
theorem SqL.of {K : PySem.W.Frag} (h : H a = some (.lst xs)) : SqL K H a xs := .inl (.inl h)
theorem SqT.of {K : PySem.W.Frag} (h : H a = some (.tup xs)) : SqT K H a xs := .inl (.inl h)
theorem Inv.list (I : Inv X pins σ H s) (h : SqL X.K H a xs) : ∃ its : List Value, Vals xs its ∧ PlainL s.heap a its.toArray ∧ xs.length ≤ sizeLine := by
  rcases h with h | ⟨o, its, n, hk, hc, hd, hs, hz, r⟩
  · obtain ⟨z, its, n, r, e⟩ := h.ok I.hok
    exact ⟨its, r, ⟨_, n, e, rfl, rfl, rfl⟩, z⟩
  · refine ⟨its.toList, r, ⟨o, n, I.kIn a o hk, hc, hd, by simpa using hs⟩, ?_⟩
    have e := r.length
    simp only [Array.length_toList] at e
    omega
theorem Inv.tuple (I : Inv X pins σ H s) (h : SqT X.K H a xs) : ∃ its : List Value, Vals xs its ∧ IsTup s.heap a its.toArray ∧ xs.length ≤ sizeLine := by
  rcases h with h | ⟨o, its, n, hk, hc, hs, hz, r⟩
  · obtain ⟨z, its, r, p⟩ := h.ok I.hok
    exact ⟨its, r, p, z⟩
  · refine ⟨its.toList, r, ⟨o, I.kIn a o hk, hc, n, by simpa using hs⟩, ?_⟩
    have e := r.length
    simp only [Array.length_toList] at e
    omega
theorem Inv.list_inj (I : Inv X pins σ H s) (h : SqL X.K H a xs) (h' : SqL X.K H a ys) : xs = ys := by
  obtain ⟨its, r, ⟨o, n, e, _, _, d⟩, _⟩ := I.list h
  obtain ⟨its', r', ⟨o', n', e', _, _, d'⟩, _⟩ := I.list h'
  rw [e] at e'; cases e'
  rw [d] at d'
  injection d' with d1 _
  have : its = its' := by simpa using congrArg Array.toList d1
  subst this
  exact r.inj r'
theorem Inv.tuple_inj (I : Inv X pins σ H s) (h : SqT X.K H a xs) (h' : SqT X.K H a ys) : xs = ys := by
  obtain ⟨its, r, ⟨o, e, _, n, d⟩, _⟩ := I.tuple h
  obtain ⟨its', r', ⟨o', e', _, n', d'⟩, _⟩ := I.tuple h'
  rw [e] at e'; cases e'
  rw [d] at d'
  injection d' with d1 _
  have : its = its' := by simpa using congrArg Array.toList d1
  subst this
  exact r.inj r'
end
abbrev Cx.wish (X : Cx) (E : Value → Shared → Prop) : Cx := { X with xe := E }
abbrev Cx.nox (X : Cx) : Cx := X.wish fun _ _ => False
theorem Cx.Ok.wish {X : Cx} (ok : X.Ok) (E : Value → Shared → Prop) : (X.wish E).Ok :=
  ⟨ok.mod, ok.kind, ok.glob, ok.blt, ok.above, ok.inj, ok.has, ok.cab, ok.hd, ok.frames, ok.stk, ok.exf, ok.bs, ok.bsz, ok.noex, ok.exfs, ok.funs, ok.frf⟩
theorem Cx.Ok.unwish {X : Cx} {E : Value → Shared → Prop} (ok : (X.wish E).Ok) : X.Ok :=
  ⟨ok.mod, ok.kind, ok.glob, ok.blt, ok.above, ok.inj, ok.has, ok.cab, ok.hd, ok.frames, ok.stk, ok.exf, ok.bs, ok.bsz, ok.noex, ok.exfs, ok.funs, ok.frf⟩
section
variable {X : Cx} {pins : List (Addr × Obj)} {σ : St} {H : Hp} {s : Shared} {E : Value → Shared → Prop}
theorem Inv.wish (I : Inv X pins σ H s) (E : Value → Shared → Prop) : Inv (X.wish E) pins σ H s := ⟨I.ok.wish E, I.os, I.bare, I.base, I.loc, I.cell, I.free, I.freeC, I.pin, I.hok, I.len⟩
theorem Inv.unwish (I : Inv (X.wish E) pins σ H s) : Inv X pins σ H s := ⟨I.ok.unwish, I.os, I.bare, I.base, I.loc, I.cell, I.free, I.freeC, I.pin, I.hok, I.len⟩
theorem SP.unwish {D : Ends} {f : Flow} {s' : Shared} (h : SP (X.wish E) pins D f s') : SP X pins D f s' := by
  cases f with
  | next => obtain ⟨σ', H', I, q⟩ := h; exact ⟨σ', H', I.unwish, q⟩
  | brk => obtain ⟨σ', H', I, q⟩ := h; exact ⟨σ', H', I.unwish, q⟩
  | cont => obtain ⟨σ', H', I, q⟩ := h; exact ⟨σ', H', I.unwish, q⟩
  | ret u => obtain ⟨v, σ', H', I, r, q⟩ := h; exact ⟨v, σ', H', I.unwish, r, q⟩
theorem PSs.nox {st : List Stmt} {t : TS} (h : PSs X.nox st t) : PSs X st t := fun pins s σ H D I hw =>
  wpAny_mono (h pins s σ H D (I.wish _) hw) (fun _ _ q => q.unwish) fun _ _ z => False.elim z
end
section
variable {X : Cx} {st : Stmt} {rest : List Stmt} {t u : TS} {e : Expr} {te : TE} {pos : Pos}
def tNext : TS := fun D σ H => D.nx σ H
def tSeq (t u : TS) : TS := fun D σ H => t { D with nx := u D } σ H
theorem pss_nil : PSs X [] tNext := fun _ _ σ H _ I h => wpAny_execs_nil ⟨σ, H, I, h⟩
theorem pss_cons (h1 : PS X st t) (h2 : PSs X rest u) : PSs X (st :: rest) (tSeq t u) := by
  intro pins s σ H D I h
  refine wpAny_execs_cons (thn (h1 pins s σ H { D with nx := u D } I h) fun f s1 q => ?_)
  cases f with
  | next =>
    obtain ⟨σ', H', I', q⟩ := q
    exact h2 pins s1 σ' H' D I' q
  | ret v => exact q
  | brk => exact q
  | cont => exact q
theorem pss_one (h1 : PS X st t) : PSs X [st] t := by
  intro pins s σ H D I h
  refine wpAny_execs_cons (thn (h1 pins s σ H D I h) fun f s1 q => ?_)
  cases f with
  | next => exact wpAny_execs_nil q
  | ret v => exact q
  | brk => exact q
  | cont => exact q
def tCont : TS := fun D σ H => D.ct σ H
theorem ps_continue : PS X (.Continue pos) tCont := fun _ _ σ H _ I h => wpAny_Continue ⟨σ, H, I, h⟩
theorem Inv.quiet {pins : List (Addr × Obj)} {σ : St} {H : Hp} {s : Shared} (I : Inv X pins σ H s) : interactive X.env = false := by simp [interactive, I.ok.kind]
def tDrop (te : TE) : TS := fun D σ H => te σ H fun _ H1 => D.nx σ H1
theorem ps_expr (he : PE X e te) (hs : swapsWith e none pos.line X.env = pure false := by rfl) : PS X (.Expr e pos) (tDrop te) := by
  intro pins s σ H D I h
  exact wpAny_Expr_any (thn (he pins s σ H _ I h) fun v s1 ⟨x, H1, I1, r1, q1⟩ => ⟨σ, H1, I1, q1⟩) I.quiet hs
def tRet (te : TE) : TS := fun D σ H => te σ H D.rt
theorem ps_ret (he : PE X e te) : PS X (.Return (some e) pos) (tRet te) := by
  intro pins s σ H D I h
  exact wpAny_Return_some (thn (he pins s σ H _ I h) fun v s1 ⟨x, H1, I1, r1, q1⟩ => ⟨x, σ, H1, I1, r1, q1⟩)
def tIfS (c : TT) (t u : TS) : TS := fun D σ H => c σ H fun b H1 => if b = true then t D σ H1 else u D σ H1
theorem ps_if {c : Expr} {a b : List Stmt} {tc : TT} (hc : PT X c tc) (ha : PSs X a t) (hb : PSs X b u) : PS X (.If c a b pos) (tIfS tc t u) := by
  intro pins s σ H D I h
  refine wpAny_If (thn (hc pins s σ H _ I h) fun d s1 ⟨H1, I1, q1⟩ => ?_)
  cases d with
  | true => exact ha pins s1 σ H1 D I1 q1
  | false => exact hb pins s1 σ H1 D I1 q1
def tNever : TS := fun _ _ _ => False
theorem ps_never : PS X st tNever := fun _ _ _ _ _ _ h => h.elim
end
abbrev TG := V → St → Hp → (St → Hp → Prop) → Prop
abbrev TGs := List V → St → Hp → (St → Hp → Prop) → Prop
def PG (X : Cx) (target : Expr) (t : TG) : Prop :=
  ∀ (pins : List (Addr × Obj)) (s : Shared) (σ : St) (H : Hp) (v : V) (u : Value) (Q : St → Hp → Prop), Inv X pins σ H s → RelV v u → t v σ H Q →
    wpAny (model X.prog X.w) X.A (assign target X.env u) (fun _ s' => ∃ σ' H', Inv X pins σ' H' s' ∧ Q σ' H') X.xe s
def PGs (X : Cx) (ts : List Expr) (t : TGs) : Prop :=
  ∀ (pins : List (Addr × Obj)) (s : Shared) (σ : St) (H : Hp) (vs : List V) (us : List Value) (Q : St → Hp → Prop), Inv X pins σ H s → Vals vs us → t vs σ H Q →
    wpAny (model X.prog X.w) X.A (assignInOrder ((assignEach ts X.env).map (·.2)) us) (fun _ s' => ∃ σ' H', Inv X pins σ' H' s' ∧ Q σ' H') X.xe s
abbrev TSet := V → V → V → Hp → (Hp → Prop) → Prop
def PSet (X : Cx) (t : TSet) : Prop :=
  ∀ (pins : List (Addr × Obj)) (s : Shared) (σ : St) (H : Hp) (o i v : V) (ov iv u : Value) (Q : Hp → Prop), Inv X pins σ H s → RelV o ov → RelV i iv → RelV v u → t o i v H Q →
    wpAny (model X.prog X.w) X.A (setItem ov iv u) (fun _ s' => ∃ H', Inv X pins σ H' s' ∧ Q H') X.xe s
section
variable {X : Cx} {pos : Pos}
def gName (i : Nat) : TG := fun v σ H Q => Q (σ.set i (some v)) H
theorem pg_name {i : Nat} {x : Str} (hN : X.N.Nodup) (hi : X.N[i]? = some x) (hx : Loc X.env.scope x) (hf : X.fn x = true ∨ X.env.scope.names.lookup x = some .local := by first | exact .inl rfl | exact .inr rfl | assumption) : PG X (.Name x pos) (gName i) := by
  intro pins s σ H v u Q I r h
  exact wpAny_assign_Name (store_ok I hN hi hx r (fun s' I' => ⟨_, H, I', h⟩) hf)
def gNil : TGs := fun vs σ H Q => vs = [] ∧ Q σ H
def gCons (t : TG) (u : TGs) : TGs := fun vs σ H Q => ∃ v r, vs = v :: r ∧ t v σ H fun σ' H' => u r σ' H' Q
theorem pgs_nil : PGs X [] gNil := by
  intro pins s σ H vs us Q I r h
  obtain ⟨e, h⟩ := h
  subst e
  cases r
  exact assignInOrder_nil ⟨σ, H, I, h⟩
theorem pgs_cons {e : Expr} {es : List Expr} {t : TG} {u : TGs} (h1 : PG X e t) (h2 : PGs X es u)
    (hs : (assignEach (e :: es) X.env).map (·.2) = assign e X.env :: (assignEach es X.env).map (·.2) := by rfl) : PGs X (e :: es) (gCons t u) := by
  intro pins s σ H vs us Q I r h
  obtain ⟨v, vr, e1, h⟩ := h
  subst e1
  cases r with
  | cons r rr =>
    rw [hs]
    refine assignInOrder_cons (thn (h1 pins s σ H _ _ _ I r h) fun _ s1 ⟨σ1, H1, I1, q1⟩ => ?_)
    exact h2 pins s1 σ1 H1 _ _ Q I1 rr q1
def gTup (K : PySem.W.Frag) (n : Nat) (t : TGs) : TG := fun v σ H Q => ∃ a xs, v = .ref a ∧ SqT K H a xs ∧ xs.length = n ∧ t xs σ H Q
theorem pg_tup {es : List Expr} {k : Nat} {t : TGs} {n : Nat} (hc : X.calm = true) (h : PGs X es t)
    (hn : (assignEach es X.env).length = n := by rfl) (hst : (assignEach es X.env).findIdx? (·.1) = none := by rfl) : PG X (.Tuple es k pos) (gTup X.K n t) := by
  intro pins s σ H v u Q I r hw
  obtain ⟨a, xs, e1, hq, hl, hw⟩ := hw
  subst e1
  cases r
  obtain ⟨its, rv, ht, hz⟩ := I.tuple hq
  refine assign_Tuple_tuple (I.ok.hd hc) ht (by simp [hn, ← hl, rv.length]) hst fun h' hx => ?_
  have I1 : Inv X pins σ H { s with heap := h' } := I.kept (t' := s.toks) fun b o e => hx b o (Nat.ne_of_lt (Heap.lt_size e)) e
  exact h pins _ σ H xs _ Q I1 (by simpa using rv) hw
def gSub (to ti : TE) (t : TSet) : TG := fun v σ H Q => to σ H fun o H1 => ti σ H1 fun i H2 => t o i v H2 fun H3 => Q σ H3
theorem pg_sub {o i : Expr} {to ti : TE} {t : TSet} (ho : PE X o to) (hi : PE X i ti) (hs : PSet X t)
    (ha : ∀ v, assign (.Subscript o i pos) X.env v = (do
      let ov ← holding [v] (eval o X.env)
      let iv ← holding [v, ov] (eval i X.env)
      standAt pos
      holding [v, ov, iv] (setItem ov iv v)
      release [v, ov, iv] []) := by intro _; rfl) : PG X (.Subscript o i pos) (gSub to ti t) := by
  intro pins s σ H v u Q I r h
  rw [ha]
  refine wpAny_bind (wpAny_holding (thn (ho pins s σ H _ I h) fun ov s1 ⟨x, H1, I1, r1, q1⟩ => ?_))
  refine wpAny_bind (wpAny_holding (thn (hi pins s1 σ H1 _ I1 q1) fun iv s2 ⟨y, H2, I2, r2, q2⟩ => ?_))
  refine wpAny_bind (wpAny_standAt (wpAny_bind (wpAny_holding (thn (hs pins s2 σ H2 x y v ov iv u _ I2 r1 r2 r q2) fun _ s3 ⟨H3, I3, q3⟩ => ?_))))
  exact wpAny_release ⟨σ, H3, I3, q3⟩
def tAsg (te : TE) (g : TG) : TS := fun D σ H => te σ H fun x H1 => g x σ H1 D.nx
theorem ps_asg {tg e : Expr} {te : TE} {g : TG} (he : PE X e te) (hg : PG X tg g) (hs : swapsWithSole [tg] e pos.line X.env = pure false := by rfl) (hw : swappedStores [tg] e X.env = pure none := by rfl)
    (h1 : (assignEach [tg] X.env).map (·.2) = [assign tg X.env] := by rfl) : PS X (.Assign [tg] e pos) (tAsg te g) := by
  intro pins s σ H D I h
  refine wpAny_Assign_stores (thn (he pins s σ H _ I h) fun v s1 ⟨x, H1, I1, r1, q1⟩ => ?_) hs hw
  rw [h1]
  exact thn (hg pins s1 σ H1 x v _ I1 r1 q1) fun _ s2 q => q
theorem ps_set {i : Nat} {x : Str} {e : Expr} {te : TE} {pos' : Pos} (hN : X.N.Nodup) (hi : X.N[i]? = some x) (hx : Loc X.env.scope x) (he : PE X e te) (hs : swapsWith e (some (.Name x pos')) pos.line X.env = pure false := by rfl) (hf : X.fn x = true ∨ X.env.scope.names.lookup x = some .local := by first | exact .inl rfl | exact .inr rfl | assumption) :
    PS X (.Assign [.Name x pos'] e pos) (tAsg te (gName i)) := by
  intro pins s σ H D I h
  refine wpAny_Assign_Name (thn (he pins s σ H _ I h) fun v s1 ⟨y, H1, I1, r1, q1⟩ => ?_) hs
  exact store_ok I1 hN hi hx r1 (fun s2 I2 => ⟨_, H1, I2, q1⟩) hf
end
section
variable {X : Cx} {pos : Pos}
def tWhile (c : TT) (tb : TS) : TS := fun D σ H => ∃ W : Nat → St → Hp → Prop, (∃ m, W m σ H) ∧ ∀ m σ H, W m σ H →
  c σ H fun b H1 => if b = true then ∃ N : St → Hp → Prop, (∀ σ' H', N σ' H' → ∃ m', m' < m ∧ W m' σ' H') ∧ tb { D with nx := N, ct := N, bk := D.nx } σ H1 else D.nx σ H1
theorem ps_while {c : Expr} {body : List Stmt} {tc : TT} {tb : TS} (hp : PassesOwn (model X.prog X.w) X.A X.env X.xe) (hc : PT X c tc) (hb : PSs X body tb) : PS X (.While c body [] pos) (tWhile tc tb) := by
  intro pins s σ H D I h
  obtain ⟨W, ⟨m0, w0⟩, turn⟩ := h
  refine wpAny_While (codeAny_whileLoop (fun n s' => ∃ σ' H', Inv X pins σ' H' s' ∧ W n σ' H') ?_ m0 ⟨σ, H, I, w0⟩)
  rintro n s1 ⟨σ1, H1, I1, w1⟩
  refine wpAny_passesOwn hp (thn (hc pins s1 σ1 H1 _ I1 (turn n σ1 H1 w1)) fun b s2 ⟨H2, I2, q2⟩ => ?_)
  cases b with
  | true =>
    obtain ⟨N, hN, q2⟩ := q2
    rw [if_pos rfl]
    refine wpAny_passesOwn hp (thn (hb pins s2 σ1 H2 _ I2 q2) fun f s3 q3 => ?_)
    cases f with
    | next =>
      obtain ⟨σ3, H3, I3, n3⟩ := q3
      obtain ⟨m', hm, w3⟩ := hN σ3 H3 n3
      exact ⟨m', hm, σ3, H3, I3, w3⟩
    | cont =>
      obtain ⟨σ3, H3, I3, n3⟩ := q3
      obtain ⟨m', hm, w3⟩ := hN σ3 H3 n3
      exact ⟨m', hm, σ3, H3, I3, w3⟩
    | brk => exact q3
    | ret v => exact q3
  | false =>
    rw [if_neg Bool.false_ne_true]
    exact wpAny_execs_nil ⟨σ1, H2, I2, q2⟩
end
structure It where
  go : Nat → Hp → Prop
  yld : Nat → Hp → V → Hp → Prop
  stop : Nat → Hp → Prop
def FpOk (X : Cx) (pins : List (Addr × Obj)) (H : Hp) (b : Addr) : Prop :=
  H b = none ∧ b ≠ X.env.locals ∧ b ∉ X.fs ∧ (b ∈ X.ex ∨ X.s₀.heap.objs.size ≤ b) ∧ (∀ x c, X.env.cells.lookup x = some c → c ≠ b) ∧ ∀ p ∈ X.pn ++ pins, p.1 ≠ b
theorem Inv.fpOk {X : Cx} {pins : List (Addr × Obj)} {σ : St} {H H' : Hp} {s : Shared} {b : Addr} (I : Inv X pins σ H s) (hb : s.heap.objs.size ≤ b) (hn : H' b = none) : FpOk X pins H' b := by
  refine ⟨hn, Nat.ne_of_gt (Nat.lt_of_lt_of_le I.lt hb), I.nofs hb, .inr (Nat.le_trans I.sz hb), fun x c e z => ?_, fun p hp z => ?_⟩
  · obtain ⟨v, q⟩ := I.cell x c e
    exact absurd (Nat.lt_of_lt_of_le q.lt (by rw [z]; exact hb)) (Nat.lt_irrefl _)
  · exact absurd (Nat.lt_of_lt_of_le (Heap.lt_size (I.pin p hp).1) (by rw [z]; exact hb)) (Nat.lt_irrefl _)
structure Turn (P : Program) (w : World) (K : PySem.W.Frag) (tg : Expr) (J : It) (fp : List Addr) (it : Addr) (tn : Nat → Heap → Prop) : Prop where
  mem : it ∈ fp
  obj : ∀ i h, tn i h → ∀ b ∈ fp, ∃ o, h.get? b = some o ∧ ∀ v, o.data ≠ .cell v
  keep : ∀ i h h', tn i h → (∀ b ∈ fp, ∀ o, h.get? b = some o → h'.get? b = some o) → tn i h'
  item : ∀ (X : Cx), X.prog = P → X.w = w → X.K = K → X.calm = true → ∀ (i : Nat) (pins : List (Addr × Obj)) (s : Shared) (σ : St) (H : Hp) (E : Value → Shared → Prop), Inv X pins σ H s → (∀ b ∈ fp, FpOk X pins H b) → tn i s.heap → J.go i H →
    wpAny (model P w) X.A (pyNext (.ref it)) (fun r s1 => ∃ u, r = some u ∧
      wpAny (model P w) X.A (letOwnedTupleGo tg (.ref it) u) (fun _ s2 => ∃ x H', Inv X pins σ H' s2 ∧ RelV x u ∧ J.yld i H x H' ∧ tn (i + 1) s2.heap ∧ ∀ b ∈ fp, H' b = none) E s1) E s
  done : ∀ (X : Cx), X.prog = P → X.w = w → X.K = K → X.calm = true → ∀ (i : Nat) (pins : List (Addr × Obj)) (s : Shared) (σ : St) (H : Hp) (E : Value → Shared → Prop), Inv X pins σ H s → (∀ b ∈ fp, FpOk X pins H b) → tn i s.heap → J.stop i H →
    wpAny (model P w) X.A (pyNext (.ref it)) (fun r s1 => r = none ∧ Inv X pins σ H s1) E s
  self : ∀ (A : Around) (i : Nat) (s : Shared) (Q : Value → Shared → Prop) (E : Value → Shared → Prop), tn i s.heap → Q (.ref it) s → wpAny (model P w) A (pyIter (.ref it)) Q E s
abbrev TI := St → Hp → (It → Hp → Prop) → Prop
def PIE (X : Cx) (pins : List (Addr × Obj)) (σ : St) (tg : Expr) (R : It → Hp → Prop) (itv : Value) (s2 : Shared) : Prop :=
  ∃ (it : Addr) (fp : List Addr) (tn : Nat → Heap → Prop) (J : It) (H' : Hp), itv = .ref it ∧ Inv X pins σ H' s2 ∧ Turn X.prog X.w X.K tg J fp it tn ∧ tn 0 s2.heap ∧ (∀ b ∈ fp, FpOk X pins H' b) ∧ R J H'
def PI (X : Cx) (tg iter : Expr) (wi : TI) : Prop :=
  ∀ (pins : List (Addr × Obj)) (s : Shared) (σ : St) (H : Hp) (R : It → Hp → Prop), Inv X pins σ H s → wi σ H R →
    wpAny (model X.prog X.w) X.A (eval iter X.env) (fun v s1 => wpAny (model X.prog X.w) X.A (pyIter v) (PIE X pins σ tg R) X.xe s1) X.xe s
theorem go_of {M : Model} {A : Around} {E : Value → Shared → Prop} {s : Shared} {tg : Expr} {it : Addr} {u : Value} {o : Obj} {n : String} {vs : Array Value} {Q : Unit → Shared → Prop} (ho : s.heap.get? it = some o) (hc : o.cls = .type n) (hd : o.data = .fields vs)
    (hn : ["enumerate", "zip", "dict_itemiterator", "dict_reverseitemiterator", "odict_iterator", "itertools.zip_longest", "itertools.pairwise"].contains n = false) (hQ : Q () s) : wpAny M A (letOwnedTupleGo tg (.ref it) u) Q E s := by
  unfold letOwnedTupleGo
  cases tg <;> first
    | exact wpAny_pure hQ
    | (cases u <;> first
        | exact wpAny_pure hQ
        | (refine wpAny_bind (wpAny_load ho ?_)
           rw [hc, hd]
           show wpAny M A (if (["enumerate", "zip", "dict_itemiterator", "dict_reverseitemiterator", "odict_iterator", "itertools.zip_longest", "itertools.pairwise"].contains n && vs[0]? == some (rawInt _)) = true then _ else _) Q E s
           rw [if_neg (by intro h; rw [hn, Bool.false_and] at h; cases h)]
           exact wpAny_pure hQ))
def Itl (K : PySem.W.Frag) (a : Addr) : It :=
  ⟨fun i H => ∃ xs x, SqL K H a xs ∧ xs[i]? = some x, fun i H x H' => H' = H ∧ ∀ xs, SqL K H a xs → xs[i]? = some x, fun i H => ∃ xs, SqL K H a xs ∧ xs.length ≤ i⟩
def Itt (K : PySem.W.Frag) (a : Addr) : It :=
  ⟨fun i H => ∃ xs x, SqT K H a xs ∧ xs[i]? = some x, fun i H x H' => H' = H ∧ ∀ xs, SqT K H a xs → xs[i]? = some x, fun i H => ∃ xs, SqT K H a xs ∧ xs.length ≤ i⟩
def Itr (lo : Int) (n : Nat) : It := ⟨fun i _ => i < n, fun i H x H' => H' = H ∧ x = .int (lo + i), fun i _ => n ≤ i⟩
theorem turn_list {P : Program} {w : World} {K : PySem.W.Frag} {tg : Expr} (a it : Addr) : Turn P w K tg (Itl K a) [it] it (fun i h => h.IsListIter it a i) where
  mem := by simp
  obj := fun i h st b hb => by
    have e : b = it := by simpa using hb
    subst e
    obtain ⟨o, e, c, d⟩ := st
    exact ⟨o, e, fun v z => by rw [d] at z; cases z⟩
  keep := fun i h h' st k => st.at fun o e => k it (by simp) o e
  item := by
    intro X hP hw hK hc i pins s σ H E I hf st hg
    subst hP hw hK
    obtain ⟨xs, x, hq, hx⟩ := hg
    obtain ⟨its, rv, p, hz⟩ := I.list hq
    obtain ⟨u, hu, ru⟩ := rv.get hx
    obtain ⟨f0, f1, f2, f3, f4, f5⟩ := hf it (by simp)
    refine wpAny_pyNext_list_item st p.isList (x := u) (by simpa using hu) fun h' st' sb => ?_
    have I1 : Inv X pins σ H { s with heap := h' } := I.turned (t' := s.toks) (fun b o hb e => (sb.2 b hb).trans e) f0 f1 f3 f4 f5
    obtain ⟨o, e, c, d⟩ := id st'
    exact ⟨u, rfl, go_of (s := { s with heap := h' }) e c d (by decide) ⟨x, H, I1, ru, ⟨rfl, fun ys hy => by rw [I.list_inj hy hq]; exact hx⟩, st', fun b hb => (hf b hb).1⟩⟩
  done := by
    intro X hP hw hK hc i pins s σ H E I hf st hg
    subst hP hw hK
    obtain ⟨xs, hq, hx⟩ := hg
    obtain ⟨its, rv, p, hz⟩ := I.list hq
    obtain ⟨f0, f1, f2, f3, f4, f5⟩ := hf it (by simp)
    have hl := rv.length
    exact wpAny_pyNext_list_end (I.ok.hd hc) st p.isList (by simp; omega) fun h' eb => ⟨rfl, I.turned (t' := s.toks) (fun b o hb e => eb b o hb e) f0 f1 f3 f4 f5⟩
  self := fun _ _ _ _ _ st h => wpAny_pyIter_listiter st h
theorem turn_tuple {P : Program} {w : World} {K : PySem.W.Frag} {tg : Expr} (a it : Addr) : Turn P w K tg (Itt K a) [it] it (fun i h => h.IsTupleIter it a i) where
  mem := by simp
  obj := fun i h st b hb => by
    have e : b = it := by simpa using hb
    subst e
    obtain ⟨o, e, c, d⟩ := st
    exact ⟨o, e, fun v z => by rw [d] at z; cases z⟩
  keep := fun i h h' st k => st.at fun o e => k it (by simp) o e
  item := by
    intro X hP hw hK hc i pins s σ H E I hf st hg
    subst hP hw hK
    obtain ⟨xs, x, hq, hx⟩ := hg
    obtain ⟨its, rv, p, hz⟩ := I.tuple hq
    obtain ⟨u, hu, ru⟩ := rv.get hx
    obtain ⟨f0, f1, f2, f3, f4, f5⟩ := hf it (by simp)
    refine wpAny_pyNext_tuple_item st (show s.heap.IsTuple a its.toArray from p) (x := u) (by simpa using hu) fun h' st' sb => ?_
    have I1 : Inv X pins σ H { s with heap := h' } := I.turned (t' := s.toks) (fun b o hb e => (sb.2 b hb).trans e) f0 f1 f3 f4 f5
    obtain ⟨o, e, c, d⟩ := id st'
    exact ⟨u, rfl, go_of (s := { s with heap := h' }) e c d (by decide) ⟨x, H, I1, ru, ⟨rfl, fun ys hy => by rw [I.tuple_inj hy hq]; exact hx⟩, st', fun b hb => (hf b hb).1⟩⟩
  done := by
    intro X hP hw hK hc i pins s σ H E I hf st hg
    subst hP hw hK
    obtain ⟨xs, hq, hx⟩ := hg
    obtain ⟨its, rv, p, hz⟩ := I.tuple hq
    obtain ⟨f0, f1, f2, f3, f4, f5⟩ := hf it (by simp)
    have hl := rv.length
    exact wpAny_pyNext_tuple_end (I.ok.hd hc) st (show s.heap.IsTuple a its.toArray from p) (by simp; omega) fun h' eb => ⟨rfl, I.turned (t' := s.toks) (fun b o hb e => eb b o hb e) f0 f1 f3 f4 f5⟩
  self := fun _ _ _ _ _ st h => wpAny_pyIter_tupleiter st h
theorem turn_range {P : Program} {w : World} {K : PySem.W.Frag} {tg : Expr} (it : Addr) (lo : Int) (n : Nat) : Turn P w K tg (Itr lo n) [it] it (fun i h => IsRangeIter h it (lo + (i : Nat) * 1) ((n : Int) - (i : Nat)) 1) where
  mem := by simp
  obj := fun i h st b hb => by
    have e : b = it := by simpa using hb
    subst e
    exact ⟨_, st, fun v z => by
      have z' : Data.fields _ = Data.cell v := z
      cases z'⟩
  keep := fun i h h' st k => k it (by simp) _ st
  item := by
    intro X hP hw hK hc i pins s σ H E I hf st hg
    subst hP hw hK
    obtain ⟨f0, f1, f2, f3, f4, f5⟩ := hf it (by simp)
    have W := Walks.range (prog := X.prog) (w := X.w) (I.ok.hd hc) it lo 1 n
    refine W.item i s _ _ hg st fun v h' tk hv st' kk => ?_
    obtain ⟨t, rfl⟩ := hv
    have I1 : Inv X pins σ H { s with heap := h', toks := tk } := I.turned (fun b o hb e => kk b o (by simpa using hb) e) f0 f1 f3 f4 f5
    refine ⟨_, rfl, go_of (s := { s with heap := h', toks := tk }) (n := "range_iterator") st' rfl rfl (by decide) ⟨.int (lo + i), H, I1, ⟨t, ?_⟩, ⟨rfl, rfl⟩, st', fun b hb => (hf b hb).1⟩⟩
    rw [Int.mul_one]
  done := by
    intro X hP hw hK hc i pins s σ H E I hf st hg
    subst hP hw hK
    obtain ⟨f0, f1, f2, f3, f4, f5⟩ := hf it (by simp)
    exact wpAny_pyNext_range_end (I.ok.hd hc) st (by have : n ≤ i := hg; omega) fun h' eb => ⟨rfl, I.turned (t' := s.toks) (fun b o hb e => eb b o hb e) f0 f1 f3 f4 f5⟩
  self := fun _ _ _ _ _ st h => wpAny_pyIter_rangeiter st h
end L2
namespace L2
open PySem PySem.Spec PyProof.Rows
section
variable {X : Cx} {tg : Expr}
def iTup (K : PySem.W.Frag) (tl : TE) : TI := fun σ H R => tl σ H fun x H1 => ∃ a, x = .ref a ∧ (∃ xs, SqT K H1 a xs) ∧ R (Itt K a) H1
theorem pi_tup {l : Expr} {tl : TE} (hl : PE X l tl) : PI X tg l (iTup X.K tl) := by
  intro pins s σ H R I h
  refine thn (hl pins s σ H _ I h) fun v s1 ⟨x, H1, I1, r1, q1⟩ => ?_
  obtain ⟨a, e, ⟨xs, hq⟩, q⟩ := q1
  subst e
  cases r1
  obtain ⟨its, rv, p, hz⟩ := I1.tuple hq
  refine wpAny_pyIter_tuple (show s1.heap.IsTuple a its.toArray from p) ?_
  refine ⟨s1.heap.objs.size, [s1.heap.objs.size], _, _, H1, rfl, I1.kept (t' := s1.toks) fun b o e => Heap.get?_push_of_some _ e, turn_tuple a _, ⟨_, Heap.get?_push_size _ rfl, rfl, rfl⟩, fun b hb => ?_, q⟩
  have e : b = s1.heap.objs.size := by simpa using hb
  subst e
  exact I1.fpOk (Nat.le_refl _) (I1.hok.fresh (Nat.le_refl _))
theorem range_it {pins : List (Addr × Obj)} {σ : St} {H : Hp} {s : Shared} {R : It → Hp → Prop} {E : Value → Shared → Prop} {lo hi : Int} {t u v : Tok} {tk : Nat} (I : Inv X pins σ H s) (h1 : -(2 ^ 62) ≤ lo) (h2 : lo < 2 ^ 62) (h3 : -(2 ^ 62) ≤ hi) (h4 : hi < 2 ^ 62)
    (q : R (Itr lo (hi - lo).toNat) H) : wpAny (model X.prog X.w) X.A (pyIter (.ref s.heap.objs.size)) (PIE X pins σ tg R) E { s with heap := s.heap.push { cls := .type "range", data := .fields #[.int lo t, .int hi u, .int 1 v] }, toks := tk } := by
  refine wpAny_pyIter_range (IsRange.new ..) (small_one h1 h2 h3 h4) ?_
  have I1 : Inv X pins σ H { s with heap := s.heap.push { cls := .type "range", data := .fields #[.int lo t, .int hi u, .int 1 v] }, toks := tk } := I.kept fun b o e => Heap.get?_push_of_some _ e
  refine ⟨(s.heap.push { cls := .type "range", data := .fields #[.int lo t, .int hi u, .int 1 v] }).objs.size, [(s.heap.push { cls := .type "range", data := .fields #[.int lo t, .int hi u, .int 1 v] }).objs.size], _, _, H, rfl,
    I1.kept (t' := tk) fun b o e => Heap.get?_push_of_some _ e, turn_range _ lo (hi - lo).toNat, ?_, fun b hb => ?_, q⟩
  · have e1 : lo + ((0 : Nat) : Int) * 1 = lo := by simp
    have e2 : (((hi - lo).toNat : Nat) : Int) - ((0 : Nat) : Int) = Builtin.Range.rangeSize lo hi 1 := by rw [rangeSize_one]; split <;> omega
    show IsRangeIter _ _ (lo + ((0 : Nat) : Int) * 1) ((((hi - lo).toNat : Nat) : Int) - ((0 : Nat) : Int)) 1
    rw [e1, e2]
    exact Heap.get?_push_size _ rfl
  · have e : b = (s.heap.push { cls := .type "range", data := .fields #[.int lo t, .int hi u, .int 1 v] }).objs.size := by simpa using hb
    subst e
    exact I1.fpOk (Nat.le_refl _) (I1.hok.fresh (Nat.le_refl _))
def iRng1 (ta : TA) : TI := fun σ H R => ta σ H fun vs H1 => ∃ j : Int, vs = [.int j] ∧ -(2 ^ 62) ≤ j ∧ j < 2 ^ 62 ∧ R (Itr 0 j.toNat) H1
theorem pi_range1 {a : Expr} {ta : TA} {p pos : Pos} (hg : Gl X "range") (hm : X.mg "range" = none) (ha : PA X [a] ta) (hs : starEach [a] X.env = [(false, eval a X.env)] := by rfl) : PI X tg (.Call (.Name "range" p) [a] [] pos) (iRng1 ta) := by
  intro pins s σ H R I h
  refine Call_ (ld_blt I hg hm boot_range (PyProof.Rows.callWith_type1 (thn (ha pos pins s σ H _ I h) fun us s1 ⟨vs, H1, I1, r1, q1⟩ => ?_) hs rfl))
  obtain ⟨j, e, q1, q2, q⟩ := q1
  subst e
  cases r1 with
  | cons r rr =>
    cases rr
    obtain ⟨t, rfl⟩ := r
    exact call_range_1 (range_it I1 (by omega) (by omega) q1 q2 (by simpa using q))
def tFor (wi : TI) (g : TG) (tb : TS) : TS := fun D σ H => wi σ H fun J H1 => ∃ W : Nat → Nat → St → Hp → Prop, (∃ m, W 0 m σ H1) ∧ ∀ i m σ H, W i m σ H →
  (J.stop i H ∧ D.nx σ H) ∨ (J.go i H ∧ ∃ N : St → Hp → Prop, (∀ σ' H', N σ' H' → ∃ m', m' < m ∧ W (i + 1) m' σ' H') ∧ ∀ x H', J.yld i H x H' → g x σ H' fun σ2 H2 => tb { D with nx := N, ct := N, bk := D.nx } σ2 H2)
def pinsAt (fp : List Addr) (h : Heap) : List (Addr × Obj) := fp.filterMap fun b => (h.get? b).map fun o => (b, o)
theorem mem_pinsAt {fp : List Addr} {h : Heap} {b : Addr} {o : Obj} (hb : b ∈ fp) (e : h.get? b = some o) : (b, o) ∈ pinsAt fp h := List.mem_filterMap.mpr ⟨b, hb, by rw [e]; rfl⟩
theorem of_pinsAt {fp : List Addr} {h : Heap} {p : Addr × Obj} (hp : p ∈ pinsAt fp h) : p.1 ∈ fp ∧ h.get? p.1 = some p.2 := by
  obtain ⟨b, hb, e⟩ := List.mem_filterMap.mp hp
  cases q : h.get? b with
  | none => rw [q] at e; cases e
  | some o =>
    rw [q] at e
    have e' : (b, o) = p := Option.some.inj e
    subst e'
    exact ⟨hb, q⟩
theorem Inv.pinned {pins : List (Addr × Obj)} {σ : St} {H : Hp} {s : Shared} {fp : List Addr} (I : Inv X pins σ H s) (hf : ∀ b ∈ fp, FpOk X pins H b) (ho : ∀ b ∈ fp, ∃ o, s.heap.get? b = some o ∧ ∀ v, o.data ≠ .cell v) : Inv X (pins ++ pinsAt fp s.heap) σ H s :=
  I.pins_of fun p hp => (List.mem_append.mp hp).elim (fun z => I.pin p (List.mem_append_right _ z)) fun z => by
    obtain ⟨hb, e⟩ := of_pinsAt z
    obtain ⟨f0, f1, f2, _⟩ := hf p.1 hb
    obtain ⟨o, e', d⟩ := ho p.1 hb
    rw [e] at e'; cases e'
    exact ⟨e, f0, f1, f2, d⟩
theorem Inv.unpinned {pins pl : List (Addr × Obj)} {σ : St} {H : Hp} {s : Shared} (I : Inv X (pins ++ pl) σ H s) : Inv X pins σ H s := I.pins_of fun p hp => I.pin p (List.mem_append_right _ (List.mem_append_left _ hp))
theorem ps_for {iter : Expr} {body : List Stmt} {wi : TI} {g : TG} {tb : TS} {pos : Pos} (hp : PassesOwn (model X.prog X.w) X.A X.env X.xe) (hc : X.calm = true) (hi : PI X tg iter wi) (hg : PG X tg g) (hb : PSs X body tb)
    (hs : ∀ x, foldedSetIterable iter X.env x = pure x := by intro _; rfl) : PS X (.For tg iter body [] pos) (tFor wi g tb) := by
  intro pins s σ H D I h
  refine wpAny_For (thn (hi pins s σ H _ I h) fun v s1 h1 => thn h1 fun itv s2 h2 => ?_) hs
  obtain ⟨it, fp, tn, J, H2, e, I2, T, st2, f2, W, ⟨m0, w0⟩, turn⟩ := h2
  subst e
  -- what stays true of the iterator's objects through the loop
  have stat : ∀ {H' : Hp}, (∀ b ∈ fp, H' b = none) → ∀ b ∈ fp, FpOk X pins H' b := fun hn b hb => ⟨hn b hb, (f2 b hb).2⟩
  refine codeAny_forLoop_any (fun n s' => ∃ i σ' H', Inv X pins σ' H' s' ∧ tn i s'.heap ∧ (∀ b ∈ fp, H' b = none) ∧ W i n σ' H') ?_ m0 ⟨0, σ, H2, I2, st2, fun b hb => (f2 b hb).1, w0⟩
  rintro n s3 ⟨i, σ3, H3, I3, st3, fr3, w3⟩
  rcases turn i n σ3 H3 w3 with ⟨stop, qn⟩ | ⟨go, N, hN, step⟩
  · refine wpAny_passesOwn hp (thn (T.done X rfl rfl rfl hc i pins s3 σ3 H3 X.xe I3 (stat fr3) st3 stop) fun r s4 ⟨hr, I4⟩ => ?_)
    subst hr
    exact wpAny_execs_nil ⟨σ3, H3, I4, qn⟩
  · refine wpAny_passesOwn hp (thn (T.item X rfl rfl rfl hc i pins s3 σ3 H3 X.xe I3 (stat fr3) st3 go) fun r s4 ⟨u, hr, h4⟩ => ?_)
    subst hr
    refine wpAny_passesOwn hp (thn h4 fun _ s5 ⟨x, H5, I5, r5, y5, st5, fr5⟩ => ?_)
    have I5' := I5.pinned (stat fr5) (T.obj _ _ st5)
    refine wpAny_passesOwn hp (thn (hg _ s5 σ3 H5 x u _ I5' r5 (step x H5 y5)) fun _ s6 ⟨σ6, H6, I6, q6⟩ => ?_)
    refine wpAny_passesOwn hp (thn (hb _ s6 σ6 H6 _ I6 q6) fun f s7 q7 => ?_)
    have again : ∀ {σ7 : St} {H7 : Hp}, Inv X (pins ++ pinsAt fp s5.heap) σ7 H7 s7 → N σ7 H7 → ∃ m, m < n ∧ ∃ i σ' H', Inv X pins σ' H' s7 ∧ tn i s7.heap ∧ (∀ b ∈ fp, H' b = none) ∧ W i m σ' H' := fun {σ7 H7} I7 n7 => by
      obtain ⟨m', hm, w7⟩ := hN σ7 H7 n7
      refine ⟨m', hm, i + 1, σ7, H7, I7.unpinned, T.keep _ _ _ st5 fun b hb o e => (I7.pin (b, o) (List.mem_append_right _ (List.mem_append_right _ (mem_pinsAt hb e)))).1, fun b hb => ?_, w7⟩
      obtain ⟨o, e, d⟩ := T.obj _ _ st5 b hb
      exact (I7.pin (b, o) (List.mem_append_right _ (List.mem_append_right _ (mem_pinsAt hb e)))).2.1
    cases f with
    | next => obtain ⟨σ7, H7, I7, n7⟩ := q7; exact again I7 n7
    | cont => obtain ⟨σ7, H7, I7, n7⟩ := q7; exact again I7 n7
    | brk => obtain ⟨σ7, H7, I7, q7⟩ := q7; exact ⟨σ7, H7, I7.unpinned, q7⟩
    | ret v => obtain ⟨x7, σ7, H7, I7, r7, q7⟩ := q7; exact ⟨x7, σ7, H7, I7.unpinned, r7, q7⟩
end
theorem for_list {K : PySem.W.Frag} {a : Addr} {xs : List V} {g : TG} {tb : TS} {D : Ends} {σ : St} {H : Hp} (Pv : Nat → St → Hp → Prop) (h0 : Pv 0 σ H) (hl : ∀ i σ H, i ≤ xs.length → Pv i σ H → SqL K H a xs)
    (hs : ∀ i x σ H, xs[i]? = some x → Pv i σ H → g x σ H fun σ2 H2 => tb { D with nx := Pv (i + 1), ct := Pv (i + 1), bk := D.nx } σ2 H2) (hd : ∀ σ H, Pv xs.length σ H → D.nx σ H) :
    ∃ W : Nat → Nat → St → Hp → Prop, (∃ m, W 0 m σ H) ∧ ∀ i m σ H, W i m σ H →
      ((Itl K a).stop i H ∧ D.nx σ H) ∨ ((Itl K a).go i H ∧ ∃ N : St → Hp → Prop, (∀ σ' H', N σ' H' → ∃ m', m' < m ∧ W (i + 1) m' σ' H') ∧ ∀ x H', (Itl K a).yld i H x H' → g x σ H' fun σ2 H2 => tb { D with nx := N, ct := N, bk := D.nx } σ2 H2) := by
  refine ⟨fun i m σ H => m = xs.length - i ∧ i ≤ xs.length ∧ Pv i σ H, ⟨xs.length, by simp, Nat.zero_le _, h0⟩, ?_⟩
  rintro i m σ H ⟨rfl, hi, p⟩
  have q := hl i σ H hi p
  by_cases hlt : i < xs.length
  · refine .inr ⟨⟨xs, xs[i], q, by simp [hlt]⟩, Pv (i + 1), fun σ' H' p' => ⟨xs.length - (i + 1), by omega, rfl, hlt, p'⟩, fun x H' y => ?_⟩
    obtain ⟨e, y⟩ := y
    subst e
    exact hs i x σ _ (y xs q) p
  · have e : i = xs.length := by omega
    subst e
    exact .inl ⟨⟨xs, q, Nat.le_refl _⟩, hd σ H p⟩
theorem for_tup {K : PySem.W.Frag} {a : Addr} {xs : List V} {g : TG} {tb : TS} {D : Ends} {σ : St} {H : Hp} (Pv : Nat → St → Hp → Prop) (h0 : Pv 0 σ H) (hl : ∀ i σ H, i ≤ xs.length → Pv i σ H → SqT K H a xs)
    (hs : ∀ i x σ H, xs[i]? = some x → Pv i σ H → g x σ H fun σ2 H2 => tb { D with nx := Pv (i + 1), ct := Pv (i + 1), bk := D.nx } σ2 H2) (hd : ∀ σ H, Pv xs.length σ H → D.nx σ H) :
    ∃ W : Nat → Nat → St → Hp → Prop, (∃ m, W 0 m σ H) ∧ ∀ i m σ H, W i m σ H →
      ((Itt K a).stop i H ∧ D.nx σ H) ∨ ((Itt K a).go i H ∧ ∃ N : St → Hp → Prop, (∀ σ' H', N σ' H' → ∃ m', m' < m ∧ W (i + 1) m' σ' H') ∧ ∀ x H', (Itt K a).yld i H x H' → g x σ H' fun σ2 H2 => tb { D with nx := N, ct := N, bk := D.nx } σ2 H2) := by
  refine ⟨fun i m σ H => m = xs.length - i ∧ i ≤ xs.length ∧ Pv i σ H, ⟨xs.length, by simp, Nat.zero_le _, h0⟩, ?_⟩
  rintro i m σ H ⟨rfl, hi, p⟩
  have q := hl i σ H hi p
  by_cases hlt : i < xs.length
  · refine .inr ⟨⟨xs, xs[i], q, by simp [hlt]⟩, Pv (i + 1), fun σ' H' p' => ⟨xs.length - (i + 1), by omega, rfl, hlt, p'⟩, fun x H' y => ?_⟩
    obtain ⟨e, y⟩ := y
    subst e
    exact hs i x σ _ (y xs q) p
  · have e : i = xs.length := by omega
    subst e
    exact .inl ⟨⟨xs, q, Nat.le_refl _⟩, hd σ H p⟩
theorem for_range {lo : Int} {n : Nat} {g : TG} {tb : TS} {D : Ends} {σ : St} {H : Hp} (Pv : Nat → St → Hp → Prop) (h0 : Pv 0 σ H)
    (hs : ∀ i σ H, i < n → Pv i σ H → g (.int (lo + i)) σ H fun σ2 H2 => tb { D with nx := Pv (i + 1), ct := Pv (i + 1), bk := D.nx } σ2 H2) (hd : ∀ σ H, Pv n σ H → D.nx σ H) :
    ∃ W : Nat → Nat → St → Hp → Prop, (∃ m, W 0 m σ H) ∧ ∀ i m σ H, W i m σ H →
      ((Itr lo n).stop i H ∧ D.nx σ H) ∨ ((Itr lo n).go i H ∧ ∃ N : St → Hp → Prop, (∀ σ' H', N σ' H' → ∃ m', m' < m ∧ W (i + 1) m' σ' H') ∧ ∀ x H', (Itr lo n).yld i H x H' → g x σ H' fun σ2 H2 => tb { D with nx := N, ct := N, bk := D.nx } σ2 H2) := by
  refine ⟨fun i m σ H => m = n - i ∧ i ≤ n ∧ Pv i σ H, ⟨n, by simp, Nat.zero_le _, h0⟩, ?_⟩
  rintro i m σ H ⟨rfl, hi, p⟩
  by_cases hlt : i < n
  · refine .inr ⟨hlt, Pv (i + 1), fun σ' H' p' => ⟨n - (i + 1), by omega, rfl, hlt, p'⟩, fun x H' y => ?_⟩
    obtain ⟨e, y⟩ := y
    subst e y
    exact hs i σ _ hlt p
  · have e : i = n := by omega
    subst e
    exact .inl ⟨Nat.le_refl _, hd σ H p⟩
end L2
namespace L2
open PySem PySem.Spec PyProof.Rows
abbrev R2 := V → V → Hp → VK → Prop
def OpR (X : Cx) (f : Value → Value → Sem Value) (r : R2) : Prop :=
  ∀ (pins : List (Addr × Obj)) (s : Shared) (σ : St) (H : Hp) (x y : V) (v u : Value) (Q : VK), Inv X pins σ H s → RelV x v → RelV y u → r x y H Q →
    wpAny (model X.prog X.w) X.A (f v u) (EP X pins σ Q) X.xe s
def UnR (X : Cx) (f : Value → Sem Value) (r : V → Hp → VK → Prop) : Prop :=
  ∀ (pins : List (Addr × Obj)) (s : Shared) (σ : St) (H : Hp) (x : V) (v : Value) (Q : VK), Inv X pins σ H s → RelV x v → r x H Q →
    wpAny (model X.prog X.w) X.A (f v) (EP X pins σ Q) X.xe s
def CallR (X : Cx) (f : Value) (r : List V → Hp → VK → Prop) : Prop :=
  ∀ (pins : List (Addr × Obj)) (s : Shared) (σ : St) (H : Hp) (xs : List V) (us : List Value) (Q : VK), Inv X pins σ H s → Vals xs us → r xs H Q →
    wpAny (model X.prog X.w) X.A (call f us) (EP X pins σ Q) X.xe s
def TruR (X : Cx) (r : V → Hp → (Bool → Hp → Prop) → Prop) : Prop :=
  ∀ (pins : List (Addr × Obj)) (s : Shared) (σ : St) (H : Hp) (x : V) (v : Value) (Q : Bool → Hp → Prop), Inv X pins σ H s → RelV x v → r x H Q →
    wpAny (model X.prog X.w) X.A (truthy v) (TP X pins σ Q) X.xe s
def tOp (r : R2) (ta tb : TE) : TE := fun σ H Q => ta σ H fun x H1 => tb σ H1 fun y H2 => r x y H2 Q
def tUn (r : V → Hp → VK → Prop) (ta : TE) : TE := fun σ H Q => ta σ H fun x H1 => r x H1 Q
def rI (C : Int → Int → Prop) (g : Int → Int → V) : R2 := fun x y H Q => ∃ i j, x = .int i ∧ y = .int j ∧ C i j ∧ Q (g i j) H
def rI0 (g : Int → Int → V) : R2 := fun x y H Q => ∃ i j, x = .int i ∧ y = .int j ∧ Q (g i j) H
def rU (g : Int → V) : V → Hp → VK → Prop := fun x H Q => ∃ i, x = .int i ∧ Q (g i) H
section
variable {X : Cx} {a b c : Expr} {ta tb tc : TE} {pos : Pos}
theorem binT (ha : PE X a ta) (hb : PE X b tb) {pins : List (Addr × Obj)} {s : Shared} {σ : St} {H : Hp} {R : V → V → Hp → Prop} (I : Inv X pins σ H s)
    (h : ta σ H fun x H1 => tb σ H1 fun y H2 => R x y H2) {Q : Value → Shared → Prop} {f : Value → Value → Sem Value}
    (hf : ∀ v u s2 x y H2, Inv X pins σ H2 s2 → RelV x v → RelV y u → R x y H2 → wpAny (model X.prog X.w) X.A (f v u) Q X.xe s2) :
    wpAny (model X.prog X.w) X.A (eval a X.env) (fun v s₁ => wpAny (model X.prog X.w) X.A (eval b X.env) (fun u s₂ => wpAny (model X.prog X.w) X.A (f v u) Q X.xe s₂) X.xe s₁) X.xe s := by
  refine thn (ha pins s σ H _ I h) fun v s1 ⟨x, H1, I1, r1, q1⟩ => ?_
  refine thn (hb pins s1 σ H1 _ I1 q1) fun u s2 ⟨y, H2, I2, r2, q2⟩ => ?_
  exact hf v u s2 x y H2 I2 r1 r2 q2
theorem pe_op {op : Operator} {r : R2} (ho : OpR X (binaryOp op) r) (ha : PE X a ta) (hb : PE X b tb) : PE X (.BinOp a op b pos) (tOp r ta tb) := by
  intro pins s σ H Q I h
  exact wpAny_BinOp (binT ha hb I h fun v u s2 x y H2 I2 rx ry q => ho pins s2 σ H2 x y v u Q I2 rx ry q)
theorem pe_un {op : UnaryOp} {r : V → Hp → VK → Prop} (ho : UnR X (unaryOp op) r) (ha : PE X a ta) : PE X (.UnaryOp op a pos) (tUn r ta) := by
  intro pins s σ H Q I h
  exact UnaryOp_ (thn (ha pins s σ H _ I h) fun v s1 ⟨x, H1, I1, r1, q1⟩ => ho pins s1 σ H1 x v Q I1 r1 q1)
theorem opI {f : Value → Value → Sem Value} {C : Int → Int → Prop} {g : Int → Int → Int}
    (rule : ∀ (i j : Int) (t u : Tok) (s : Shared) (Q : Value → Shared → Prop) (E : Value → Shared → Prop), C i j → Q (.int (g i j) s.toks) { s with toks := s.toks + 1 } → wpAny (model X.prog X.w) X.A (f (.int i t) (.int j u)) Q E s) :
    OpR X f (rI C fun i j => .int (g i j)) := by
  intro pins s σ H x y v u Q I rx ry h
  obtain ⟨i, j, rfl, rfl, hc, q⟩ := h
  obtain ⟨t, rfl⟩ := rx
  obtain ⟨t', rfl⟩ := ry
  exact rule i j t t' s _ _ hc ⟨.int (g i j), H, I.tok _, ⟨_, rfl⟩, q⟩
theorem opI0 {f : Value → Value → Sem Value} {g : Int → Int → Int}
    (rule : ∀ (i j : Int) (t u : Tok) (s : Shared) (Q : Value → Shared → Prop) (E : Value → Shared → Prop), Q (.int (g i j) s.toks) { s with toks := s.toks + 1 } → wpAny (model X.prog X.w) X.A (f (.int i t) (.int j u)) Q E s) :
    OpR X f (rI0 fun i j => .int (g i j)) := by
  intro pins s σ H x y v u Q I rx ry h
  obtain ⟨i, j, rfl, rfl, q⟩ := h
  obtain ⟨t, rfl⟩ := rx
  obtain ⟨t', rfl⟩ := ry
  exact rule i j t t' s _ _ ⟨.int (g i j), H, I.tok _, ⟨_, rfl⟩, q⟩
theorem opB0 {f : Value → Value → Sem Value} {g : Int → Int → Bool}
    (rule : ∀ (i j : Int) (t u : Tok) (s : Shared) (Q : Value → Shared → Prop) (E : Value → Shared → Prop), Q (.bool (g i j)) s → wpAny (model X.prog X.w) X.A (f (.int i t) (.int j u)) Q E s) :
    OpR X f (rI0 fun i j => .bl (g i j)) := by
  intro pins s σ H x y v u Q I rx ry h
  obtain ⟨i, j, rfl, rfl, q⟩ := h
  obtain ⟨t, rfl⟩ := rx
  obtain ⟨t', rfl⟩ := ry
  exact rule i j t t' s _ _ ⟨.bl (g i j), H, I, rfl, q⟩
def CDiv (i j : Int) : Prop := 0 < j ∧ j < 1073741824
def CPow (i j : Int) : Prop := 0 ≤ j ∧ j ≤ 1000000 ∧ i.natAbs < 2 ^ 64
def CMul (i j : Int) : Prop := (-(2 ^ 64) < i ∧ i < 2 ^ 64) ∨ (-(2 ^ 64) < j ∧ j < 2 ^ 64)
theorem CMul.ok {i j : Int} (h : CMul i j) : IntMulOk i j := by
  rcases h with ⟨h1, h2⟩ | ⟨h1, h2⟩
  · exact .of_left (intBits_le_64 h1 h2)
  · exact .of_right (intBits_le_64 h1 h2)
theorem op_add : OpR X (binaryOp .Add) (rI0 fun i j => .int (i + j)) := opI0 fun _ _ _ _ _ _ _ q => add_int q
theorem op_sub : OpR X (binaryOp .Sub) (rI0 fun i j => .int (i - j)) := opI0 fun _ _ _ _ _ _ _ q => sub_int q
theorem op_mul : OpR X (binaryOp .Mult) (rI CMul fun i j => .int (i * j)) := opI fun _ _ _ _ _ _ _ hc q => mul_int q hc.ok
theorem op_fdiv : OpR X (binaryOp .FloorDiv) (rI CDiv fun i j => .int (i / j)) := opI fun i j _ _ _ _ _ hc q => by
  have h1 : (0 : Int) < j := hc.1
  have h2 : j < 1073741824 := hc.2
  exact floordiv_int (by omega) (by rw [Int.fdiv_eq_ediv_of_nonneg i (by omega)]; exact q) (.inl (PyProof.noPylong_small (by omega)))
theorem op_mod : OpR X (binaryOp .Mod) (rI (fun _ j => 0 < j) fun i j => .int (i % j)) := opI fun i j _ _ _ _ _ hc q => by
  have h1 : (0 : Int) < j := hc
  exact mod_int' (by omega) (by rw [Int.fmod_eq_emod_of_nonneg i (by omega)]; exact q)
theorem op_pow : OpR X (binaryOp .Pow) (rI CPow fun i j => .int (i ^ j.toNat)) := opI fun _ _ _ _ _ _ _ hc q => pow_int_small hc.1 hc.2.1 hc.2.2 q
theorem unI {f : Value → Sem Value} {g : Int → Int}
    (rule : ∀ (i : Int) (t : Tok) (s : Shared) (Q : Value → Shared → Prop) (E : Value → Shared → Prop), Q (.int (g i) s.toks) { s with toks := s.toks + 1 } → wpAny (model X.prog X.w) X.A (f (.int i t)) Q E s) :
    UnR X f (rU fun i => .int (g i)) := by
  intro pins s σ H x v Q I rx h
  obtain ⟨i, rfl, q⟩ := h
  obtain ⟨t, rfl⟩ := rx
  exact rule i t s _ _ ⟨.int (g i), H, I.tok _, ⟨_, rfl⟩, q⟩
theorem un_neg : UnR X (unaryOp .USub) (rU fun i => .int (-i)) := unI fun _ _ _ _ _ q => neg_int q
end
def scal : V → V → Bool
  | .non, .non => true | .non, .int _ => true | .int _, .non => true | .non, .bl _ => true | .bl _, .non => true | .non, .str _ => true | .str _, .non => true
  | .int _, .int _ => true | .bl _, .bl _ => true | .str _, .str _ => true | .byt _, .byt _ => true
  | .int _, .str _ => true | .str _, .int _ => true | .bl _, .str _ => true | .str _, .bl _ => true
  | _, _ => false
def rEq : R2 := fun x y H Q => scal x y = true ∧ Q (.bl (decide (x = y))) H
def rNe : R2 := fun x y H Q => scal x y = true ∧ Q (.bl (!decide (x = y))) H
theorem dec_int {i j : Int} : decide (V.int i = V.int j) = (i == j) := by
  rw [Bool.eq_iff_iff]
  simp
theorem dec_bl {i j : Bool} : decide (V.bl i = V.bl j) = (i == j) := by
  rw [Bool.eq_iff_iff]
  simp
theorem dec_str {i j : Str} : decide (V.str i = V.str j) = (i == j) := by
  rw [Bool.eq_iff_iff]
  simp
theorem dec_byt {i j : Array UInt8} : decide (V.byt i = V.byt j) = (i.toList == j.toList) := by
  rw [Bool.eq_iff_iff]
  cases i
  cases j
  simp
section
variable {X : Cx} {a b c : Expr} {ta tb tc : TE} {pos : Pos}
theorem fin_bl {pins : List (Addr × Obj)} {σ : St} {H : Hp} {s : Shared} {Q : VK} {k k' : Bool} (I : Inv X pins σ H s) (q : Q (.bl k) H) (e : k = k') : EP X pins σ Q (.bool k') s := by
  subst e
  exact ⟨.bl k, H, I, rfl, q⟩
theorem op_eq : OpR X (compareOp .Eq) rEq := by
  intro pins s σ H x y v u Q I rx ry h
  obtain ⟨hs, q⟩ := h
  cases x with
  | non =>
    cases rx
    cases y with
    | non => cases ry; exact PySem.EqNone.eq_none_none (fin_bl I q (by simp))
    | bl j => cases ry; exact PySem.EqNone.eq_none_bool (fin_bl I q (by simp))
    | int j => obtain ⟨t', rfl⟩ := ry; exact PySem.EqNone.eq_none_int (fin_bl I q (by simp))
    | str j => obtain ⟨t', rfl⟩ := ry; exact PySem.EqNone.eq_none_str (fin_bl I q (by simp))
    | _ => exact absurd (show false = true from hs) Bool.false_ne_true
  | bl i =>
    cases rx
    cases y with
    | non => cases ry; exact PySem.EqNone.eq_bool_none (fin_bl I q (by simp))
    | bl j => cases ry; exact eq_bool (fin_bl I q dec_bl)
    | str j => obtain ⟨t', rfl⟩ := ry; exact PySem.EqMixed.eq_bool_str (fin_bl I q (by simp))
    | _ => exact absurd (show false = true from hs) Bool.false_ne_true
  | int i =>
    obtain ⟨t, rfl⟩ := rx
    cases y with
    | non => cases ry; exact PySem.EqNone.eq_int_none (fin_bl I q (by simp))
    | int j => obtain ⟨t', rfl⟩ := ry; exact eq_int (fin_bl I q dec_int)
    | str j => obtain ⟨t', rfl⟩ := ry; exact PySem.EqMixed.eq_int_str (fin_bl I q (by simp))
    | _ => exact absurd (show false = true from hs) Bool.false_ne_true
  | str i =>
    obtain ⟨t, rfl⟩ := rx
    cases y with
    | non => cases ry; exact PySem.EqNone.eq_str_none (fin_bl I q (by simp))
    | bl j => cases ry; exact PySem.EqMixed.eq_str_bool (fin_bl I q (by simp))
    | int j => obtain ⟨t', rfl⟩ := ry; exact PySem.EqMixed.eq_str_int (fin_bl I q (by simp))
    | str j => obtain ⟨t', rfl⟩ := ry; exact eq_str (fin_bl I q dec_str)
    | _ => exact absurd (show false = true from hs) Bool.false_ne_true
  | byt i =>
    obtain ⟨t, rfl⟩ := rx
    cases y with
    | byt j => obtain ⟨t', rfl⟩ := ry; exact PySem.W.eq_bytes (fin_bl I q dec_byt)
    | _ => exact absurd (show false = true from hs) Bool.false_ne_true
  | _ => cases y <;> exact absurd (show false = true from hs) Bool.false_ne_true
theorem op_ne : OpR X (compareOp .NotEq) rNe := by
  intro pins s σ H x y v u Q I rx ry h
  obtain ⟨hs, q⟩ := h
  cases x with
  | non =>
    cases rx
    cases y with
    | non => cases ry; exact PySem.EqNone.ne_none_none (fin_bl I q (by simp))
    | bl j => cases ry; exact PySem.EqNone.ne_none_bool (fin_bl I q (by simp))
    | int j => obtain ⟨t', rfl⟩ := ry; exact PySem.EqNone.ne_none_int (fin_bl I q (by simp))
    | str j => obtain ⟨t', rfl⟩ := ry; exact PySem.EqNone.ne_none_str (fin_bl I q (by simp))
    | _ => exact absurd (show false = true from hs) Bool.false_ne_true
  | bl i =>
    cases rx
    cases y with
    | non => cases ry; exact PySem.EqNone.ne_bool_none (fin_bl I q (by simp))
    | bl j => cases ry; exact ne_bool (fin_bl I q (congrArg not dec_bl))
    | str j => obtain ⟨t', rfl⟩ := ry; exact PySem.EqMixed.ne_bool_str (fin_bl I q (by simp))
    | _ => exact absurd (show false = true from hs) Bool.false_ne_true
  | int i =>
    obtain ⟨t, rfl⟩ := rx
    cases y with
    | non => cases ry; exact PySem.EqNone.ne_int_none (fin_bl I q (by simp))
    | int j => obtain ⟨t', rfl⟩ := ry; exact ne_int (fin_bl I q (congrArg not dec_int))
    | str j => obtain ⟨t', rfl⟩ := ry; exact PySem.EqMixed.ne_int_str (fin_bl I q (by simp))
    | _ => exact absurd (show false = true from hs) Bool.false_ne_true
  | str i =>
    obtain ⟨t, rfl⟩ := rx
    cases y with
    | non => cases ry; exact PySem.EqNone.ne_str_none (fin_bl I q (by simp))
    | bl j => cases ry; exact PySem.EqMixed.ne_str_bool (fin_bl I q (by simp))
    | int j => obtain ⟨t', rfl⟩ := ry; exact PySem.EqMixed.ne_str_int (fin_bl I q (by simp))
    | str j => obtain ⟨t', rfl⟩ := ry; exact ne_str (fin_bl I q (congrArg not dec_str))
    | _ => exact absurd (show false = true from hs) Bool.false_ne_true
  | byt i =>
    obtain ⟨t, rfl⟩ := rx
    cases y with
    | byt j => obtain ⟨t', rfl⟩ := ry; exact PySem.W.ne_bytes (fin_bl I q (congrArg not dec_byt))
    | _ => exact absurd (show false = true from hs) Bool.false_ne_true
  | _ => cases y <;> exact absurd (show false = true from hs) Bool.false_ne_true
theorem op_lt : OpR X (compareOp .Lt) (rI0 fun i j => .bl (decide (i < j))) := opB0 fun _ _ _ _ _ _ _ q => lt_int q
theorem op_le : OpR X (compareOp .LtE) (rI0 fun i j => .bl (decide (i ≤ j))) := opB0 fun _ _ _ _ _ _ _ q => le_int q
theorem op_gt : OpR X (compareOp .Gt) (rI0 fun i j => .bl (decide (j < i))) := opB0 fun _ _ _ _ _ _ _ q => gt_int q
theorem op_ge : OpR X (compareOp .GtE) (rI0 fun i j => .bl (decide (j ≤ i))) := opB0 fun _ _ _ _ _ _ _ q => ge_int q
theorem op_lt_str : OpR X (compareOp .Lt) (fun x y H Q => ∃ i j, x = .str i ∧ y = .str j ∧ Q (.bl (decide (i.cps.toList < j.cps.toList))) H) := by
  intro pins s σ H x y v u Q I rx ry h
  obtain ⟨i, j, rfl, rfl, q⟩ := h
  obtain ⟨t, rfl⟩ := rx
  obtain ⟨t', rfl⟩ := ry
  exact lt_str (fin_bl I q rfl)
theorem op_in_str : OpR X (compareOp .In) (fun x y H Q => ∃ i j, x = .str i ∧ y = .str j ∧ Q (.bl (!(Builtin.Str.occurrences j i 0 j.length 1).isEmpty)) H) := by
  intro pins s σ H x y v u Q I rx ry h
  obtain ⟨i, j, rfl, rfl, q⟩ := h
  obtain ⟨t, rfl⟩ := rx
  obtain ⟨t', rfl⟩ := ry
  exact in_str (fin_bl I q rfl)
theorem nomark (b : Expr) {op : CmpOp} (h : op ≠ .In := by decide) (h2 : op ≠ .NotIn := by decide) : behindInMarks op b = false := by
  have e1 : (op == CmpOp.In) = false := by cases op <;> first | rfl | exact absurd rfl h
  have e2 : (op == CmpOp.NotIn) = false := by cases op <;> first | rfl | exact absurd rfl h2
  cases b <;> simp [behindInMarks, e1, e2]
theorem pe_cmpR {op : CmpOp} {r : R2} (ho : OpR X (compareOp op) r) (ha : PE X a ta) (hb : PE X b tb) (hm : behindInMarks op b = false) : PE X (.Compare a [op] [b] pos) (tOp r ta tb) := by
  intro pins s σ H Q I h
  exact wpAny_Compare1 (binT ha hb I h fun v u s2 x y H2 I2 rx ry q => ho pins s2 σ H2 x y v u Q I2 rx ry q) hm
def tTest (t : TE) : TT := fun σ H Q => t σ H fun x H' => ∃ k, x = .bl k ∧ Q k H'
theorem pt_cmpR {op : CmpOp} {r : R2} (ho : OpR X (compareOp op) r) (ha : PE X a ta) (hb : PE X b tb) (hm : behindInMarks op b = false) : PT X (.Compare a [op] [b] pos) (tTest (tOp r ta tb)) := by
  intro pins s σ H Q I h
  refine wpAny_isTrue_Compare1 (thn (ha pins s σ H _ I h) fun v s1 ⟨x, H1, I1, r1, q1⟩ => thn (hb pins s1 σ H1 _ I1 q1) fun u s2 ⟨y, H2, I2, r2, q2⟩ =>
    thn (ho pins s2 σ H2 x y v u _ I2 r1 r2 q2) fun c s3 ⟨z, H3, I3, r3, k, e, q3⟩ => ?_) hm
  subst e
  cases r3
  exact wpAny_truthy_bool ⟨H3, I3, q3⟩
def tChain (r r' : R2) (ta tb tc : TE) : TE := fun σ H Q => ta σ H fun x H1 => tb σ H1 fun y H2 => r x y H2 fun z H3 => ∃ k, z = .bl k ∧
  (if k = true then tc σ H3 fun w' H4 => r' y w' H4 Q else Q (.bl false) H3)
theorem pe_chain {op op' : CmpOp} {r r' : R2} (ho : OpR X (compareOp op) r) (ho' : OpR X (compareOp op') r') (ha : PE X a ta) (hb : PE X b tb) (hc : PE X c tc)
    (hm : lastMarks [op, op'] [b, c] = false := by with_unfolding_all rfl) : PE X (.Compare a [op, op'] [b, c] pos) (tChain r r' ta tb tc) := by
  intro pins s σ H Q I h
  refine Compare_chain (thn (ha pins s σ H _ I h) fun v s1 ⟨x, H1, I1, r1, q1⟩ => chain_link (thn (hb pins s1 σ H1 _ I1 q1) fun u s2 ⟨y, H2, I2, r2, q2⟩ =>
    thn (ho pins s2 σ H2 x y v u _ I2 r1 r2 q2) fun d s3 ⟨z, H3, I3, r3, k, e, q3⟩ => ?_)) hm
  subst e
  cases r3
  refine wpAny_truthy_bool ?_
  cases k with
  | false => exact ite_ff ⟨.bl false, H3, I3, rfl, q3⟩
  | true => exact ite_tt (chain_last (thn (hc pins s3 σ H3 _ I3 q3) fun w' s4 ⟨z', H4, I4, r4, q4⟩ => ho' pins s4 σ H4 y z' u w' Q I4 r2 r4 q4))
def TruV (K : PySem.W.Frag) (x : V) (H : Hp) (k : Bool) : Prop :=
  match x with
  | .non => k = false
  | .bl b => k = b
  | .int i => k = (i != 0)
  | .str y => y.length ≤ sizeLine ∧ k = ((y.length : Int) != 0)
  | .byt y => y.size ≤ sizeLine ∧ k = ((y.size : Int) != 0)
  | .ref p => (∃ xs, SqL K H p xs ∧ k = !xs.isEmpty) ∨ (∃ xs, SqT K H p xs ∧ k = !xs.isEmpty) ∨ ∃ kvs, H p = some (.dK kvs) ∧ k = !kvs.isEmpty
  | _ => False
theorem isEmpty_kv {κ : Type} {kvs : List (κ × V)} {vs : List (κ × Value)} (r : KV kvs vs) : (!vs.isEmpty) = !kvs.isEmpty := by
  cases r <;> rfl
theorem isEmpty_of {xs : List V} {its : List Value} (r : Vals xs its) : (!its.toArray.isEmpty) = !xs.isEmpty := by
  cases r <;> simp
theorem line63 : (sizeLine : Nat) < 2 ^ 63 := by rw [sizeLine_eq]; decide
theorem tru_ok : TruR X (fun x H Q => ∃ k, TruV X.K x H k ∧ Q k H) := by
  intro pins s σ H x v Q I rx h
  obtain ⟨k, e, q⟩ := h
  have hl := line63
  have hs : sizeLine = 16777216 := sizeLine_eq
  cases x with
  | non =>
    cases rx
    have e' : k = false := e
    subst e'
    exact truthy_none ⟨H, I, q⟩
  | bl b =>
    cases rx
    have e' : k = b := e
    subst e'
    exact wpAny_truthy_bool ⟨H, I, q⟩
  | int i =>
    obtain ⟨t, rfl⟩ := rx
    have e' : k = (i != 0) := e
    subst e'
    exact PySem.P.truthy_int ⟨H, I, q⟩
  | str y =>
    obtain ⟨t, rfl⟩ := rx
    obtain ⟨hy, e'⟩ : y.length ≤ sizeLine ∧ k = ((y.length : Int) != 0) := e
    subst e'
    exact PySem.P.truthy_str (by omega) ⟨H, I.tok _, q⟩
  | byt y =>
    obtain ⟨t, rfl⟩ := rx
    obtain ⟨hy, e'⟩ : y.size ≤ sizeLine ∧ k = ((y.size : Int) != 0) := e
    subst e'
    exact PySem.W.truthy_bytes (by omega) ⟨H, I.tok _, q⟩
  | ref p =>
    cases rx
    have e' : (∃ xs, SqL X.K H p xs ∧ k = !xs.isEmpty) ∨ (∃ xs, SqT X.K H p xs ∧ k = !xs.isEmpty) ∨ ∃ kvs, H p = some (.dK kvs) ∧ k = !kvs.isEmpty := e
    rcases e' with ⟨xs, hx, e'⟩ | ⟨xs, hx, e'⟩ | ⟨kvs, hx, e'⟩
    · subst e'
      obtain ⟨its, r, pl, hz⟩ := I.list hx
      have hlen := r.length
      exact wpAny_truthy_list pl.isList (by simp only [List.size_toArray]; omega) ⟨H, I.tok _, by rw [isEmpty_of r]; exact q⟩
    · subst e'
      obtain ⟨its, r, pl, hz⟩ := I.tuple hx
      have hlen := r.length
      exact truthy_tuple pl (by simp only [List.size_toArray]; omega) ⟨H, I.tok _, by rw [isEmpty_of r]; exact q⟩
    · subst e'
      obtain ⟨hz, hS, vs, r, m⟩ : kvs.length ≤ sizeLine ∧ (p == sysModules) = false ∧ ∃ vs, KV kvs vs ∧ s.heap.DictOf (mixKind X.prog X.w) p vs := I.hok p _ hx
      have hlen : kvs.length = vs.length := Paired.length r
      exact wpAny_truthy_dict hS m (by omega) ⟨H, I.tok _, by rw [isEmpty_kv r]; exact q⟩
  | _ => exact (show False from e).elim
theorem op_add_str : OpR X (binaryOp .Add) (fun x y H Q => ∃ i j, x = .str i ∧ y = .str j ∧ i.length + j.length ≤ sizeLine ∧ Q (.str (i ++ j)) H) := by
  intro pins s σ H x y v u Q I rx ry h
  obtain ⟨i, j, rfl, rfl, hz, q⟩ := h
  obtain ⟨t, rfl⟩ := rx
  obtain ⟨t', rfl⟩ := ry
  exact add_str (fun t' tk => ⟨.str (i ++ j), H, I.tok _, ⟨_, rfl⟩, q⟩) hz
theorem vals1 {x : V} {us : List Value} (r : Vals [x] us) : ∃ u, us = [u] ∧ RelV x u := by
  cases r with
  | cons r1 r2 => cases r2; exact ⟨_, rfl, r1⟩
theorem vals2 {x y : V} {us : List Value} (r : Vals [x, y] us) : ∃ u w', us = [u, w'] ∧ RelV x u ∧ RelV y w' := by
  cases r with
  | cons r1 r2 =>
    cases r2 with
    | cons r3 r4 => cases r4; exact ⟨_, _, rfl, r1, r3⟩
theorem call_max2 (hc : X.calm = true) : CallR X (.builtin "max") (fun xs H Q => ∃ i j, xs = [.int i, .int j] ∧ Q (.int (if j > i then j else i)) H) := by
  intro pins s σ H xs us Q I r h
  obtain ⟨i, j, rfl, q⟩ := h
  obtain ⟨u, w', rfl, ⟨t, rfl⟩, ⟨t', rfl⟩⟩ := vals2 r
  refine max_two_ints (I.ok.hd hc) fun h' tk k => ⟨_, H, I.kept k, ?_, q⟩
  by_cases hj : j > i
  · rw [if_pos hj, if_pos hj]; exact ⟨_, rfl⟩
  · rw [if_neg hj, if_neg hj]; exact ⟨_, rfl⟩
theorem call_int1 : CallR X (.type "int") (fun xs H Q => (∃ i, xs = [.int i] ∧ Q (.int i) H) ∨ ∃ k, xs = [.bl k] ∧ Q (.int (if k then 1 else 0)) H) := by
  intro pins s σ H xs us Q I r h
  rcases h with ⟨i, rfl, q⟩ | ⟨k, rfl, q⟩
  · obtain ⟨u, rfl, t, rfl⟩ := vals1 r
    exact call_int_int ⟨.int i, H, I, ⟨_, rfl⟩, q⟩
  · obtain ⟨u, rfl, r1⟩ := vals1 r
    cases r1
    exact call_int_bool ⟨.int (if k then 1 else 0), H, I.tok _, ⟨_, rfl⟩, q⟩
end
end L2
namespace L2
open PySem PySem.Spec PyProof.Rows
structure ObjM (h : Heap) (x dx C : Addr) (mA : Str → Option Value) : Prop where
  obj : h.get? x = some (PySem.W.instObj C dx)
  ns : h.Ns1 dx mA
  ne : dx ≠ x
theorem lookIn_ns {h : Heap} {dx : Addr} {mA : Str → Option Value} (n : h.Ns1 dx mA) : ∃ od, h.get? dx = some od ∧ ∀ name, PySem.W.lookIn name od = some (mA name) := by
  obtain ⟨o, es, ep, ho, hd, hk, _, hm⟩ := n
  refine ⟨o, ho, fun name => ?_⟩
  have e := hm name
  unfold nsFind findBy at e
  rw [← Array.find?_toList] at e
  unfold PySem.W.lookIn
  rw [hd]
  dsimp only
  split
  · rename_i y q
    rw [q] at e
    exact congrArg some e
  · rename_i q
    rw [q] at e
    have a : es.toList.any (·.refKey) = false := by
      rw [List.any_eq_false]
      intro y hy
      obtain ⟨z, t, hkey⟩ := hk y (Array.mem_toList_iff.mp hy)
      simp [DictEntry.refKey, hkey]
    have a' : ¬ es.toList.any (·.refKey) = true := by rw [a]; exact Bool.false_ne_true
    rw [if_neg a']
    exact congrArg some e
theorem ObjM.look {h : Heap} {x dx C : Addr} {mA : Str → Option Value} (I : ObjM h x dx C mA) : ∃ od, PySem.W.InstAt h x (PySem.W.instObj C dx) C (some od) ∧ ∀ name, PySem.W.lookIn name od = some (mA name) :=
  let ⟨od, ho, hl⟩ := lookIn_ns I.ns
  ⟨od, ⟨I.obj, rfl, rfl, ho⟩, hl⟩
section
variable {prog : Program} {w : World} {A : Around} {E : Value → Shared → Prop} {s : Shared} {K : PySem.W.Frag} {x dx C f : Addr} {mA : Str → Option Value} {name : Str} {v : Value}
theorem get_map {expr : Bool} {Q : Value → Shared → Prop} (X : K.In s.heap) (I : ObjM s.heap x dx C mA) (hg : PySem.W.plainGet K C name = true) (hh : PySem.W.hasDictIn K C = true)
    (ha : PySem.W.findIn K (.ref C) name = some none) (hv : mA name = some v) (hv' : PySem.W.handedIn v = true) (h : Q v { s with toks := s.toks + 1 }) :
    wpAny (model prog w) A (getAttr (.ref x) name expr) Q E s := by
  obtain ⟨od, J, hl⟩ := I.look
  exact PySem.W.get_value X J (PySem.W.plainGet_of hg).1 (PySem.W.findObj_own hh ha rfl (by rw [hl, hv])) hv' h
theorem get_meth {pl : Sem Bool} {Q : Value × List Value → Shared → Prop} (X : K.In s.heap) (I : ObjM s.heap x dx C mA) (hg : PySem.W.plainGet K C name = true)
    (hf : PySem.W.findIn K (.ref C) name = some (some (.ref f))) (ht : PySem.W.isFn K (.ref f) = true) (hv : mA name = none) (h : Q (.ref f, [.ref x]) s) :
    wpAny (model prog w) A (getMethod (.ref x) name pl) Q E s := by
  obtain ⟨od, J, hl⟩ := I.look
  exact PySem.W.method_fn X J (PySem.W.plainGet_of hg).1 (PySem.W.plainGet_of hg).2 hf (beq_iff_eq.mp ht) (by show (PySem.W.lookIn name od).map (·.isSome) = some false; rw [hl, hv]; rfl) h
theorem set_map {ns : List Str} {Q : Unit → Shared → Prop} (X : K.In s.heap) (I : ObjM s.heap x dx C mA)
    (hs : PySem.W.findIn K (.ref C) "__setattr__" = some (some (.builtin "object.__setattr__"))) (hp : PySem.W.plainOver K C = true) (ht : PySem.W.takerIn K C name = some none) (hh : PySem.W.hasDictIn K C = true)
    (hw : PySem.Within mA ns) (hsz : ns.length ≤ sizeLine)
    (h : ∀ h', ObjM h' x dx C (fun y => if y = name then some v else mA y) → Heap.SameBut dx s.heap h' → Q () { s with heap := h', toks := s.toks + 2 }) :
    wpAny (model prog w) A (setAttr (.ref x) name v) Q E s := by
  obtain ⟨od, J, hl⟩ := I.look
  refine PySem.W.set_plain X J hs (PySem.W.osa_open (s := { s with toks := s.toks + 1 }) (r := none) X J hp ht fun b => ?_)
  obtain ⟨cd, hc, hd'⟩ := PySem.W.any_some hh
  have hx : s.heap.get? x = some ⟨.ref C, some dx, .plain, #[]⟩ := I.obj
  refine wpAny_bind (wpAny_pure (wpAny_bind (wpAny_bind (wpAny_loadPart hx (wpAny_bind (PySem.W.Looks.here (s := { s with toks := s.toks + 1 }) (PySem.W.looks_clsIn X hc) ?_))))))
  rw [hd']
  refine wpAny_pure (a := some dx) (wpAny_bind (wpAny_pure (wpAny_bind ?_)))
  refine wpAny_nsSet1 (s := { s with toks := s.toks + 1 }) I.ns fun h' hn2 hs2 => ?_
  obtain ⟨oD, esD, epD, hoD, hdD, hcD⟩ := hn2.count (PySem.Within.cons name v hw)
  refine wpAny_bind (wpAny_lookBehind hoD (by rw [hdD]; exact pastItsLine_dict (Nat.le_trans hcD (by rw [List.length_cons]; omega))) ?_)
  exact wpAny_pure (h _ ⟨(hs2.2 _ (Ne.symm I.ne)).trans I.obj, hn2, I.ne⟩ hs2)
theorem make_map {R : Result → Shared → Prop} {vs : List Value} {kw : List (Str × Value)} (X : K.In s.heap) (hm : PySem.W.makesIn K C = true)
    (hi : PySem.W.findIn K (.ref C) "__init__" = some (some (.ref f))) (hf : PySem.W.typeIn K (.ref f) = some (.type "function"))
    (h : codeAny (model prog w) (A.under (.builtin "type.__call__" ⟨.ref C :: vs, kw⟩)) (.call (.ref f) ⟨.ref (s.heap.objs.size + 1) :: vs, kw⟩) (PySem.W.InitBack (s.heap.objs.size + 1) R)
      { s with heap := (s.heap.push PySem.W.emptyDict).push (PySem.W.instObj C s.heap.objs.size) }) :
    codeAny (model prog w) A (.call (.ref C) ⟨vs, kw⟩) R s := by
  obtain ⟨hh, g, d, t, os⟩ := s
  exact PySem.W.make_core (PySem.W.makes_of X hm) (PySem.W.looks_findIn X hi) (fun self => PySem.W.bind_fn X self hf) (.inl rfl) h
end
def putF (f : Str) (v : V) : List (Str × V) → List (Str × V)
  | [] => [(f, v)]
  | (g, x) :: r => if g = f then (g, v) :: r else (g, x) :: putF f v r
theorem lookup_putF (f g : Str) (v : V) : ∀ fs : List (Str × V), (putF f v fs).lookup g = if g = f then some v else fs.lookup g
  | [] => by
    show List.lookup g [(f, v)] = _
    by_cases h : g = f
    · have hb : (g == f) = true := beq_iff_eq.mpr h
      simp only [List.lookup, hb, if_pos h]
    · have hb : (g == f) = false := beq_eq_false_iff_ne.mpr h
      simp only [List.lookup, hb, if_neg h]
  | (k, x) :: r => by
    have ih := lookup_putF f g v r
    rw [show putF f v ((k, x) :: r) = (if k = f then (k, v) :: r else (k, x) :: putF f v r) from rfl]
    by_cases hk : k = f
    · rw [if_pos hk]
      by_cases h : g = k
      · have hb : (g == k) = true := beq_iff_eq.mpr h
        simp only [List.lookup, hb, if_pos (h.trans hk)]
      · have hb : (g == k) = false := beq_eq_false_iff_ne.mpr h
        simp only [List.lookup, hb, if_neg (fun e : g = f => h (e.trans hk.symm))]
    · rw [if_neg hk]
      by_cases h : g = k
      · have hb : (g == k) = true := beq_iff_eq.mpr h
        simp only [List.lookup, hb, if_neg (fun e : g = f => hk (h.symm.trans e))]
      · have hb : (g == k) = false := beq_eq_false_iff_ne.mpr h
        simp only [List.lookup, hb]
        exact ih
theorem keys_putF (f : Str) (v : V) : ∀ fs : List (Str × V), f ∈ (putF f v fs).map (·.1) ∧ ∀ g, g ∈ fs.map (·.1) → g ∈ (putF f v fs).map (·.1)
  | [] => ⟨by simp [putF], fun g h => by simp at h⟩
  | (k, x) :: r => by
    obtain ⟨i1, i2⟩ := keys_putF f v r
    rw [show putF f v ((k, x) :: r) = (if k = f then (k, v) :: r else (k, x) :: putF f v r) from rfl]
    by_cases hk : k = f
    · rw [if_pos hk]
      subst hk
      exact ⟨by simp, fun g h => by simpa using h⟩
    · rw [if_neg hk]
      refine ⟨?_, fun g h => ?_⟩
      · rw [List.map_cons]
        exact List.mem_cons_of_mem _ i1
      · rw [List.map_cons] at h ⊢
        rcases List.mem_cons.mp h with e | e
        · exact List.mem_cons.mpr (.inl e)
        · exact List.mem_cons_of_mem _ (i2 g e)
theorem length_putF (f : Str) (v : V) : ∀ fs : List (Str × V), (putF f v fs).length ≤ fs.length + 1
  | [] => by simp [putF]
  | (k, x) :: r => by
    have ih := length_putF f v r
    rw [show putF f v ((k, x) :: r) = (if k = f then (k, v) :: r else (k, x) :: putF f v r) from rfl]
    by_cases hk : k = f
    · rw [if_pos hk, List.length_cons, List.length_cons]; omega
    · rw [if_neg hk, List.length_cons, List.length_cons]; omega
theorem RelO.some_of {v : V} {o : Option Value} (r : RelO (some v) o) : ∃ u, o = some u ∧ RelV v u := by
  cases o with
  | none => exact (show False from r).elim
  | some u => exact ⟨u, rfl, r⟩
theorem RelO.none_of {o : Option Value} (r : RelO none o) : o = none := by
  cases o with
  | none => rfl
  | some u => exact (show False from r).elim
theorem handed_of {v : V} {u : Value} (r : RelV v u) : PySem.W.handedIn u = true := by
  cases v with
  | non => cases (show u = Value.none from r); rfl
  | bl b => cases (show u = Value.bool b from r); rfl
  | int i => obtain ⟨t, e⟩ := (show ∃ t, u = Value.int i t from r); cases e; rfl
  | str x => obtain ⟨t, e⟩ := (show ∃ t, u = Value.str x t from r); cases e; rfl
  | byt b => obtain ⟨t, e⟩ := (show ∃ t, u = Value.bytes b t from r); cases e; rfl
  | flt b => obtain ⟨t, e⟩ := (show ∃ t, u = Value.float b t from r); cases e; rfl
  | ref a => cases (show u = Value.ref a from r); rfl
  | ty n => cases (show u = Value.type n from r); rfl
section
variable {P : Program} {w : World} {H H' : Hp} {h h' : Heap} {a C dx : Addr} {fs fs' : List (Str × V)}
theorem ins_get (hok : HOk P w H h) (e : H a = some (.ins C dx fs)) : ∃ mA, ObjM h a dx C mA ∧ (∀ f, RelO (fs.lookup f) (mA f)) ∧ PySem.Within mA (fs.map (·.1)) ∧ fs.length ≤ 1000 ∧ H dx = some (.own a) := by
  obtain ⟨d, z, ne, ob, mA, n, r, q⟩ := (show ObjOk P w H h a (.ins C dx fs) from hok a _ e)
  exact ⟨mA, ⟨ob, n, ne⟩, r, q, z, d⟩
end
structure Cls (K : PySem.W.Frag) (C : Addr) : Prop where
  pg : PySem.W.plainGet K C Str.empty = true
  hd : PySem.W.hasDictIn K C = true
  po : PySem.W.plainOver K C = true
  sa : PySem.W.findIn K (.ref C) "__setattr__" = some (some (.builtin "object.__setattr__"))
theorem Cls.get {K : PySem.W.Frag} {C : Addr} (c : Cls K C) (f : Str) : PySem.W.plainGet K C f = true := c.pg
def NoAttr (K : PySem.W.Frag) (C : Addr) (f : Str) : Prop := PySem.W.findIn K (.ref C) f = some none
theorem NoAttr.taker {K : PySem.W.Frag} {C : Addr} {f : Str} (n : NoAttr K C f) : PySem.W.takerIn K C f = some none := by
  unfold PySem.W.takerIn
  rw [show PySem.W.findIn K (.ref C) f = some none from n]
  rfl
structure Meth (K : PySem.W.Frag) (C : Addr) (m : Str) (f : Addr) : Prop where
  at_ : PySem.W.findIn K (.ref C) m = some (some (.ref f))
  fn : PySem.W.isFn K (.ref f) = true
  kp : PySem.W.keepIn K (.ref f) = true
section
variable {X : Cx} {pins : List (Addr × Obj)} {σ : St} {H : Hp} {s : Shared} {a C dx : Addr} {fs : List (Str × V)} {f : Str} {v : V} {A : Around} {E : Value → Shared → Prop}
theorem getattr_ok {b : Bool} {Q : Value → Shared → Prop} (I : Inv X pins σ H s) (e : H a = some (.ins C dx fs)) (c : Cls X.K C) (n : NoAttr X.K C f) (l : fs.lookup f = some v)
    (h : ∀ u s', Inv X pins σ H s' → RelV v u → Q u s') : wpAny (model X.prog X.w) A (getAttr (.ref a) f b) Q E s := by
  obtain ⟨mA, O, r, _, _, _⟩ := ins_get I.hok e
  obtain ⟨u, hu, ru⟩ := RelO.some_of (v := v) (o := mA f) (by rw [← l]; exact r f)
  exact get_map I.kIn O (c.get f) c.hd n hu (handed_of ru) (h u _ (I.tok _) ru)
theorem getmeth_ok {m : Str} {g : Addr} {pl : Sem Bool} {Q : Value × List Value → Shared → Prop} (I : Inv X pins σ H s) (e : H a = some (.ins C dx fs)) (c : Cls X.K C) (k : Meth X.K C m g) (l : fs.lookup m = none)
    (h : Q (.ref g, [.ref a]) s) : wpAny (model X.prog X.w) A (getMethod (.ref a) m pl) Q E s := by
  obtain ⟨mA, O, r, _, _, _⟩ := ins_get I.hok e
  have hn : mA m = none := RelO.none_of (by rw [← l]; exact r m)
  exact get_meth I.kIn O (c.get m) k.at_ k.fn hn h
theorem setattr_ok {y : V} {u : Value} {Q : Unit → Shared → Prop} (I : Inv X pins σ H s) (e : H a = some (.ins C dx fs)) (c : Cls X.K C) (n : NoAttr X.K C f) (hl : fs.length < 1000) (ry : RelV y u)
    (h : ∀ s', Inv X pins σ (upd H a (.ins C dx (putF f y fs))) s' → Q () s') : wpAny (model X.prog X.w) A (setAttr (.ref a) f u) Q E s := by
  obtain ⟨mA, O, r, wi, _, ho⟩ := ins_get I.hok e
  have hz : (fs.map (·.1)).length ≤ sizeLine := by rw [List.length_map, sizeLine_eq]; omega
  refine set_map I.kIn O c.sa c.po n.taker c.hd wi hz fun h' O' sb => h _ ?_
  have hd : ∃ o, h'.get? dx = some o := let ⟨o, _, _, e', _⟩ := O'.ns; ⟨o, e'⟩
  refine I.write (x := a) (e := dx) (by rw [e]; exact True.intro) (.inr ho) (fun b q hb z => (sb.2 b hb).trans z) hd ?_
  refine ⟨by rw [upd_ne O.ne]; exact ho, ?_, O.ne, O'.obj, _, O'.ns, fun g => ?_, fun g hg => ?_⟩
  · have := length_putF f y fs; omega
  · show RelO ((putF f y fs).lookup g) (if g = f then some u else mA g)
    rw [lookup_putF]
    by_cases q : g = f
    · rw [if_pos q, if_pos q]; exact ry
    · rw [if_neg q, if_neg q]; exact r g
  · by_cases q : g = f
    · rw [q]; exact (keys_putF f y fs).1
    · refine (keys_putF f y fs).2 g (wi g fun z => hg ?_)
      show (if g = f then some u else mA g) = none
      rw [if_neg q]; exact z
theorem Inv.made (I : Inv X pins σ H s) : Inv X pins σ (upd (upd H s.heap.objs.size (.own (s.heap.objs.size + 1))) (s.heap.objs.size + 1) (.ins C s.heap.objs.size []))
    { s with heap := (s.heap.push PySem.W.emptyDict).push (PySem.W.instObj C s.heap.objs.size) } := by
  have e1 : (s.heap.push PySem.W.emptyDict).get? s.heap.objs.size = some PySem.W.emptyDict := Heap.get?_push_size s.heap rfl
  have e2 : ((s.heap.push PySem.W.emptyDict).push (PySem.W.instObj C s.heap.objs.size)).get? (s.heap.objs.size + 1) = some (PySem.W.instObj C s.heap.objs.size) := by
    have := Heap.get?_push_size (s.heap.push PySem.W.emptyDict) (o := PySem.W.instObj C s.heap.objs.size) rfl
    rwa [Heap.size_push] at this
  have e3 : (s.heap.push PySem.W.emptyDict).Ns s.heap.objs.size (fun _ => none) := ⟨PySem.W.emptyDict, #[], _, e1, rfl, (fun e he => absurd he (by simp)), fun _ => rfl⟩
  have I1 := I.laid (a := s.heap.objs.size) (o := .own (s.heap.objs.size + 1)) (h' := s.heap.push PySem.W.emptyDict) (t' := s.toks) (fun b u q => Heap.get?_push_of_some _ q) (Nat.le_refl _) ⟨_, e1⟩
  refine I1.laid (a := s.heap.objs.size + 1) (o := .ins C s.heap.objs.size []) (t' := s.toks) (fun b u q => Heap.get?_push_of_some _ q) (Nat.le_of_eq (Heap.size_push _ _)) ?_
  have ne : s.heap.objs.size ≠ s.heap.objs.size + 1 := Nat.ne_of_lt (Nat.lt_succ_self _)
  refine ⟨by rw [upd_ne ne, upd_same], Nat.zero_le _, ne, e2, fun _ => none, (Heap.Ns1.of_empty e3).at fun o q => Heap.get?_push_of_some _ q, fun _ => True.intro, fun y hy => absurd rfl hy⟩
theorem attr_of {prog : Program} {w : World} {env : Env} {e : Expr} {f : Str} {pos : Pos} {s : Shared} {Q : Value → Shared → Prop} (hb : attributeBase e f env (eval e env) = eval e env)
    (h : wpAny (model prog w) A (eval e env) (fun o s₁ => wpAny (model prog w) A (getAttr o f true) Q E s₁) E s) : wpAny (model prog w) A (eval (.Attribute e f pos) env) Q E s :=
  Attribute_any_ h (by rw [arm_eval_Attribute, hb])
end
def tFld (K : PySem.W.Frag) (ta : TE) (f : Str) : TE := fun σ H Q => ta σ H fun x H1 => ∃ a C dx fs v, x = .ref a ∧ H1 a = some (.ins C dx fs) ∧ Cls K C ∧ NoAttr K C f ∧ fs.lookup f = some v ∧ Q v H1
def sFld (K : PySem.W.Frag) (ta tv : TE) (f : Str) : TS := fun D σ H => tv σ H fun y H1 => ta σ H1 fun x H2 => ∃ a C dx fs, x = .ref a ∧ H2 a = some (.ins C dx fs) ∧ Cls K C ∧ NoAttr K C f ∧ fs.length < 1000 ∧
  D.nx σ (upd H2 a (.ins C dx (putF f y fs)))
def InOp (X : Cx) (op : Operator) (rd : V → V → Hp → VK → Prop) : Prop :=
  ∀ (pins : List (Addr × Obj)) (s : Shared) (σ : St) (H : Hp) (x y : V) (u v : Value) (Q : VK), Inv X pins σ H s → RelV x u → RelV y v → rd x y H Q → wpAny (model X.prog X.w) X.A (inplaceOp op u v) (EP X pins σ Q) X.xe s
def sFldAug (K : PySem.W.Frag) (ta tv : TE) (rd : V → V → Hp → VK → Prop) (f : Str) : TS := fun D σ H => ta σ H fun x H1 => ∃ a C dx fs v, x = .ref a ∧ H1 a = some (.ins C dx fs) ∧ Cls K C ∧ NoAttr K C f ∧ fs.lookup f = some v ∧
  tv σ H1 fun y H2 => rd v y H2 fun z H3 => ∃ dx' fs', H3 a = some (.ins C dx' fs') ∧ fs'.length < 1000 ∧ D.nx σ (upd H3 a (.ins C dx' (putF f z fs')))
section
variable {X : Cx} {o e value : Expr} {f : Str} {pos pos' tpos : Pos} {ta tv : TE}
theorem pe_fld (he : PE X e ta) (hb : attributeBase e f X.env (eval e X.env) = eval e X.env) : PE X (.Attribute e f pos) (tFld X.K ta f) := by
  intro pins s σ H Q I h
  refine attr_of hb (thn (he pins s σ H _ I h) fun u s1 ⟨x, H1, I1, rx, a, C, dx, fs, v, ex, ea, c, n, l, q⟩ => ?_)
  subst ex
  obtain rfl : u = Value.ref a := rx
  exact getattr_ok I1 ea c n l fun u' s2 I2 ru => ⟨v, H1, I2, ru, q⟩
theorem ps_fld (ha : PE X o ta) (hv : PE X value tv) (hs : swapsWith value (some (.Attribute o f pos')) pos.line X.env = pure false) : PS X (.Assign [.Attribute o f pos'] value pos) (sFld X.K ta tv f) := by
  intro pins s σ H D I h
  refine plainObj_wpAny_Assign_Attribute (thn (hv pins s σ H _ I h) fun u s1 ⟨y, H1, I1, ry, q⟩ => thn (ha pins s1 σ H1 _ I1 q) fun ov s2 ⟨x, H2, I2, rx, a, C, dx, fs, ex, ea, c, n, l, q2⟩ => ?_) hs
  subst ex
  obtain rfl : ov = Value.ref a := rx
  exact setattr_ok I2 ea c n l ry fun s3 I3 => ⟨σ, _, I3, q2⟩
theorem ps_fldaug {op : Operator} {rd : V → V → Hp → VK → Prop} (ha : PE X o ta) (hv : PE X value tv) (hop : InOp X op rd) : PS X (.AugAssign (.Attribute o f tpos) op value pos) (sFldAug X.K ta tv rd f) := by
  intro pins s σ H D I h
  refine wpAny_AugAssign_AttributeAny (thn (ha pins s σ H _ I h) fun ov s1 ⟨x, H1, I1, rx, a, C, dx, fs, v, ex, ea, c, n, l, q⟩ => ?_)
  subst ex
  obtain rfl : ov = Value.ref a := rx
  refine getattr_ok I1 ea c n l fun u s2 I2 ru => thn (hv pins s2 σ H1 _ I2 q) fun w3 s3 ⟨y, H2, I3, ry, q3⟩ => thn (hop pins s3 σ H2 v y u w3 _ I3 ru ry q3) fun w4 s4 ⟨z, H3, I4, rz, dx', fs', ea', l', q4⟩ => ?_
  exact setattr_ok I4 ea' c n l' rz fun s5 I5 => ⟨σ, _, I5, q4⟩
def rAdd : V → V → Hp → VK → Prop := fun x y H Q => ∃ i j, x = .int i ∧ y = .int j ∧ Q (.int (i + j)) H
def rSub : V → V → Hp → VK → Prop := fun x y H Q => ∃ i j, x = .int i ∧ y = .int j ∧ Q (.int (i - j)) H
theorem in_add : InOp X .Add rAdd := by
  rintro pins s σ H x y u v Q I rx ry ⟨i, j, rfl, rfl, q⟩
  obtain ⟨t, rfl⟩ := (show ∃ t, u = Value.int i t from rx)
  obtain ⟨t', rfl⟩ := (show ∃ t', v = Value.int j t' from ry)
  exact PyProof.Rows.iadd_int ⟨.int (i + j), H, I.tok _, ⟨_, rfl⟩, q⟩
theorem in_sub : InOp X .Sub rSub := by
  rintro pins s σ H x y u v Q I rx ry ⟨i, j, rfl, rfl, q⟩
  obtain ⟨t, rfl⟩ := (show ∃ t, u = Value.int i t from rx)
  obtain ⟨t', rfl⟩ := (show ∃ t', v = Value.int j t' from ry)
  exact PyProof.Rows.isub_int ⟨.int (i - j), H, I.tok _, ⟨_, rfl⟩, q⟩
end
section
variable {X : Cx} {pins : List (Addr × Obj)} {σ : St} {H : Hp} {s : Shared} {A : Around} {E : Value → Shared → Prop} {Q : Value → Shared → Prop} {c : Value} {b : Bool}
inductive TyOf (K : PySem.W.Frag) (H : Hp) : V → Value → Prop where
  | non : TyOf K H .non (.type "NoneType")
  | bl (x : Bool) : TyOf K H (.bl x) (.type "bool")
  | int (i : Int) : TyOf K H (.int i) (.type "int")
  | str (x : Str) : TyOf K H (.str x) (.type "str")
  | flt (x : UInt64) : TyOf K H (.flt x) (.type "float")
  | lst {a : Addr} {xs : List V} (e : H a = some (.lst xs)) : TyOf K H (.ref a) (.type "list")
  | frz {a : Addr} {o : Obj} {xs : List V} (e : H a = some (.frz o (.lst xs))) : TyOf K H (.ref a) (.type "list")
  | tup {a : Addr} {xs : List V} (e : H a = some (.tup xs)) : TyOf K H (.ref a) (.type "tuple")
  | dK {a : Addr} {kvs : List (Key × V)} (e : H a = some (.dK kvs)) : TyOf K H (.ref a) (.type "dict")
  | dT {a : Addr} {kvs : List (List Key × V)} (e : H a = some (.dT kvs)) : TyOf K H (.ref a) (.type "dict")
  | ins {a C dx : Addr} {fs : List (Str × V)} (e : H a = some (.ins C dx fs)) (cl : Cls K C) (ha : PySem.W.findIn K (.ref C) "__class__" = some (some (.builtin "object.__class__")))
      (hn : PySem.W.specialIn K (.builtin "object.__class__") "__get__" = some (some (.builtin "getset_descriptor.__get__"))) (htk : PySem.W.takesIn K (.builtin "object.__class__") = some true)
      (hm : PySem.W.mroIn K C (.type "object") = some true) : TyOf K H (.ref a) (.ref C)
theorem isinst_ok {x : V} {u t : Value} (I : Inv X pins σ H s) (rx : RelV x u) (ty : TyOf X.K H x t) (e : PySem.W.kitOne X.K t c = some b) (h : ∀ tk, Q (.bool b) { s with toks := tk }) :
    wpAny (model X.prog X.w) A (call (.builtin "isinstance") [u, c]) Q E s := by
  cases ty with
  | non => cases (show u = Value.none from rx); exact PySem.W.kia_one PySem.W.kitx_none I.kIn True.intro e (fun z => nomatch z) h
  | bl y => cases (show u = Value.bool y from rx); exact PySem.W.kia_one PySem.W.kitx_bool I.kIn True.intro e (fun z => nomatch z) h
  | int i => obtain ⟨t, q⟩ := (show ∃ t, u = Value.int i t from rx); cases q; exact PySem.W.kia_one PySem.W.kitx_int I.kIn True.intro e (fun z => nomatch z) h
  | str y => obtain ⟨t, q⟩ := (show ∃ t, u = Value.str y t from rx); cases q; exact PySem.W.kia_one PySem.W.kitx_str I.kIn True.intro e (fun z => nomatch z) h
  | flt y => obtain ⟨t, q⟩ := (show ∃ t, u = Value.float y t from rx); cases q; exact PySem.W.kia_one PySem.W.kitx_float I.kIn True.intro e (fun z => nomatch z) h
  | @lst a xs ea =>
    cases (show u = Value.ref a from rx)
    obtain ⟨_, _, n, _, h1⟩ := (show ObjOk X.prog X.w H s.heap a (.lst xs) from I.hok a _ ea)
    exact PySem.W.kia_one PySem.W.kitx_list I.kIn ⟨_, h1, rfl⟩ e (fun z => nomatch z) h
  | @frz a ob xs ea =>
    cases (show u = Value.ref a from rx)
    obtain ⟨_, _, _, n, _, h1⟩ := (show ObjOk X.prog X.w H s.heap a (.frz ob (.lst xs)) from I.hok a _ ea)
    exact PySem.W.kia_one PySem.W.kitx_list I.kIn ⟨_, h1, rfl⟩ e (fun z => nomatch z) h
  | @tup a xs ea =>
    cases (show u = Value.ref a from rx)
    obtain ⟨_, _, _, p⟩ := (show ObjOk X.prog X.w H s.heap a (.tup xs) from I.hok a _ ea)
    obtain ⟨o, h1, h2, _⟩ := p
    exact PySem.W.kia_one PySem.W.kitx_tuple I.kIn ⟨o, h1, h2⟩ e (fun z => nomatch z) h
  | @dK a kvs ea =>
    cases (show u = Value.ref a from rx)
    obtain ⟨_, _, vs, _, p⟩ := (show ObjOk X.prog X.w H s.heap a (.dK kvs) from I.hok a _ ea)
    obtain ⟨o, es, ep, h1, h2, _⟩ := p
    exact PySem.W.kia_one PySem.W.kitx_dict I.kIn ⟨o, h1, h2.1⟩ e (fun z => nomatch z) h
  | @dT a kvs ea =>
    cases (show u = Value.ref a from rx)
    obtain ⟨_, _, xs, _, o, es, ep, h1, h2, _⟩ := (show ObjOk X.prog X.w H s.heap a (.dT kvs) from I.hok a _ ea)
    exact PySem.W.kia_one PySem.W.kitx_dict I.kIn ⟨o, h1, h2.1⟩ e (fun z => nomatch z) h
  | @ins a C dx fs ea cl ha hn htk hm =>
    cases (show u = Value.ref a from rx)
    obtain ⟨mA, O, _⟩ := ins_get I.hok ea
    obtain ⟨od, J, _⟩ := O.look
    exact PySem.W.kia_one (PySem.W.kitx_own (cl.get _) cl.hd ha hn htk hm) I.kIn J e (fun z => nomatch z) h
end
end L2
namespace L2
open PySem PySem.Spec PyProof.Rows
structure Room (k : Nat) (A : Around) : Prop where
  hd : A.handled = none
  dp : A.depth + 3 * k + 5 < recursionLimit
  un : A.units + 16 * k + 200 < cLine
  gd : A.guards = some []
theorem Room.mono {j k : Nat} {A : Around} (r : Room k A) (h : j ≤ k) : Room j A := ⟨r.hd, by have := r.dp; omega, by have := r.un; omega, r.gd⟩
theorem Room.deeper {k : Nat} {A : Around} (r : Room (k + 1) A) (env : Env) : Room k (A.deeper env) :=
  ⟨r.hd, by have := r.dp; show A.depth + 1 + 3 * k + 5 < _; omega, by have := r.un; show A.units + 3 + 16 * k + 200 < _; omega, r.gd⟩
theorem make_depth {A : Around} {C : Addr} {us : List Value} {kw : List (Str × Value)} : (A.under (.builtin "type.__call__" ⟨.ref C :: us, kw⟩)).depth = A.depth + 1 := by
  first | rfl | simp [Around.under, Code.weight, Code.isCreation, Code.isGuard, Code.isCaller, Code.frames, Code.isFrame, guardIds]
theorem make_units {A : Around} {C : Addr} {us : List Value} {kw : List (Str × Value)} : (A.under (.builtin "type.__call__" ⟨.ref C :: us, kw⟩)).units = A.units + 1 := by
  first | rfl | simp [Around.under, Code.cUnits, Code.frames, Code.isFrame]
theorem Room.make {k : Nat} {A : Around} (r : Room (k + 1) A) (C : Addr) (us : List Value) (kw : List (Str × Value)) : Room k (A.under (.builtin "type.__call__" ⟨.ref C :: us, kw⟩)) :=
  ⟨r.hd, by have := r.dp; rw [make_depth]; omega, by have := r.un; rw [make_units]; omega, by first | exact r.gd | (simpa [Around.under, Code.isGuard, guardIds] using r.gd)⟩
theorem Room.depth {k : Nat} {A : Around} (r : Room k A) : A.depth < recursionLimit := by have := r.dp; omega
theorem Room.units {k : Nat} {A : Around} (r : Room k A) : A.units + 64 < cLine := by have := r.un; omega
def tNil : TA := fun _ H Q => Q [] H
def tCons (ta : TE) (tr : TA) : TA := fun σ H Q => ta σ H fun x H1 => tr σ H1 fun xs H2 => Q (x :: xs) H2
section
variable {X : Cx} {e : Expr} {es : List Expr} {te : TE} {t : TA} {pos : Pos}
theorem pa_nil : PA X [] tNil := fun _ _ _ _ H Q I h => Calls.spliced_nil ⟨[], H, I, .nil, h⟩
theorem pa_cons (ha : PE X e te) (hr : PA X es t) (hs : starEach (e :: es) X.env = (false, eval e X.env) :: starEach es X.env := by rfl) : PA X (e :: es) (tCons te t) := by
  intro pos pins s σ H Q I h
  rw [hs]
  show wpAny _ _ (spliced ((false, eval e X.env) :: backTo pos (starEach es X.env))) _ _ s
  refine Calls.spliced_cons (thn (ha pins s σ H _ I h) fun u s1 ⟨x, H1, I1, r1, q1⟩ => ?_)
  exact thn (hr pos pins s1 σ H1 _ I1 q1) fun us s2 ⟨xs, H2, I2, r2, q2⟩ => ⟨x :: xs, H2, I2, .cons r1 r2, q2⟩
def tTup (t : TA) : TE := fun σ H Q => t σ H fun xs H1 => xs.length ≤ sizeLine ∧ ∀ p, H1 p = none → Q (.ref p) (upd H1 p (.tup xs))
def tLst (t : TA) : TE := fun σ H Q => t σ H fun xs H1 => xs.length ≤ sizeLine ∧ ∀ p, H1 p = none → Q (.ref p) (upd H1 p (.lst xs))
theorem pe_tup {x1} (h : PA X es t) : PE X (.Tuple es x1 pos) (tTup t) := by
  intro pins s σ H Q I hq
  refine wpAny_Tuple_spliced (thn (h pos pins s σ H _ I hq) fun us s1 ⟨xs, H1, I1, r, z, q⟩ => ⟨by rw [← r.length]; exact z, ?_⟩)
  have hf : H1 s1.heap.objs.size = none := I1.hok.fresh (Nat.le_refl _)
  refine ⟨.ref s1.heap.objs.size, upd H1 s1.heap.objs.size (.tup xs), I1.laid (t' := s1.toks) (fun b u e => Heap.get?_push_of_some _ e) (Nat.le_refl _) ?_, rfl, q _ hf⟩
  exact ⟨z, us, r, ⟨_, Heap.get?_push_size _ rfl, rfl, _, rfl⟩⟩
theorem pe_lst (h : PA X es t) : PE X (.List es pos) (tLst t) := by
  intro pins s σ H Q I hq
  refine wpAny_List_spliced (thn (h pos pins s σ H _ I hq) fun us s1 ⟨xs, H1, I1, r, z, q⟩ => ⟨by rw [← r.length]; exact z, ?_⟩)
  have hf : H1 s1.heap.objs.size = none := I1.hok.fresh (Nat.le_refl _)
  refine ⟨.ref s1.heap.objs.size, upd H1 s1.heap.objs.size (.lst xs), I1.laid (t' := s1.toks) (fun b u e => Heap.get?_push_of_some _ e) (Nat.le_refl _) ?_, rfl, q _ hf⟩
  exact ⟨z, us, 0, r, Heap.get?_push_size _ rfl⟩
end
abbrev Sp := List V → Hp → VK → XK → Prop
abbrev CXT := List Env → Hp → Shared → XK → Value → Shared → Prop
structure Env0 (P : Program) (w : World) (K : PySem.W.Frag) (mg : Str → Option Value) (base : Heap) (A : Around) (outer : List Env) (s : Shared) (H : Hp) : Prop where
  frames : A.frames = some outer
  mod : Mod K mg base
  bs : ∀ b o, base.get? b = some o → s.heap.get? b = some o ∧ H b = none
  bsz : base.objs.size ≤ s.heap.objs.size
  funs : s.heap.FunFrames base outer
  frf : ∀ b ∈ frs outer, H b = none
  hok : HOk P w H s.heap
  bare : AllBare s.gens
def CE (outer : List Env) (P : Program) (w : World) (H : Hp) (s : Shared) (Q : VK) (u : Value) (s' : Shared) : Prop :=
  ∃ v H', s'.os = s.os ∧ AllBare s'.gens ∧ Un (frs outer) [] H H' s.heap s'.heap ∧ HOk P w H' s'.heap ∧ RelV v u ∧ Q v H'
def CR (CX : CXT) (outer : List Env) (P : Program) (w : World) (H : Hp) (s : Shared) (Q : VK) (E : XK) (r : Result) (s' : Shared) : Prop :=
  match r with
  | .ok (.ret u) => CE outer P w H s Q u s'
  | .ok _ => False
  | .error e => CX outer H s E e s'
structure FnOk (P : Program) (w : World) (K : PySem.W.Frag) (mg : Str → Option Value) (base : Heap) (CX : CXT) (k : Nat) (f : Addr) (fd : FuncData) (ps : List Str) (sp : Sp) : Prop where
  len : ∀ vs H Q E, sp vs H Q E → vs.length = ps.length
  run : ∀ (A : Around) (outer : List Env) (s : Shared) (H : Hp) (args : Args) (us : List Value) (vs : List V) (Q : VK) (E : XK), Room k A → Env0 P w K mg base A outer s H → BindsTo s fd args (ps.zip us) → Vals vs us → sp vs H Q E →
    codeAny (model P w) A (.call (.ref f) args) (CR CX outer P w H s Q E) s
theorem FnOk.mono {P : Program} {w : World} {K : PySem.W.Frag} {mg : Str → Option Value} {base : Heap} {CX : CXT} {j k : Nat} {f : Addr} {fd : FuncData} {ps : List Str} {sp : Sp} (F : FnOk P w K mg base CX j f fd ps sp) (h : j ≤ k) :
    FnOk P w K mg base CX k f fd ps sp := ⟨F.len, fun A outer s H args us vs Q E hr => F.run A outer s H args us vs Q E (hr.mono h)⟩
theorem Env0.make {P : Program} {w : World} {K : PySem.W.Frag} {mg : Str → Option Value} {base : Heap} {A : Around} {outer : List Env} {s : Shared} {H : Hp} (e : Env0 P w K mg base A outer s H) (C : Addr) (us : List Value) (kw : List (Str × Value)) :
    Env0 P w K mg base (A.under (.builtin "type.__call__" ⟨.ref C :: us, kw⟩)) outer s H := ⟨by first | exact e.frames | (simpa [Around.under, Code.envs, Code.isFrame, pushEnvs] using e.frames), e.mod, e.bs, e.bsz, e.funs, e.frf, e.hok, e.bare⟩
section
variable {X : Cx} {pins : List (Addr × Obj)} {σ : St} {H : Hp} {s s' : Shared}
theorem Inv.env0 (I : Inv X pins σ H s) : Env0 X.prog X.w X.K X.mg X.base X.A X.stack s H :=
  ⟨I.ok.frames, I.ok.mod, I.bs, Nat.le_trans I.ok.bsz I.sz, I.stack, I.stkFree, I.hok, I.bare⟩
theorem Inv.after {Q : VK} {u : Value} (I : Inv X pins σ H s) (h : CE X.stack X.prog X.w H s Q u s') : EP X pins σ Q u s' := by
  obtain ⟨v, H', os, bare, un, hok, r, q⟩ := h
  obtain ⟨hh, g, d, t, os'⟩ := s'
  obtain rfl : os' = s.os := os
  exact ⟨v, H', I.call (h' := hh) (g' := g) (d' := d) (t' := t) (ch := []) un hok bare (fun b z => absurd z (by simp)), r, q⟩
end
def tCall (sp : Sp) (dvs : List V) (E : XK) (t : TA) : TE := fun σ H Q => t σ H fun vs H1 => sp (vs ++ dvs) H1 Q E
def tMeth (C : Addr) (m : Str) (sp : Sp) (dvs : List V) (E : XK) (ta : TE) (t : TA) : TE := fun σ H Q => ta σ H fun x H1 => ∃ a dx fs, x = .ref a ∧ H1 a = some (.ins C dx fs) ∧ fs.lookup m = none ∧
  t σ H1 fun vs H2 => sp (x :: (vs ++ dvs)) H2 Q E
def tMake (C : Addr) (sp : Sp) (dvs : List V) (E : XK) (t : TA) : TE := fun σ H Q => t σ H fun vs H1 => ∀ x dx, H1 x = none → H1 dx = none → dx ≠ x →
  sp (.ref x :: (vs ++ dvs)) (upd (upd H1 dx (.own x)) x (.ins C dx [])) (fun v H2 => v = .non ∧ Q (.ref x) H2) E
def Binds (K : PySem.W.Frag) (fd : FuncData) (ps : List Str) (ds : List Value) : Prop :=
  ∀ (s : Shared) (us : List Value), K.In s.heap → (us ++ ds).length = ps.length → BindsTo s fd ⟨us, []⟩ (ps.zip (us ++ ds))
theorem Binds.all {K : PySem.W.Frag} {fd : FuncData} {ps : List Str} (h : ∀ us : List Value, us.length = ps.length → bindArgs fd ⟨us, []⟩ = pure (ps.zip us)) : Binds K fd ps [] := fun s us _ hl => by
  rw [List.append_nil] at hl ⊢
  exact .of_eq (h us hl)
def Passes (CX : CXT) (X : Cx) (E : XK) : Prop := ∀ (pins : List (Addr × Obj)) (σ : St) (H : Hp) (s : Shared) (e : Value) (s' : Shared), Inv X pins σ H s → CX X.stack H s E e s' → X.xe e s'
section
variable {X : Cx} {CX : CXT} {k : Nat} {f C : Addr} {fd : FuncData} {ps : List Str} {sp : Sp} {dvs : List V} {ds : List Value} {E : XK} {x m : Str} {p pos apos : Pos} {e o : Expr} {es : List Expr} {ta : TE} {t : TA}
theorem run_fn {pins : List (Addr × Obj)} {σ : St} {H : Hp} {s : Shared} {Q : VK} {us : List Value} {vs : List V} (F : FnOk X.prog X.w X.K X.mg X.base CX k f fd ps sp) (hr : Room k X.A) (hb : Binds X.K fd ps ds) (hd : Vals dvs ds) (hx : Passes CX X E)
    (I : Inv X pins σ H s) (r : Vals vs us) (h : sp (vs ++ dvs) H Q E) : wpAny (model X.prog X.w) X.A (call (.ref f) us) (EP X pins σ Q) X.xe s := by
  have r2 : Vals (vs ++ dvs) (us ++ ds) := r.append hd
  have hl : (us ++ ds).length = ps.length := by rw [← r2.length]; exact F.len _ _ _ _ h
  refine wpAny_call (codeAny_mono (F.run X.A X.stack s H ⟨us, []⟩ (us ++ ds) (vs ++ dvs) Q E hr I.env0 (hb s us I.kIn hl) r2 h) fun r s' hq => ?_)
  cases r with
  | error e => exact hx pins σ H s e s' I hq
  | ok fl =>
    cases fl with
    | ret u => exact I.after hq
    | next => exact False.elim hq
    | brk => exact False.elim hq
    | cont => exact False.elim hq
theorem pe_call (F : FnOk X.prog X.w X.K X.mg X.base CX k f fd ps sp) (hr : Room k X.A) (hg : Gl X x) (hm : X.mg x = some (.ref f)) (hk : PySem.W.keepIn X.K (.ref f) = true) (hb : Binds X.K fd ps ds) (hd : Vals dvs ds) (hx : Passes CX X E)
    (ha : PA X (e :: es) t) (hdb : (x == ("__debug__" : Str)) = false := by decide) (he : starEach (e :: es) X.env = (false, eval e X.env) :: starEach es X.env := by rfl) (hpl : (backTo pos (starEach es X.env)).any (·.1) = false := by rfl) :
    PE X (.Call (.Name x p) (e :: es) [] pos) (tCall sp dvs E t) := by
  intro pins s σ H Q I h
  refine wpAny_Call_Name_kw (ld_glob I hg hm ?_ hdb)
  refine PySem.W.callWith_K (h₀ := X.base) I.ok.mod.kin hk (thn (ha pos pins s σ H _ I h) fun us s1 ⟨vs, H1, I1, r, q⟩ => ⟨I1.kIn, ?_⟩) he hpl
  exact run_fn F hr hb hd hx I1 r q
theorem pe_meth {pl : Sem Bool} (he : PE X o ta) (c : Cls X.K C) (hm : Meth X.K C m f) (F : FnOk X.prog X.w X.K X.mg X.base CX k f fd ps sp) (hr : Room k X.A) (hb : Binds X.K fd ps ds) (hd : Vals dvs ds) (hx : Passes CX X E) (ha : PA X (e :: es) t)
    (hst : starEach (e :: es) X.env = (false, eval e X.env) :: starEach es X.env := by rfl) (hpl : (backTo pos (starEach es X.env)).any (·.1) = false := by rfl)
    (ht : eval (.Call (.Attribute o m apos) (e :: es) [] pos) X.env = (do
      let ov ← eval o X.env
      standAt apos.atName
      let (f, first) ← holding [ov] (getMethod ov m pl)
      callWith pos f first (backTo pos (starEach (e :: es) X.env)) (backToKw pos (keywordEach [] X.env))) := by rfl) :
    PE X (.Call (.Attribute o m apos) (e :: es) [] pos) (tMeth C m sp dvs E ta t) := by
  intro pins s σ H Q I h
  refine PySem.W.methodCall_KW (pl := pl) (thn (he pins s σ H _ I h) fun u s1 ⟨x, H1, I1, rx, a, dx, fs, ex, ea, l, q⟩ => ?_) ht
  subst ex
  obtain rfl : u = Value.ref a := rx
  refine getmeth_ok I1 ea c hm l ?_
  refine PySem.W.callWith_K (first := [.ref a]) (h₀ := X.base) I.ok.mod.kin hm.kp (thn (ha pos pins s1 σ H1 _ I1 q) fun us s2 ⟨vs, H2, I2, r, q2⟩ => ⟨I2.kIn, ?_⟩) hst hpl
  exact run_fn (us := .ref a :: us) (vs := .ref a :: vs) F hr hb hd hx I2 (.cons rfl r) q2
structure Mk (K : PySem.W.Frag) (C f : Addr) : Prop where
  makes : PySem.W.makesIn K C = true
  init : PySem.W.findIn K (.ref C) "__init__" = some (some (.ref f))
  fn : PySem.W.isFn K (.ref f) = true
  kp : PySem.W.keepIn K (.ref C) = true
theorem run_make {pins : List (Addr × Obj)} {σ : St} {H : Hp} {s : Shared} {Q : VK} {us : List Value} {vs : List V} (M : Mk X.K C f) (F : FnOk X.prog X.w X.K X.mg X.base CX k f fd ps sp) (hr : Room (k + 1) X.A) (hb : Binds X.K fd ps ds) (hd : Vals dvs ds)
    (hx : Passes CX X E) (I : Inv X pins σ H s) (r : Vals vs us)
    (h : ∀ x dx, H x = none → H dx = none → dx ≠ x → sp (.ref x :: (vs ++ dvs)) (upd (upd H dx (.own x)) x (.ins C dx [])) (fun v H2 => v = .non ∧ Q (.ref x) H2) E) :
    wpAny (model X.prog X.w) X.A (call (.ref C) us) (EP X pins σ Q) X.xe s := by
  have hq := h (s.heap.objs.size + 1) s.heap.objs.size (I.hok.fresh (Nat.le_succ _)) (I.hok.fresh (Nat.le_refl _)) (Nat.ne_of_lt (Nat.lt_succ_self _))
  have I2 := Inv.made (C := C) I
  have r2 : Vals (V.ref (s.heap.objs.size + 1) :: (vs ++ dvs)) (Value.ref (s.heap.objs.size + 1) :: (us ++ ds)) := .cons rfl (r.append hd)
  have hl : (Value.ref (s.heap.objs.size + 1) :: us ++ ds).length = ps.length := by
    have e := r2.length
    rw [F.len _ _ _ _ hq] at e
    exact e.symm
  refine wpAny_call (make_map (f := f) I.kIn M.makes M.init (beq_iff_eq.mp M.fn) (codeAny_mono (F.run _ X.stack _ _ ⟨Value.ref (s.heap.objs.size + 1) :: us, []⟩ (Value.ref (s.heap.objs.size + 1) :: (us ++ ds)) _ _ E (hr.make C us [])
    (I2.env0.make C us []) (hb _ (Value.ref (s.heap.objs.size + 1) :: us) I2.kIn hl) r2 hq) fun r s' hq' => ?_))
  cases r with
  | error e => exact hx pins σ _ _ e s' I2 hq'
  | ok fl =>
    cases fl with
    | ret u =>
      obtain ⟨v, H', I3, rv, ev, q3⟩ := I2.after hq'
      subst ev
      exact ⟨rv, ⟨V.ref (s.heap.objs.size + 1), H', I3, rfl, q3⟩⟩
    | next => exact False.elim hq'
    | brk => exact False.elim hq'
    | cont => exact False.elim hq'
theorem pe_make0 (M : Mk X.K C f) (F : FnOk X.prog X.w X.K X.mg X.base CX k f fd ps sp) (hr : Room (k + 1) X.A) (hg : Gl X x) (hm : X.mg x = some (.ref C)) (hb : Binds X.K fd ps ds) (hd : Vals dvs ds) (hx : Passes CX X E)
    (hdb : (x == ("__debug__" : Str)) = false := by decide) : PE X (.Call (.Name x p) [] [] pos) (tMake C sp dvs E tNil) := by
  intro pins s σ H Q I h
  refine wpAny_Call_Name_kw (ld_glob I hg hm ?_ hdb)
  exact PySem.W.callWith_K0 I.kIn M.kp (run_make (us := []) M F hr hb hd hx I .nil h)
end
section
variable {X : Cx} {CX : CXT} {k : Nat} {f C : Addr} {fd : FuncData} {ps ks : List Str} {sp : Sp} {E : XK} {x m : Str} {p pos apos kpos : Pos} {e o : Expr} {es : List Expr} {kws : List Keyword} {te ta : TE} {t tk : TA} {nm : Option Str}
variable {g : List Value → List Value → List Value} {gV : List V → List V → List V}
end
structure FnScope (N P : List Str) (sc : Scope) : Prop where
  kind : sc.kind = .function
  co : sc.isCoroutine = false
  gen : sc.isGenerator = false
  nd : N.Nodup
  pre : N.take P.length = P
  par : ∀ x ∈ P, sc.names.lookup x = some .local ∨ sc.names.lookup x = some .cell
  nofree : ∀ y ∈ sc.names, y.2 ≠ .free
theorem bindL_out {kindOf : Str → Option NameKind} {x : Str} : ∀ {binds : List (Str × Value)} {m : Str → Option Value}, (∀ v, (x, v) ∉ binds) → bindL kindOf binds m x = m x
  | [], _, _ => rfl
  | (n, v) :: r, m, h => by
    unfold bindL
    rw [bindL_out fun w hw => h w (List.mem_cons_of_mem _ hw)]
    split
    · have : x ≠ n := by rintro rfl; exact h v List.mem_cons_self
      simp [this]
    · rfl
theorem bindC_out {kindOf : Str → Option NameKind} {x : Str} : ∀ {binds : List (Str × Value)} {m : Str → Option Value}, (∀ v, (x, v) ∉ binds) → bindC kindOf binds m x = m x
  | [], _, _ => rfl
  | (n, v) :: r, m, h => by
    unfold bindC
    rw [bindC_out fun w hw => h w (List.mem_cons_of_mem _ hw)]
    split
    · rfl
    · have : x ≠ n := by rintro rfl; exact h v List.mem_cons_self
      simp [this]
theorem bindL_get {kindOf : Str → Option NameKind} {x : Str} {v : Value} : ∀ {P : List Str} {vs : List Value} {i : Nat} {m : Str → Option Value}, P.Nodup → P[i]? = some x → vs[i]? = some v → kindOf x = some .local →
    bindL kindOf (P.zip vs) m x = some v
  | [], _, _, _, _, h, _, _ => by simp at h
  | _ :: _, [], _, _, _, _, h, _ => by simp at h
  | p :: P, w :: vs, 0, m, nd, h1, h2, hk => by
    simp at h1 h2; subst h1; subst h2
    show bindL kindOf ((p, w) :: P.zip vs) m p = _
    unfold bindL
    rw [bindL_out fun v hv => (List.nodup_cons.mp nd).1 (List.of_mem_zip hv).1, if_pos hk]
    simp
  | p :: P, w :: vs, i + 1, m, nd, h1, h2, hk => by
    show bindL kindOf ((p, w) :: P.zip vs) m x = _
    unfold bindL
    exact bindL_get (i := i) (List.nodup_cons.mp nd).2 (by simpa using h1) (by simpa using h2) hk
theorem bindC_get {kindOf : Str → Option NameKind} {x : Str} {v : Value} : ∀ {P : List Str} {vs : List Value} {i : Nat} {m : Str → Option Value}, P.Nodup → P[i]? = some x → vs[i]? = some v → kindOf x ≠ some .local →
    bindC kindOf (P.zip vs) m x = some v
  | [], _, _, _, _, h, _, _ => by simp at h
  | _ :: _, [], _, _, _, _, h, _ => by simp at h
  | p :: P, w :: vs, 0, m, nd, h1, h2, hk => by
    simp at h1 h2; subst h1; subst h2
    show bindC kindOf ((p, w) :: P.zip vs) m p = _
    unfold bindC
    rw [bindC_out fun v hv => (List.nodup_cons.mp nd).1 (List.of_mem_zip hv).1, if_neg hk]
    simp
  | p :: P, w :: vs, i + 1, m, nd, h1, h2, hk => by
    show bindC kindOf ((p, w) :: P.zip vs) m x = _
    unfold bindC
    exact bindC_get (i := i) (List.nodup_cons.mp nd).2 (by simpa using h1) (by simpa using h2) hk
def start (N : List Str) (vs : List V) : St := vs.map some ++ List.replicate (N.length - vs.length) none
def cxOf (CX : CXT) (P : Program) (w : World) (K : PySem.W.Frag) (mg : Str → Option Value) (base : Heap) (N : List Str) (qual : Str) (scope : Scope) (f : Addr) (cd : Value) (A : Around) (outer : List Env) (s : Shared) (H : Hp) (E : XK) : Cx where
  prog := P
  w := w
  K := K
  mg := mg
  base := base
  A := A.deeper (envOfC qual scope s.heap.objs.size f cd)
  N := N
  s₀ := s
  H₀ := H
  env := envOfC qual scope s.heap.objs.size f cd
  outer := outer
  stack := envOfC qual scope s.heap.objs.size f cd :: outer
  ex := []
  calm := true
  fn := fun _ => true
  pn := []
  xe := fun e s' => wpAny (model P w) (A.deeper (envOfC qual scope s.heap.objs.size f cd)) (leaving (envOfC qual scope s.heap.objs.size f cd) e) (fun _ s'' => CX outer H s E e s'') (fun e' s'' => CX outer H s E e' s'') s'
theorem cell_has {sc : Scope} {n : Nat} {x : Str} (h : sc.names.lookup x = some .cell) : ∃ c, (cellsFrom n sc.names []).lookup x = some c := by
  have q := PySem.W.cellsFrom_some sc.names n [] (.inl h)
  exact Option.isSome_iff_exists.mp q
theorem inv_start {CX : CXT} {P : Program} {w : World} {K : PySem.W.Frag} {mg : Str → Option Value} {base : Heap} {N ps : List Str} {qual : Str} {scope : Scope} {f : Addr} {cd : Value} {A : Around} {outer : List Env} {s s1 : Shared} {H : Hp} {E : XK} {us : List Value} {vs : List V}
    (S : FnScope N ps scope) (hd : A.handled = none) (e0 : Env0 P w K mg base A outer s H) (hl : vs.length = ps.length) (r : Vals vs us)
    (x : InCallC s s.heap.objs.size (bindL (envOfC qual scope s.heap.objs.size f cd).kindOf (ps.zip us) fun _ => none) (cellsFrom (s.heap.objs.size + 1) scope.names []) (bindC (envOfC qual scope s.heap.objs.size f cd).kindOf (ps.zip us) fun _ => none) s1) :
    Inv (cxOf CX P w K mg base N qual scope f cd A outer s H E) [] (start N vs) H s1 := by
  have hpl : ps.length ≤ N.length := by have := congrArg List.length S.pre; rw [List.length_take] at this; omega
  obtain ⟨h1, tk, rfl, hk⟩ := x.done
  have noA : ∀ b : Addr, b ∉ (cxOf CX P w K mg base N qual scope f cd A outer s H E).ex := fun b z => absurd (show b ∈ ([] : List Addr) from z) (by simp)
  refine ⟨⟨e0.mod, S.kind, rfl, rfl, Nat.le_refl _, fun y z c h1 h2 => ?_, fun y hy => ?_, fun y c _ h => ?_, fun _ => hd, Around.frames_deeper e0.frames, .inr ⟨rfl, rfl⟩, fun b z => absurd z (noA b), e0.bs, e0.bsz, fun b _ _ => noA b, fun b z => absurd z (noA b), e0.funs, e0.frf⟩,
    rfl, e0.bare, Un.kept hk, ⟨_, x.toInCall.ns, fun i y v h1 h2 h3 => ?_⟩, fun y c h => ⟨_, x.cell y c h⟩, e0.hok.fresh (Nat.le_refl _), fun y c h => ?_, fun p hp => absurd (show p ∈ ([] : List (Addr × Obj)) from hp) (by simp), e0.hok.kept hk, ?_⟩
  · exact name_of_addr x.apart (PySem.mem_of_lookup h1) (PySem.mem_of_lookup h2)
  · have hy : scope.names.lookup y = some .cell ∨ scope.names.lookup y = some .free := hy
    rcases hy with hy | hy
    · exact cell_has hy
    · exact absurd rfl (S.nofree _ (PySem.mem_of_lookup hy))
  · exact Nat.le_of_lt (x.above y c (PySem.mem_of_lookup h))
  · have hi : i < vs.length := by
      unfold start at h2
      by_cases hi : i < vs.length
      · exact hi
      · rw [List.getElem?_append_right (by simpa using hi)] at h2
        rw [List.getElem?_replicate] at h2
        split at h2 <;> cases h2
    have ha : vs[i]? = some v := by
      unfold start at h2
      rw [List.getElem?_append_left (by simpa using hi), List.getElem?_map] at h2
      cases e : vs[i]? with
      | none => rw [e] at h2; cases h2
      | some a => rw [e] at h2; cases h2; rfl
    obtain ⟨u, hu, rv⟩ := r.get ha
    have hp : ps[i]? = some y := by
      rw [← S.pre, List.getElem?_take_of_lt (by omega)]; exact h1
    have ndP : ps.Nodup := by rw [← S.pre]; exact S.nd.sublist (List.take_sublist _ _)
    refine ⟨u, rv, ?_⟩
    rcases S.par y (List.mem_of_getElem? hp) with k | k
    · exact .inl ⟨k, bindL_get ndP hp hu k⟩
    · obtain ⟨c, e⟩ := cell_has (n := s.heap.objs.size + 1) k
      refine .inr ⟨.inl k, c, e, ?_⟩
      have q := x.cell y c e
      rw [bindC_get ndP hp hu (by show scope.names.lookup y ≠ _; rw [k]; decide)] at q
      exact q
  · exact e0.hok.fresh (Nat.le_of_lt (x.above y c (PySem.mem_of_lookup h)))
  · unfold start
    show _ = N.length
    rw [List.length_append, List.length_map, List.length_replicate]
    omega
theorem fn_of {CX : CXT} {P : Program} {w : World} {K : PySem.W.Frag} {mg : Str → Option Value} {base : Heap} {k : Nat} {f : Addr} {name qual : Str} {params : Arguments} {body : List Stmt} {scope : Scope} {dV kV doc pm cdv ct oc : Value} {an od : Option Addr}
    {osl : Array (Option Value)} {N ps : List Str} {sp : Sp} (lk : K.lookup f = some ⟨oc, od, .func (PySem.W.fnOf name qual params body scope dV kV doc pm an cdv ct), osl⟩) (hcd : PySem.W.codeIn K cdv qual = true) (S : FnScope N ps scope)
    (len : ∀ vs H Q E, sp vs H Q E → vs.length = ps.length)
    (hbody : ∀ (A : Around) (outer : List Env) (s : Shared) (H : Hp) (vs : List V) (Q : VK) (E : XK), Room k (A.deeper (envOfC qual scope s.heap.objs.size f cdv)) → sp vs H Q E →
      ∃ t, PSs (cxOf CX P w K mg base N qual scope f cdv A outer s H E) body t ∧ t { nx := fun _ H' => Q .non H', rt := Q } (start N vs) H) :
    FnOk P w K mg base CX (k + 1) f (PySem.W.fnOf name qual params body scope dV kV doc pm an cdv ct) ps sp := by
  refine ⟨len, fun A outer s H args us vs Q E hr e0 hb r hsp => ?_⟩
  have hl := len _ _ _ _ hsp
  have KX : K.In s.heap := e0.mod.kin.keeps fun b o e => (e0.bs b o e).1
  have lim : s.heap.NoLimit := e0.mod.nolimit.keeps fun b o e => (e0.bs b o e).1
  have hkind : ∀ y ∈ ps.zip us, scope.names.lookup y.1 = some .local ∨ (scope.names.lookup y.1 = some .cell ∧ ((cellsFrom (s.heap.objs.size + 1) scope.names []).lookup y.1).isSome = true) := fun ⟨n, v⟩ hy => by
    rcases S.par n (List.of_mem_zip hy).1 with q | q
    · exact .inl q
    · exact .inr ⟨q, PySem.W.cellsFrom_some _ _ _ (.inl q)⟩
  refine codeAny_call_function hr.depth (KX _ _ lk) rfl S.co S.gen rfl (PySem.W.codeRec_of KX hcd) (hb _ _ _ _ ?_)
  refine wpAny_newFunctionEnv_cells S.kind hkind fun env he s1 x => ?_
  subst he
  refine ⟨lim.keeps x.toInCall.keep, codeAny_func ?_⟩
  obtain ⟨t, ht, hq⟩ := hbody A outer s H vs Q E (hr.deeper _) hsp
  have I : Inv (cxOf CX P w K mg base N qual scope f cdv A outer s H E) [] (start N vs) H s1 := inv_start S hr.hd e0 hl r x
  refine wpAny_mono (ht [] s1 (start N vs) H _ I hq) (fun fl s' hs => ?_) fun e s' hs => hs
  have fin : ∀ {σ' : St} {H' : Hp} {v : V} {u : Value}, Inv (cxOf CX P w K mg base N qual scope f cdv A outer s H E) [] σ' H' s' → RelV v u → Q v H' → CE outer P w H s Q u s' :=
    fun {σ' H' v u} J rv q => ⟨v, H', J.os, J.bare, J.base, J.hok, rv, q⟩
  cases fl with
  | ret u =>
    obtain ⟨v, σ', H', J, rv, q⟩ := hs
    exact fin J rv q
  | next =>
    obtain ⟨σ', H', J, q⟩ := hs
    exact fin (v := V.non) (u := Value.none) J rfl q
  | brk =>
    obtain ⟨_, _, _, q⟩ := hs
    exact False.elim q
  | cont =>
    obtain ⟨_, _, _, q⟩ := hs
    exact False.elim q
end L2
namespace L2
open PySem PySem.Spec PyProof.Rows
section
variable {X : Cx} {x : Str} {p pos : Pos} {e : Expr} {es : List Expr} {t : TA} {id T : String} {r : List V → Hp → VK → Prop}
def tCB (r : List V → Hp → VK → Prop) (t : TA) : TE := fun σ H Q => t σ H fun vs H1 => r vs H1 Q
theorem pe_callB (hc : CallR X (.builtin id) r) (hg : Gl X x) (hm : X.mg x = none) (hv : bootBuiltins x = some (.builtin id)) (ha : PA X (e :: es) t) (hn : x ≠ "__name__" := by decide) (hdb : (x == ("__debug__" : Str)) = false := by decide)
    (he : starEach (e :: es) X.env = (false, eval e X.env) :: starEach es X.env := by rfl) (hpl : (backTo pos (starEach es X.env)).any (·.1) = false := by rfl) : PE X (.Call (.Name x p) (e :: es) [] pos) (tCB r t) := by
  intro pins s σ H Q I h
  refine wpAny_Call_Name_kw (ld_blt I hg hm hv ?_ hn hdb)
  exact PyProof.Rows.callWith_builtin1 (thn (ha pos pins s σ H _ I h) fun us s1 ⟨vs, H1, I1, r1, q1⟩ => hc pins s1 σ H1 vs us Q I1 r1 q1) he hpl
theorem pe_callTy (hc : CallR X (.type T) r) (hg : Gl X x) (hm : X.mg x = none) (hv : bootBuiltins x = some (.type T)) (ha : PA X (e :: es) t) (hn : x ≠ "__name__" := by decide) (hdb : (x == ("__debug__" : Str)) = false := by decide)
    (he : starEach (e :: es) X.env = (false, eval e X.env) :: starEach es X.env := by rfl) (hpl : (backTo pos (starEach es X.env)).any (·.1) = false := by rfl) : PE X (.Call (.Name x p) (e :: es) [] pos) (tCB r t) := by
  intro pins s σ H Q I h
  refine wpAny_Call_Name_kw (ld_blt I hg hm hv ?_ hn hdb)
  exact PyProof.Rows.callWith_type1 (thn (ha pos pins s σ H _ I h) fun us s1 ⟨vs, H1, I1, r1, q1⟩ => hc pins s1 σ H1 vs us Q I1 r1 q1) he hpl
end
end L2
namespace HT
open PySem PyProof.Rows
section
open PySem.SeqAt
open PySem.AutoSeq1 (wpAny_loadPart')
open PySem.MeetsSeq PySem.MeetsSeq2 PySem.MeetsSeq3
end
section
variable {prog : Program} {w : World} {A : Around} {E : Value → Shared → Prop} {s : Shared}
theorem cat_tup {t b : Addr} {vs ws : List Value} {Q : Value → Shared → Prop} (ht : IsTup s.heap t vs.toArray) (hb : IsTup s.heap b ws.toArray) (hv : vs ≠ [])
    (h1 : ws = [] → Q (.ref t) s) (h2 : ws ≠ [] → Q (.ref s.heap.objs.size) { s with heap := s.heap.push { cls := .type "tuple", data := .seq (vs ++ ws).toArray } })
    (hsz : vs.length + ws.length ≤ sizeLine) : wpAny (model prog w) A (binaryOp .Add (.ref t) (.ref b)) Q E s := by
  obtain ⟨⟨cls, dd, data, sl⟩, ho, hc, n, hd⟩ := id ht
  obtain ⟨⟨cls2, dd2, data2, sl2⟩, ho2, hc2, n2, hd2⟩ := id hb
  simp only at hc hd hc2 hd2
  subst hc hd hc2 hd2
  have e : vs.toArray ++ ws.toArray = (vs ++ ws).toArray := by simp
  by_cases hw : ws = []
  · exact concat_meets ⟨_, ho, rfl⟩ ⟨_, ho2, rfl⟩ noFill_tuple_add seq_tuple_add PySem.F.slot_tuple_add PySem.F.entry_tuple_add (PySem.F.args_tuple_add_2 _ _)
      (tuple_addW1 t b vs.toArray ws.toArray n n2 dd dd2 sl sl2 (by simpa using hv) (by simp [hw])) ⟨ho, ho2, h1 hw⟩
  · refine concat_meets ⟨_, ho, rfl⟩ ⟨_, ho2, rfl⟩ noFill_tuple_add seq_tuple_add PySem.F.slot_tuple_add PySem.F.entry_tuple_add (PySem.F.args_tuple_add_2 _ _)
      (tuple_addW2 t b vs.toArray ws.toArray n n2 dd dd2 sl sl2 (by simpa using hv) (by simpa using hw) (by rw [List.size_toArray, List.size_toArray]; exact hsz)) ⟨ho, ho2, ?_⟩
    rw [e]
    exact h2 hw
def sIx (n d : Nat) : Option Int → Nat
  | none => d
  | some v => if v < 0 then (v + (n : Int)).toNat else min v.toNat n
theorem sIx_none (n d : Nat) : sIx n d none = d := rfl
theorem sIx_nat (n d k : Nat) : sIx n d (some (k : Int)) = min k n := by
  show (if (k : Int) < 0 then ((k : Int) + (n : Int)).toNat else min (k : Int).toNat n) = min k n
  rw [if_neg (by omega), Int.toNat_natCast]
theorem sIx_le (n d : Nat) (hd : d ≤ n) (o : Option Int) : sIx n d o ≤ n := by
  cases o with
  | none => exact hd
  | some v =>
    show (if v < 0 then (v + (n : Int)).toNat else min v.toNat n) ≤ n
    by_cases hv : v < 0
    · rw [if_pos hv]; omega
    · rw [if_neg hv]; exact Nat.min_le_right _ _
theorem clip_eq (v : Int) (n d : Nat) : (if v < 0 then max (v + (n : Int)) 0 else min v (n : Int)) = ((sIx n d (some v) : Nat) : Int) := by
  show (if v < 0 then max (v + (n : Int)) 0 else min v (n : Int)) = (((if v < 0 then (v + (n : Int)).toNat else min v.toNat n) : Nat) : Int)
  by_cases hv : v < 0
  · simp only [if_pos hv]; omega
  · simp only [if_neg hv]; omega
theorem adjust_gen (lo hi : Option Int) (n : Nat) : Builtin.Slice.sliceAdjust lo hi 1 (n : Int) = (((sIx n 0 lo : Nat) : Int), ((sIx n n hi : Nat) : Int)) := by
  have h1 : ¬ ((1 : Int) < 0) := by omega
  unfold Builtin.Slice.sliceAdjust
  simp only [h1, if_false]
  refine Prod.ext ?_ ?_
  · cases lo with
    | none => rfl
    | some v => exact clip_eq v n 0
  · cases hi with
    | none => rfl
    | some v => exact clip_eq v n n
theorem places_gen (i j : Nat) : Builtin.Slice.slicePlaces (i : Int) (j : Int) 1 = j - i := by
  unfold Builtin.Slice.slicePlaces
  have h1 : (1 : Int) > 0 := by omega
  simp only [h1, if_true, Int.ediv_one]
  split <;> omega
theorem slicePart_ {v : Value} {o : Option Int} {Q : Option Int → Shared → Prop} (p : IsPart v o) (h : Q o s) : wpAny (model prog w) A (Builtin.Slice.slicePartIndex v) Q E s := by
  cases p with
  | none => exact slicePart_none h
  | int i t => exact slicePart_int h
theorem sliceApplied_gen {sl : Addr} {vl vu : Value} {lo hi : Option Int} {n : Nat} {Q : Int × Int × Nat → Shared → Prop} (hs : s.heap.IsSliceOf sl vl vu .none) (pl : IsPart vl lo) (pu : IsPart vu hi)
    (h : Q (((sIx n 0 lo : Nat) : Int), 1, sIx n n hi - sIx n 0 lo) s) : wpAny (model prog w) A (Builtin.Slice.sliceApplied (.ref sl) (pure (n : Int))) Q E s := by
  obtain ⟨os, hos, hcs, hds⟩ := id hs
  unfold Builtin.Slice.sliceApplied Builtin.Slice.sliceFields
  refine wpAny_bind (wpAny_bind (wpAny_field hos hds (x := vl) rfl (wpAny_bind (wpAny_field hos hds (x := vu) rfl (wpAny_bind (wpAny_field hos hds (x := .none) rfl (wpAny_pure ?_)))))))
  refine wpAny_bind (slicePart_none ?_)
  show wpAny _ _ (if ((1 : Int) == 0) = true then _ else _) _ _ s
  rw [if_neg (by decide)]
  refine wpAny_bind (slicePart_ pl (wpAny_bind (slicePart_ pu (wpAny_bind (wpAny_pure ?_)))))
  show wpAny _ _ (match Builtin.Slice.sliceAdjust lo hi 1 (n : Int) with | (lo, hi) => pure (lo, (1 : Int), Builtin.Slice.slicePlaces lo hi 1)) _ _ s
  rw [adjust_gen lo hi n]
  show wpAny _ _ (pure (((sIx n 0 lo : Nat) : Int), (1 : Int), Builtin.Slice.slicePlaces ((sIx n 0 lo : Nat) : Int) ((sIx n n hi : Nat) : Int) 1)) _ _ s
  rw [places_gen]
  exact wpAny_pure h
theorem pick_gen (xs : Array Value) (i k : Nat) : ((List.range k).filterMap fun (m : Nat) => xs[((i : Int) + (m : Int) * 1).toNat]?).toArray = ((xs.toList.drop i).take k).toArray := by
  have e : (fun (m : Nat) => xs[((i : Int) + (m : Int) * 1).toNat]?) = fun m => xs[i + m]? := by
    funext m
    have : ((i : Int) + (m : Int) * 1).toNat = i + m := by omega
    rw [this]
  rw [e]
  have := pick_run xs i k
  rw [List.filterMap_map] at this
  have e2 : ((fun x => xs[x]?) ∘ fun x => i + x) = fun m => xs[i + m]? := rfl
  rw [e2] at this
  rw [this]
theorem getItem_tuple_cut {t sl : Addr} {items : Array Value} {vl vu : Value} {lo hi : Option Int} {Q : Value → Shared → Prop} (ht : IsTup s.heap t items) (hs : s.heap.IsSliceOf sl vl vu .none) (pl : IsPart vl lo) (pu : IsPart vu hi)
    (hw : ¬ (sIx items.size 0 lo = 0 ∧ sIx items.size items.size hi = items.size))
    (h : Q (.ref s.heap.objs.size) { s with heap := s.heap.push { cls := .type "tuple", data := .seq ((items.toList.drop (sIx items.size 0 lo)).take (sIx items.size items.size hi - sIx items.size 0 lo)).toArray } })
    (hsz : items.size ≤ sizeLine) : wpAny (model prog w) A (getItem (.ref t) (.ref sl)) Q E s := by
  have htake : sizeOk (.seq ((items.toList.drop (sIx items.size 0 lo)).take (sIx items.size items.size hi - sIx items.size 0 lo)).toArray) := by
    show ((items.toList.drop (sIx items.size 0 lo)).take (sIx items.size items.size hi - sIx items.size 0 lo)).toArray.size ≤ sizeLine
    rw [List.size_toArray, List.length_take, List.length_drop, Array.length_toList]
    omega
  have hj : sIx items.size items.size hi ≤ items.size := sIx_le _ _ (Nat.le_refl _) hi
  obtain ⟨os, hos, hcs, hds⟩ := id hs
  have hTs : s.TypeIs (.ref sl) "slice" := ⟨os, hos, hcs⟩
  unfold getItem
  try with_reducible refine wpAny_holding ?_
  first | refine wpAny_bind (wpAny_pure ?_) | skip
  refine wpAny_bind (wpAny_sequenceKey ht.typeIs (by decide) ?_)
  refine wpAny_bind (wpAny_callSpecial?_slot (name := Str.ofString "__getitem__") ht.typeIs PyProof.Rows.slot_tuple_getitem
    (wpAny_call_entry PyProof.Rows.slot_tuple_getitem ht.typeIs entry_tuple_getitem ?_ (args_tuple_getitem _ _)))
  show wpAny _ _ (Builtin.Tuple.tupleItemsOf (.ref t) >>= _) _ _ s
  refine wpAny_bind (tupleItemsOf_ ht ?_)
  refine wpAny_bind (wpAny_typeOf hTs ?_)
  rw [if_pos (by decide)]
  refine wpAny_bind (sliceApplied_gen hs pl pu ?_)
  have hno : ¬ ((((sIx items.size 0 lo : Nat) : Int) == 0 && (1 : Int) == 1 && (sIx items.size items.size hi - sIx items.size 0 lo) == items.size) = true) := by
    intro q
    rw [Bool.and_eq_true, Bool.and_eq_true] at q
    have q1 : ((sIx items.size 0 lo : Nat) : Int) = 0 := eq_of_beq q.1.1
    have q2 : sIx items.size items.size hi - sIx items.size 0 lo = items.size := eq_of_beq q.2
    exact hw ⟨by omega, by omega⟩
  show wpAny _ _ (if (((sIx items.size 0 lo : Nat) : Int) == 0 && (1 : Int) == 1 && (sIx items.size items.size hi - sIx items.size 0 lo) == items.size) = true then _ else _) _ _ s
  rw [if_neg hno, pick_gen]
  first
    | exact wpAny_bind (m := Builtin.Tuple.tupleExact _) (wpAny_newObj_type (wpAny_pure ⟨_, rfl, wpAny_pure h⟩) htake)
    | exact wpAny_bind (m := Builtin.Tuple.tupleExact _) (wpAny_newObj_type (wpAny_bind (wpAny_pure (wpAny_pure ⟨_, rfl, wpAny_pure h⟩))) htake)
    | exact wpAny_bind (wpAny_bind (m := Builtin.Tuple.tupleExact _) (wpAny_newObj_type (wpAny_pure (wpAny_pure ⟨_, rfl, wpAny_pure h⟩)) htake))
    | exact wpAny_bind (wpAny_bind (m := Builtin.Tuple.tupleExact _) (wpAny_newObj_type (wpAny_pure ⟨_, rfl, wpAny_pure h⟩) htake))
end
end HT
namespace L2
open PySem PySem.Spec PyProof.Rows
abbrev TO := St → Hp → (Option Int → Hp → Prop) → Prop
def PO (X : Cx) (e : Option Expr) (t : TO) : Prop :=
  ∀ (pins : List (Addr × Obj)) (s : Shared) (σ : St) (H : Hp) (Q : Option Int → Hp → Prop), Inv X pins σ H s → t σ H Q →
    wpAny (model X.prog X.w) X.A (evalPart e X.env) (fun u s' => ∃ o H', Inv X pins σ H' s' ∧ IsPart u o ∧ Q o H') X.xe s
def tNoPart : TO := fun _ H Q => Q none H
def tPart (t : TE) : TO := fun σ H Q => t σ H fun x H1 => ∃ i, x = .int i ∧ Q (some i) H1
section
variable {X : Cx} {e : Expr} {te : TE} {lo hi : Option Expr} {tl th : TO} {pos p2 : Pos}
theorem po_none : PO X none tNoPart := by
  intro pins s σ H Q I h
  rw [evalPart_none]
  exact wpAny_pure ⟨none, H, I, .none, h⟩
theorem po_some (h : PE X e te) : PO X (some e) (tPart te) := by
  intro pins s σ H Q I hw
  rw [evalPart_some]
  refine thn (h pins s σ H _ I hw) fun u s1 ⟨x, H1, I1, r1, q1⟩ => ?_
  obtain ⟨i, rfl, q⟩ := q1
  obtain ⟨t, rfl⟩ := r1
  exact ⟨some i, H1, I1, .int i t, q⟩
def SlR (X : Cx) (r : V → Option Int → Option Int → Hp → VK → Prop) : Prop :=
  ∀ (pins : List (Addr × Obj)) (s : Shared) (σ : St) (H : Hp) (x : V) (v vl vu : Value) (lo hi : Option Int) (sl : Addr) (Q : VK), Inv X pins σ H s → RelV x v → s.heap.IsSliceOf sl vl vu .none → IsPart vl lo → IsPart vu hi → r x lo hi H Q →
    ∃ T id, typeLookup (.type T) "__getitem__" = pure (some (.builtin id)) ∧ s.TypeIs v T ∧ wpAny (model X.prog X.w) X.A (getItem v (.ref sl)) (EP X pins σ Q) X.xe s
def tSl (r : V → Option Int → Option Int → Hp → VK → Prop) (te : TE) (tl th : TO) : TE := fun σ H Q => te σ H fun x H1 => tl σ H1 fun l H2 => th σ H2 fun u H3 => r x l u H3 Q
theorem pe_slice {r : V → Option Int → Option Int → Hp → VK → Prop} (hr : SlR X r) (he : PE X e te) (hl : PO X lo tl) (hu : PO X hi th) : PE X (.Subscript e (.Slice lo hi none p2) pos) (tSl r te tl th) := by
  intro pins s σ H Q I h
  refine Subscript_ (thn (he pins s σ H _ I h) fun v s1 ⟨x, H1, I1, r1, q1⟩ => ?_)
  refine wpAny_Slice (thn (hl pins s1 σ H1 _ I1 q1) fun vl s2 ⟨l, H2, I2, pl, q2⟩ => thn (hu pins s2 σ H2 _ I2 q2) fun vu s3 ⟨u, H3, I3, pu, q3⟩ => ?_)
  rw [evalPart_none]
  refine wpAny_pure ?_
  have I4 : Inv X pins σ H3 { s3 with heap := s3.heap.push { cls := .type "slice", data := .fields #[vl, vu, .none] } } := I3.kept (t' := s3.toks) fun b ob q => Heap.get?_push_of_some _ q
  obtain ⟨T, id, hT, ht, hg⟩ := hr pins { s3 with heap := s3.heap.push { cls := .type "slice", data := .fields #[vl, vu, .none] } } σ H3 x v vl vu l u s3.heap.objs.size Q I4 r1 (Heap.IsSliceOf.new ..) pl pu q3
  show wpAny (model X.prog X.w) X.A (subscriptTail e (.Slice lo hi none p2) v (.ref s3.heap.objs.size)) (EP X pins σ Q) X.xe { s3 with heap := s3.heap.push { cls := .type "slice", data := .fields #[vl, vu, .none] } }
  exact tail_any (ops := [.ref s3.heap.objs.size, v]) ht hT hg (by with_unfolding_all rfl)
def cutV (xs : List V) (lo hi : Option Int) : List V := (xs.drop (HT.sIx xs.length 0 lo)).take (HT.sIx xs.length xs.length hi - HT.sIx xs.length 0 lo)
theorem cutV_length (xs : List V) (lo hi : Option Int) : (cutV xs lo hi).length ≤ xs.length := by
  unfold cutV
  rw [List.length_take, List.length_drop]
  omega
def rSlT (K : PySem.W.Frag) : V → Option Int → Option Int → Hp → VK → Prop := fun x lo hi H Q => ∃ a xs, x = .ref a ∧ SqT K H a xs ∧
  ¬ (HT.sIx xs.length 0 lo = 0 ∧ HT.sIx xs.length xs.length hi = xs.length) ∧ ∀ p, H p = none → Q (.ref p) (upd H p (.tup (cutV xs lo hi)))
theorem sl_tup : SlR X (rSlT X.K) := by
  intro pins s σ H x v vl vu lo hi sl Q I rx hs pl pu h
  obtain ⟨a, xs, rfl, hx, hw, q⟩ := h
  cases rx
  obtain ⟨its, r, ht, hz⟩ := I.tuple hx
  have hlen : its.toArray.size = xs.length := by rw [List.size_toArray]; exact r.length.symm
  refine ⟨"tuple", _, PyProof.Rows.slot_tuple_getitem.lookup, ht.typeIs, ?_⟩
  refine HT.getItem_tuple_cut ht hs pl pu (by rw [hlen]; exact hw) ?_ (by rw [hlen]; exact hz)
  rw [hlen]
  refine ⟨.ref s.heap.objs.size, _, I.laid (t' := s.toks) (o := .tup (cutV xs lo hi)) (fun b ob q => Heap.get?_push_of_some _ q) (Nat.le_refl _) ?_, rfl, q _ (I.hok.fresh (Nat.le_refl _))⟩
  exact ⟨Nat.le_trans (cutV_length xs lo hi) hz, _, (r.drop (HT.sIx xs.length 0 lo)).take (HT.sIx xs.length xs.length hi - HT.sIx xs.length 0 lo), IsTup.new _ _⟩
def rCatT (K : PySem.W.Frag) : R2 := fun x y H Q => ∃ a b xs ys, x = .ref a ∧ y = .ref b ∧ SqT K H a xs ∧ SqT K H b ys ∧ xs ≠ [] ∧ xs.length + ys.length ≤ sizeLine ∧
  (ys = [] → Q (.ref a) H) ∧ (ys ≠ [] → ∀ p, H p = none → Q (.ref p) (upd H p (.tup (xs ++ ys))))
theorem Vals.nil_iff {xs : List V} {us : List Value} (r : Vals xs us) : us = [] ↔ xs = [] := by
  cases r with
  | nil => simp
  | cons _ _ => simp
theorem op_catT : OpR X (binaryOp .Add) (rCatT X.K) := by
  intro pins s σ H x y v u Q I rx ry h
  obtain ⟨a, b, xs, ys, rfl, rfl, ha, hb, hx, hz, q1, q2⟩ := h
  cases rx
  cases ry
  obtain ⟨its, r1, p1, _⟩ := I.tuple ha
  obtain ⟨its2, r2, p2, _⟩ := I.tuple hb
  refine HT.cat_tup p1 p2 (fun z => hx (r1.nil_iff.mp z)) (fun z => ⟨.ref a, H, I, rfl, q1 (r2.nil_iff.mp z)⟩) (fun z => ?_) (by rw [← r1.length, ← r2.length]; exact hz)
  refine ⟨.ref s.heap.objs.size, _, I.laid (t' := s.toks) (o := .tup (xs ++ ys)) (fun b ob q => Heap.get?_push_of_some _ q) (Nat.le_refl _) ?_, rfl, q2 (fun w => z (r2.nil_iff.mpr w)) _ (I.hok.fresh (Nat.le_refl _))⟩
  exact ⟨by rw [List.length_append]; exact hz, _, r1.append r2, IsTup.new _ _⟩
end
end L2
namespace L2
open PySem PySem.Spec PyProof.Rows
def ixN (n : Nat) (i : Int) : Option Nat := if 0 ≤ i then (if i < n then some i.toNat else none) else if -(n : Int) ≤ i then some (i + n).toNat else none
def atI {α : Type} (xs : List α) (i : Int) : Option α := (ixN xs.length i).bind fun j => xs[j]?
theorem ixN_seq {n : Nat} {i : Int} {j : Nat} (h : ixN n i = some j) : seqIndex? i n = some j ∧ j < n ∧ -(n : Int) ≤ i ∧ i < n := by
  unfold ixN at h
  by_cases h0 : 0 ≤ i
  · rw [if_pos h0] at h
    by_cases h1 : i < n
    · rw [if_pos h1] at h
      have e : i.toNat = j := Option.some.inj h
      exact ⟨by rw [seqIndex_of h0 h1, e], by omega, by omega, h1⟩
    · rw [if_neg h1] at h; cases h
  · rw [if_neg h0] at h
    by_cases h1 : -(n : Int) ≤ i
    · rw [if_pos h1] at h
      have e : (i + n).toNat = j := Option.some.inj h
      exact ⟨by rw [seqIndex_neg (by omega) h1, e], by omega, h1, by omega⟩
    · rw [if_neg h1] at h; cases h
theorem atI_get {α : Type} {xs : List α} {i : Int} {v : α} (h : atI xs i = some v) : ∃ j, seqIndex? i xs.length = some j ∧ xs[j]? = some v ∧ j < xs.length ∧ -(xs.length : Int) ≤ i ∧ i < xs.length := by
  unfold atI at h
  cases e : ixN xs.length i with
  | none => rw [e] at h; cases h
  | some j =>
    rw [e] at h
    obtain ⟨h1, h2, h3, h4⟩ := ixN_seq e
    exact ⟨j, h1, h, h2, h3, h4⟩
theorem atI_nat {α : Type} {xs : List α} {j : Nat} {v : α} (h : xs[j]? = some v) : atI xs (j : Int) = some v := by
  have hj : j < xs.length := (List.getElem?_eq_some_iff.mp h).1
  have e : ixN xs.length (j : Int) = some j := by
    unfold ixN
    rw [if_pos (by omega), if_pos (by omega)]; simp
  unfold atI; rw [e]; exact h
theorem atI_last {α : Type} (xs : List α) (v : α) : atI (xs ++ [v]) (-1) = some v := by
  have hl : (xs ++ [v]).length = xs.length + 1 := by simp
  have e : ixN (xs ++ [v]).length (-1) = some xs.length := by
    unfold ixN
    rw [hl, if_neg (by decide), if_pos (by omega)]
    congr 1
    omega
  unfold atI
  rw [e]
  show (xs ++ [v])[xs.length]? = some v
  simp
def PlainIx (b : Expr) : Prop := ∀ o i, subscripted b false o i = operate [o, i] (getItem o i)
def IxR (X : Cx) (r : R2) : Prop :=
  ∀ (value slice : Expr) (pins : List (Addr × Obj)) (s : Shared) (σ : St) (H : Hp) (x y : V) (v u : Value) (Q : VK), Inv X pins σ H s → RelV x v → RelV y u → r x y H Q →
    subscripted slice false v u = operate [v, u] (getItem v u) → wpAny (model X.prog X.w) X.A (subscriptTail value slice v u) (EP X pins σ Q) X.xe s
def MtR (X : Cx) (id : String) (r : V → List V → Hp → VK → Prop) : Prop :=
  ∀ (pins : List (Addr × Obj)) (s : Shared) (σ : St) (H : Hp) (x : V) (xs : List V) (v : Value) (us : List Value) (Q : VK), Inv X pins σ H s → RelV x v → Vals xs us → r x xs H Q →
    wpAny (model X.prog X.w) X.A (call (.builtin id) (v :: us)) (EP X pins σ Q) X.xe s
section
variable {X : Cx} {a b : Expr} {ta tb : TE} {pos : Pos}
theorem IxR.or {r r' : R2} (h : IxR X r) (h' : IxR X r') : IxR X (fun x y H Q => r x y H Q ∨ r' x y H Q) := by
  intro value slice pins s σ H x y v u Q I rx ry q hs
  rcases q with q | q
  · exact h value slice pins s σ H x y v u Q I rx ry q hs
  · exact h' value slice pins s σ H x y v u Q I rx ry q hs
theorem pe_ix {r : R2} (hr : IxR X r) (ha : PE X a ta) (hb : PE X b tb) (hs : PlainIx b) : PE X (.Subscript a b pos) (tOp r ta tb) := by
  intro pins s σ H Q I h
  exact Subscript_ (binT ha hb I h fun v u s2 x y H2 I2 rx ry q => hr a b pins s2 σ H2 x y v u Q I2 rx ry q (hs _ _))
def rIxL (K : PySem.W.Frag) : R2 := fun x y H Q => ∃ p xs i v, x = .ref p ∧ y = .int i ∧ SqL K H p xs ∧ atI xs i = some v ∧ Q v H
def rIxT (K : PySem.W.Frag) : R2 := fun x y H Q => ∃ p xs i v, x = .ref p ∧ y = .int i ∧ SqT K H p xs ∧ atI xs i = some v ∧ Q v H
def rIxS : R2 := fun x y H Q => ∃ z i c, x = .str z ∧ y = .int i ∧ z.length ≤ sizeLine ∧ atI z.cps.toList i = some c ∧ Q (.str ⟨#[c]⟩) H
theorem ix_list : IxR X (rIxL X.K) := by
  intro value slice pins s σ H x y v u Q I rx ry h hs
  obtain ⟨p, xs, i, z, rfl, rfl, hq, he, q⟩ := h
  cases rx
  obtain ⟨t, rfl⟩ := ry
  obtain ⟨its, r, pl, hz⟩ := I.list hq
  obtain ⟨j, h1, h2, h3, h4, h5⟩ := atI_get he
  obtain ⟨w, ew, rw'⟩ := r.get h2
  have hl := r.length
  have hn := line63
  have fin : EP X pins σ Q w s := ⟨z, H, I, rw', q⟩
  by_cases h0 : 0 ≤ i
  · have hj : i.toNat = j := by
      rw [seqIndex_of h0 h5] at h1
      exact Option.some.inj h1
    exact item_listR pl.isList h0 (by omega) (by rw [hj]; simpa using ew) fin hs
  · have hj : (i + (its.toArray.size : Int)).toNat = j := by
      rw [seqIndex_neg (by omega) h4] at h1
      rw [List.size_toArray, ← hl]
      exact Option.some.inj h1
    exact subscriptTail_builtinR (x := w) pl.isList.typeIs slot_list_getitem.lookup
      (wpAny_getItem_list_neg (Q := fun r s' => r = w ∧ EP X pins σ Q r s') pl.isList (by omega) (by rw [List.size_toArray] <;> omega) (by omega) (by rw [hj]; simpa using ew) ⟨rfl, fin⟩) hs
theorem ix_tup : IxR X (rIxT X.K) := by
  intro value slice pins s σ H x y v u Q I rx ry h hs
  obtain ⟨p, xs, i, z, rfl, rfl, hq, he, q⟩ := h
  cases rx
  obtain ⟨t, rfl⟩ := ry
  obtain ⟨its, r, pl, hz⟩ := I.tuple hq
  obtain ⟨j, h1, h2, h3, h4, h5⟩ := atI_get he
  obtain ⟨w, ew, rw'⟩ := r.get h2
  have hl := r.length
  have hn := line63
  have fin : EP X pins σ Q w s := ⟨z, H, I, rw', q⟩
  exact subscriptTail_builtinR (x := w) pl.typeIs slot_tuple_getitem.lookup
    (getItem_tuple (j := j) (Q := fun r s' => r = w ∧ EP X pins σ Q r s') pl (by omega) (by omega) (by rw [List.size_toArray, ← hl]; exact h1) (by simpa using ew) ⟨rfl, fin⟩) hs
theorem ix_str : IxR X rIxS := by
  intro value slice pins s σ H x y v u Q I rx ry h hs
  obtain ⟨z, i, c, rfl, rfl, hz, he, q⟩ := h
  obtain ⟨t, rfl⟩ := rx
  obtain ⟨t', rfl⟩ := ry
  obtain ⟨j, h1, h2, h3, h4, h5⟩ := atI_get he
  have hl : z.cps.toList.length = z.length := by simp [Str.length]
  rw [hl] at h1 h4 h5
  have hn := line63
  exact tail_any (typeIs_str s z t) slot_str_getitem.lookup (getItem_str (c := c) (by
    have e1 : decide (i < -(2 ^ 63 : Int)) = false := decide_eq_false (by omega)
    have e2 : decide (i ≥ 2 ^ 63) = false := decide_eq_false (by omega)
    rw [e1, e2, Bool.or_false]) (by rw [h1]; simpa using h2) ⟨.str ⟨#[c]⟩, H, I.tok _, ⟨_, rfl⟩, q⟩) hs
theorem mapSeq_set (its : List Value) (n j : Nat) (u : Value) : Obj.mapSeq (·.setIfInBounds j u) { cls := .type "list", data := .seq its.toArray n } = { cls := .type "list", data := .seq (its.set j u).toArray n } := by
  simp [Obj.mapSeq]
theorem Inv.lst {pins : List (Addr × Obj)} {σ : St} {H : Hp} {s : Shared} {p : Addr} {xs : List V} (I : Inv X pins σ H s) (h : H p = some (.lst xs)) :
    ∃ (its : List Value) (n : Nat), Vals xs its ∧ s.heap.get? p = some { cls := .type "list", data := .seq its.toArray n } ∧ xs.length ≤ sizeLine := by
  obtain ⟨z, its, n, r, e⟩ := I.hok p _ h
  exact ⟨its, n, r, e, z⟩
theorem Inv.lstUpd {pins : List (Addr × Obj)} {σ : St} {H : Hp} {s : Shared} {p : Addr} {xs ys : List V} {its its' : List Value} {n n' : Nat} {f : Obj → Obj} (I : Inv X pins σ H s) (h : H p = some (.lst xs))
    (ho : s.heap.get? p = some { cls := .type "list", data := .seq its.toArray n }) (hf : f { cls := .type "list", data := .seq its.toArray n } = { cls := .type "list", data := .seq its'.toArray n' }) (r : Vals ys its') (hz : ys.length ≤ sizeLine) (t : Nat) :
    Inv X pins σ (upd H p (.lst ys)) { s with heap := s.heap.update p f, toks := t } := by
  have e : (s.heap.update p f).get? p = some { cls := .type "list", data := .seq its'.toArray n' } := by
    rw [Heap.get?_update_self f ho (by rw [hf] <;> rfl), hf]
  refine I.write (x := p) (e := p) (by rw [h]; trivial) (.inl rfl) (fun b u hb q => (Heap.get?_update_other _ _ (Ne.symm hb)).trans q) ⟨_, e⟩ ?_
  exact ⟨hz, its', n', r, e⟩
def rSetL : V → V → V → Hp → (Hp → Prop) → Prop := fun o i v H Q => ∃ p xs k j, o = .ref p ∧ i = .int k ∧ H p = some (.lst xs) ∧ ixN xs.length k = some j ∧ Q (upd H p (.lst (xs.set j v)))
theorem set_list : PSet X rSetL := by
  intro pins s σ H o i v ov iv u Q I ro ri rv h
  obtain ⟨p, xs, k, j, rfl, rfl, hp, hj, q⟩ := h
  cases ro
  obtain ⟨t, rfl⟩ := ri
  obtain ⟨its, n, r, ho, hz⟩ := I.lst hp
  obtain ⟨h1, h2, h3, h4⟩ := ixN_seq hj
  have hl := r.length
  have hn := line63
  have I' : Inv X pins σ (upd H p (.lst (xs.set j v))) { s with heap := s.heap.update p (Obj.mapSeq (·.setIfInBounds j u)) } :=
    I.lstUpd hp ho (mapSeq_set its n j u) (r.set rv j) (by rw [List.length_set]; exact hz) s.toks
  by_cases h0 : 0 ≤ k
  · have hk : k.toNat = j := by
      rw [seqIndex_of h0 h4] at h1
      exact Option.some.inj h1
    exact PySem.W.ki_setAt ho h0 (by omega) (by rw [List.size_toArray, ← hl]; exact h4) (by rw [hk]; exact ⟨_, I', q⟩)
  · have hk : (k + (its.toArray.size : Int)).toNat = j := by
      rw [seqIndex_neg (by omega) h3] at h1
      rw [List.size_toArray, ← hl]
      exact Option.some.inj h1
    exact PySem.W.ki_setBack ho (by omega) (by rw [List.size_toArray, ← hl]; exact h3) (by omega) (by rw [hk]; exact ⟨_, I', q⟩)
theorem slice_bounds (lo hi : Option Int) (n : Nat) : (sliceBounds lo hi none n).1 = ((HT.sIx n 0 lo : Nat) : Int) ∧ (sliceBounds lo hi none n).2.1 = ((HT.sIx n n hi : Nat) : Int) ∧ (sliceBounds lo hi none n).2.2 = 1 := by
  refine ⟨?_, ?_, rfl⟩
  · cases lo with
    | none => simp [sliceBounds, HT.sIx]
    | some i =>
      simp only [sliceBounds, HT.sIx, Option.getD_none, show (1 : Int) > 0 by decide, if_true]
      by_cases h : i < 0
      · simp only [h, if_true] <;> omega
      · simp only [h, if_false] <;> omega
  · cases hi with
    | none => simp [sliceBounds, HT.sIx]
    | some i =>
      simp only [sliceBounds, HT.sIx, Option.getD_none, show (1 : Int) > 0 by decide, if_true]
      by_cases h : i < 0
      · simp only [h, if_true] <;> omega
      · simp only [h, if_false] <;> omega
theorem slicePick_cut (its : List Value) (lo hi : Option Int) : slicePick its.toArray lo hi none = ((its.drop (HT.sIx its.length 0 lo)).take (HT.sIx its.length its.length hi - HT.sIx its.length 0 lo)).toArray := by
  obtain ⟨h1, h2, h3⟩ := slice_bounds lo hi its.toArray.size
  unfold slicePick
  rw [h1, h2, h3]
  simp only [sliceRange_one, pick_run, List.size_toArray] <;> rfl
def rSlL (K : PySem.W.Frag) : V → Option Int → Option Int → Hp → VK → Prop := fun x lo hi H Q => ∃ a xs, x = .ref a ∧ SqL K H a xs ∧ ∀ p, H p = none → Q (.ref p) (upd H p (.lst (cutV xs lo hi)))
theorem sl_list : SlR X (rSlL X.K) := by
  intro pins s σ H x v vl vu lo hi sl Q I rx hs pl pu h
  obtain ⟨a, xs, rfl, hx, q⟩ := h
  cases rx
  obtain ⟨its, r, ht, hz⟩ := I.list hx
  have hlen := r.length
  refine ⟨"list", _, slot_list_getitem.lookup, ht.isList.typeIs, ?_⟩
  refine wpAny_getItem_list_slice ht.isList hs pl pu .none (by simp) ?_ (by rw [List.size_toArray] <;> omega)
  rw [slicePick_cut, ← hlen]
  refine ⟨.ref s.heap.objs.size, _, I.laid (t' := s.toks) (o := .lst (cutV xs lo hi)) (fun b ob q => Heap.get?_push_of_some _ q) (Nat.le_refl _) ?_, rfl, q _ (I.hok.fresh (Nat.le_refl _))⟩
  exact ⟨Nat.le_trans (cutV_length xs lo hi) hz, _, 0, (r.drop (HT.sIx xs.length 0 lo)).take (HT.sIx xs.length xs.length hi - HT.sIx xs.length 0 lo), Heap.get?_push_size _ rfl⟩
def flatV : V → Bool
  | .non => true
  | .bl _ => true
  | .int _ => true
  | .str _ => true
  | _ => false
def eqV : V → V → Bool
  | .non, .non => true
  | .bl a, .bl b => a == b
  | .bl a, .int b => (if a then 1 else 0) == b
  | .int a, .bl b => a == (if b then 1 else 0)
  | .int a, .int b => a == b
  | .str a, .str b => a == b
  | _, _ => false
theorem eqAt_V {A : Around} {s : Shared} {y x : V} {u v : Value} (ry : RelV y u) (rx : RelV x v) (fy : flatV y = true) (fx : flatV x = true) : SeqAt.EqAt A s u v (eqV y x) := by
  cases y with
  | non =>
    cases ry
    cases x with
    | non => cases rx; exact SeqAt.EqAt.same _
    | bl b => cases rx; exact SeqAt.EqAt.none_bool b
    | int b => obtain ⟨t, rfl⟩ := rx; exact SeqAt.EqAt.none_int b t
    | str b => obtain ⟨t, rfl⟩ := rx; exact SeqAt.EqAt.none_str b t
    | _ => exact absurd (show false = true from fx) Bool.false_ne_true
  | bl a =>
    cases ry
    cases x with
    | non => cases rx; exact SeqAt.EqAt.bool_none a
    | bl b => cases rx; exact SeqAt.EqAt.bool_bool a b
    | int b => obtain ⟨t, rfl⟩ := rx; exact SeqAt.EqAt.bool_int a b t
    | str b => obtain ⟨t, rfl⟩ := rx; exact SeqAt.EqAt.bool_str a b t
    | _ => exact absurd (show false = true from fx) Bool.false_ne_true
  | int a =>
    obtain ⟨t', rfl⟩ := ry
    cases x with
    | non => cases rx; exact SeqAt.EqAt.int_none a t'
    | bl b => cases rx; exact SeqAt.EqAt.int_bool a t' b
    | int b => obtain ⟨t, rfl⟩ := rx; exact SeqAt.EqAt.int_int a t' b t
    | str b => obtain ⟨t, rfl⟩ := rx; exact SeqAt.EqAt.int_str a t' b t
    | _ => exact absurd (show false = true from fx) Bool.false_ne_true
  | str a =>
    obtain ⟨t', rfl⟩ := ry
    cases x with
    | non => cases rx; exact SeqAt.EqAt.str_none a t'
    | bl b => cases rx; exact SeqAt.EqAt.str_bool a t' b
    | int b => obtain ⟨t, rfl⟩ := rx; exact SeqAt.EqAt.str_int a t' b t
    | str b => obtain ⟨t, rfl⟩ := rx; exact SeqAt.EqAt.str_str a t' b t
    | _ => exact absurd (show false = true from fx) Bool.false_ne_true
  | _ => exact absurd (show false = true from fy) Bool.false_ne_true
def eqU (x : V) (u : Value) : Bool := match u with
  | .none => eqV .non x
  | .bool b => eqV (.bl b) x
  | .int i _ => eqV (.int i) x
  | .str z _ => eqV (.str z) x
  | _ => false
theorem eqU_of {x y : V} {u : Value} (r : RelV y u) (f : flatV y = true) : eqU x u = eqV y x := by
  cases y with
  | non => cases r; rfl
  | bl b => cases r; rfl
  | int i => obtain ⟨t, rfl⟩ := r; rfl
  | str z => obtain ⟨t, rfl⟩ := r; rfl
  | _ => exact absurd (show false = true from f) Bool.false_ne_true
theorem any_eqU {x : V} : ∀ {xs : List V} {us : List Value}, Vals xs us → xs.all flatV = true → us.any (eqU x) = xs.any fun y => eqV y x
  | _, _, .nil, _ => rfl
  | y :: xs, u :: us, .cons r t, f => by
    rw [List.all_cons, Bool.and_eq_true] at f
    rw [List.any_cons, List.any_cons, eqU_of r f.1, any_eqU t f.2]
theorem mem_eqAt {A : Around} {s : Shared} {x : V} {v : Value} (rx : RelV x v) (fx : flatV x = true) : ∀ {xs : List V} {us : List Value}, Vals xs us → xs.all flatV = true → ∀ u ∈ us, SeqAt.EqAt A s u v (eqU x u)
  | _, _, .nil, _ => fun u hu => by cases hu
  | y :: xs, u :: us, .cons r t, f => fun u' hu => by
    rw [List.all_cons, Bool.and_eq_true] at f
    rcases List.mem_cons.mp hu with rfl | hu
    · rw [eqU_of r f.1]; exact eqAt_V r rx f.1 fx
    · exact mem_eqAt rx fx t f.2 u' hu
def inV (x : V) (xs : List V) : Bool := xs.any fun y => eqV y x
def rIn (K : PySem.W.Frag) (neg : Bool) : R2 := fun x y H Q => ∃ p xs, y = .ref p ∧ (SqL K H p xs ∨ SqT K H p xs) ∧ flatV x = true ∧ xs.all flatV = true ∧ Q (.bl (if neg then !inV x xs else inV x xs)) H
theorem op_in_seq : OpR X (compareOp .In) (rIn X.K false) := by
  intro pins s σ H x y v u Q I rx ry h
  obtain ⟨p, xs, rfl, hq, fx, fs, q⟩ := h
  cases ry
  rcases hq with hq | hq
  · obtain ⟨its, r, pl, hz⟩ := I.list hq
    refine SeqAt.in_listAt (eqU x) pl.isList (fun w hw => mem_eqAt rx fx r fs w (by simpa using hw)) ⟨.bl _, H, I, rfl, ?_⟩
    rw [show its.toArray.any (eqU x) = its.any (eqU x) by simp, any_eqU r fs]
    exact q
  · obtain ⟨its, r, pl, hz⟩ := I.tuple hq
    refine SeqAt.in_tupleAt (eqU x) pl (fun w hw => mem_eqAt rx fx r fs w (by simpa using hw)) ⟨.bl _, H, I, rfl, ?_⟩
    rw [show its.toArray.any (eqU x) = its.any (eqU x) by simp, any_eqU r fs]
    exact q
theorem call_len_seq : CallR X (.builtin "len") (fun xs H Q => ∃ p ys, xs = [.ref p] ∧ (SqL X.K H p ys ∨ SqT X.K H p ys) ∧ Q (.int ys.length) H) := by
  intro pins s σ H xs us Q I r h
  obtain ⟨p, ys, rfl, hq, q⟩ := h
  obtain ⟨u, rfl, rx⟩ := vals1 r
  cases rx
  have hn := line63
  rcases hq with hq | hq
  · obtain ⟨its, r', pl, hz⟩ := I.list hq
    have hlen := r'.length
    exact Calls.call_len_list pl.isList (by simp only [List.size_toArray] <;> omega) ⟨.int ys.length, H, I.tok _, ⟨s.toks + 1, by rw [List.size_toArray, hlen]⟩, q⟩
  · obtain ⟨its, r', pl, hz⟩ := I.tuple hq
    have hlen := r'.length
    exact len_tuple pl (by simp only [List.size_toArray] <;> omega) ⟨.int ys.length, H, I.tok _, ⟨s.toks + 1, by rw [List.size_toArray, hlen]⟩, q⟩
theorem call_len_str : CallR X (.builtin "len") (fun xs H Q => ∃ z, xs = [.str z] ∧ z.length ≤ sizeLine ∧ Q (.int z.length) H) := by
  intro pins s σ H xs us Q I r h
  obtain ⟨z, rfl, hz, q⟩ := h
  obtain ⟨u, rfl, t, rfl⟩ := vals1 r
  have hn := line63
  exact len_str (by omega) ⟨.int z.length, H, I.tok _, ⟨_, rfl⟩, q⟩
theorem call_list_of : CallR X (.type "list") (fun xs H Q => ∃ p ys, xs = [.ref p] ∧ (SqL X.K H p ys ∨ SqT X.K H p ys) ∧ ∀ l, H l = none → Q (.ref l) (upd H l (.lst ys))) := by
  intro pins s σ H xs us Q I r h
  obtain ⟨p, ys, rfl, hq, q⟩ := h
  obtain ⟨u, rfl, rx⟩ := vals1 r
  cases rx
  have fin : ∀ (its : List Value), Vals ys its → ys.length ≤ sizeLine → ∀ (h' : Heap) (c' : Nat), (∀ b o', s.heap.get? b = some o' → h'.get? b = some o') →
      h'.get? s.heap.objs.size = some { cls := .type "list", dict := none, data := .seq its.toArray c', slots := #[] } → EP X pins σ Q (.ref s.heap.objs.size) { s with heap := h' } := fun its r' hz h' c' kp e =>
    ⟨.ref s.heap.objs.size, _, I.laid (t' := s.toks) kp (Nat.le_refl _) (show ObjOk X.prog X.w _ h' _ (.lst ys) from ⟨hz, its, c', r', e⟩), rfl, q _ (I.hok.fresh (Nat.le_refl _))⟩
  rcases hq with hq | hq
  · obtain ⟨its, r', pl, hz⟩ := I.list hq
    have hlen := r'.length
    obtain ⟨o, ho, hc, n, hd⟩ := pl.isList
    exact call_list_seq p (.inl rfl) ho hc hd (fun h' c' kp e => fin its r' hz h' c' kp e) (by simp only [List.size_toArray] <;> omega)
  · obtain ⟨its, r', pl, hz⟩ := I.tuple hq
    have hlen := r'.length
    obtain ⟨o, ho, hc, n, hd⟩ := pl
    exact call_list_seq p (.inr rfl) ho hc hd (fun h' c' kp e => fin its r' hz h' c' kp e) (by simp only [List.size_toArray] <;> omega)
theorem call_tuple_of : CallR X (.type "tuple") (fun xs H Q => ∃ p ys, xs = [.ref p] ∧ ((SqL X.K H p ys ∧ ∀ l, H l = none → Q (.ref l) (upd H l (.tup ys))) ∨ (SqT X.K H p ys ∧ Q (.ref p) H))) := by
  intro pins s σ H xs us Q I r h
  obtain ⟨p, ys, rfl, h⟩ := h
  obtain ⟨u, rfl, rx⟩ := vals1 r
  cases rx
  rcases h with ⟨hq, q⟩ | ⟨hq, q⟩
  · obtain ⟨its, r', pl, hz⟩ := I.list hq
    have hlen := r'.length
    refine call_tuple_list pl.isList (fun h' kp => ?_) (by simp only [List.size_toArray] <;> omega)
    have I1 : Inv X pins σ H { s with heap := h' } := I.kept (t' := s.toks) kp
    have I2 : Inv X pins σ (upd H h'.objs.size (.tup ys)) { s with heap := h'.push { cls := .type "tuple", data := .seq its.toArray } } :=
      I1.laid (t' := s.toks) (fun b o e => Heap.get?_push_of_some _ e) (Nat.le_refl _) (show ObjOk X.prog X.w _ _ _ (.tup ys) from ⟨hz, its, r', IsTup.new _ _⟩)
    exact ⟨.ref h'.objs.size, _, I2, rfl, q _ (I1.hok.fresh (Nat.le_refl _))⟩
  · obtain ⟨its, r', pl, hz⟩ := I.tuple hq
    exact call_tuple_same pl ⟨.ref p, H, I, rfl, q⟩
def tyV (K : PySem.W.Frag) (T : String) (x : V) (H : Hp) : Prop := match x with
  | .str _ => T = "str"
  | .int _ => T = "int"
  | .ref p => (T = "list" ∧ ∃ xs, SqL K H p xs) ∨ (T = "tuple" ∧ ∃ o, K.lookup p = some o ∧ o.cls = .type "tuple" ∧ o.dict = none) ∨
      (T = "dict" ∧ ((∃ kvs, H p = some (.dK kvs)) ∨ ∃ kvs, H p = some (.dT kvs))) ∨ (T = "set" ∧ ∃ S n, H p = some (.set S n))
  | _ => False
theorem tyV_is {pins : List (Addr × Obj)} {σ : St} {H : Hp} {s : Shared} {T : String} {x : V} {v : Value} (I : Inv X pins σ H s) (r : RelV x v) (ty : tyV X.K T x H) :
    s.TypeIs v T ∧ ∀ a, v = .ref a → ∃ ob, s.heap.get? a = some ob ∧ ob.dict = none := by
  cases x with
  | str z =>
    obtain ⟨t, rfl⟩ := r
    cases (show T = "str" from ty)
    exact ⟨typeIs_str s z t, fun _ e => nomatch e⟩
  | int i =>
    obtain ⟨t, rfl⟩ := r
    cases (show T = "int" from ty)
    exact ⟨typeIs_int s i t, fun _ e => nomatch e⟩
  | ref p =>
    cases r
    rcases ty with ⟨rfl, xs, hq⟩ | ⟨rfl, o, hk, hc, hd⟩ | ⟨rfl, hk⟩ | ⟨rfl, S, n, hk⟩
    · obtain ⟨its, _, pl, _⟩ := I.list hq
      refine ⟨pl.isList.typeIs, fun a e => ?_⟩
      cases e
      obtain ⟨o, n, e, c, hd, _⟩ := pl
      exact ⟨o, e, hd⟩
    · refine ⟨⟨o, I.kIn p o hk, hc⟩, fun a e => ?_⟩
      cases e
      exact ⟨o, I.kIn _ o hk, hd⟩
    · have z : ∃ o, s.heap.get? p = some o ∧ o.ExactDict := by
        rcases hk with ⟨kvs, hk⟩ | ⟨kvs, hk⟩
        · obtain ⟨_, _, _, _, o, _, _, e, ex, _⟩ := I.hok p _ hk
          exact ⟨o, e, ex⟩
        · obtain ⟨_, _, _, _, o, _, _, e, ex, _⟩ := I.hok p _ hk
          exact ⟨o, e, ex⟩
      obtain ⟨o, e, ex⟩ := z
      refine ⟨⟨o, e, ex.1⟩, fun a e2 => ?_⟩
      cases e2
      exact ⟨o, e, ex.2.1⟩
    · obtain ⟨o, _, _, _, e, ex, _⟩ := I.hok p _ hk
      refine ⟨⟨o, e, ex.1⟩, fun a e2 => ?_⟩
      cases e2
      exact ⟨o, e, ex.2.1⟩
  | _ => exact False.elim ty
def tBM0 (K : PySem.W.Frag) (T : String) (r : V → List V → Hp → VK → Prop) (to : TE) : TE := fun σ H Q => to σ H fun x H1 => tyV K T x H1 ∧ r x [] H1 Q
def tBM (K : PySem.W.Frag) (T : String) (r : V → List V → Hp → VK → Prop) (to : TE) (t : TA) : TE := fun σ H Q => to σ H fun x H1 => tyV K T x H1 ∧ t σ H1 fun xs H2 => r x xs H2 Q
variable {o e : Expr} {es : List Expr} {to : TE} {t : TA} {name : Str} {apos cpos : Pos} {T id : String} {r : V → List V → Hp → VK → Prop}
theorem pe_bm0 (pa : PlainAttrs T) (slot : Slot T name id) (hty : typeOf (.builtin id) = pure (.type "method_descriptor")) (hm : MtR X id r) (ho : PE X o to)
    (hbase : attributeBase o name X.env (eval o X.env) = eval o X.env := by rfl) (hline : (apos.endLine == cpos.line) = true := by rfl) : PE X (.Call (.Attribute o name apos) [] [] cpos) (tBM0 X.K T r to) := by
  intro pins s σ H Q I h
  refine wpAny_Call_method0_late hbase hline (thn (ho pins s σ H _ I h) fun v s1 ⟨x, H1, I1, r1, ty, q1⟩ => ?_)
  obtain ⟨h1, h2⟩ := tyV_is I1 r1 ty
  exact ⟨T, id, pa, slot, hty, h1, h2, Calls.callWith_builtin rfl (PySem.evalArgs_none (hm pins s1 σ H1 x [] v [] Q I1 r1 .nil q1))⟩
theorem pe_bm (pa : PlainAttrs T) (slot : Slot T name id) (hty : typeOf (.builtin id) = pure (.type "method_descriptor")) (hm : MtR X id r) (ho : PE X o to) (ha : PA X (e :: es) t)
    (hbase : attributeBase o name X.env (eval o X.env) = eval o X.env := by rfl)
    (hfew : ((backTo cpos (starEach (e :: es) X.env)).all (fun x => !x.1) && (backToKw cpos (keywordEach [] X.env)).all (fun x => x.1.isSome)
      && decide ((e :: es).length + ([] : List Keyword).length + (if ([] : List Keyword).isEmpty then 0 else 1) < 30)) = true := by rfl)
    (hline : (apos.endLine == cpos.line) = true := by rfl) (hs : starEach (e :: es) X.env = (false, eval e X.env) :: starEach es X.env := by rfl) (hplain : (backTo cpos (starEach es X.env)).any (·.1) = false := by rfl) :
    PE X (.Call (.Attribute o name apos) (e :: es) [] cpos) (tBM X.K T r to t) := by
  intro pins s σ H Q I h
  refine wpAny_Call_method_late hbase hfew hline rfl (thn (ho pins s σ H _ I h) fun v s1 ⟨x, H1, I1, r1, ty, q1⟩ => ?_)
  obtain ⟨h1, h2⟩ := tyV_is I1 r1 ty
  refine ⟨T, id, pa, slot, hty, h1, h2, ?_⟩
  have hA := ha cpos pins s1 σ H1 _ I1 q1
  rw [hs] at hA ⊢
  refine Calls.callWith_builtin (by show (false || (backTo cpos (starEach es X.env)).any (·.1)) = false; rw [hplain] <;> rfl) (Calls.evalArgs_plain ?_)
  exact thn hA fun us s2 ⟨vs, H2, I2, r2, q2⟩ => hm pins s2 σ H2 x vs v us Q I2 r1 r2 q2
/- xs.append(e), list.index on a module's tuple .. are MtR facts of 06m -/
end
end L2
namespace L2
open PySem PySem.Spec PyProof.Rows
def MtM (X : Cx) (id : String) (r : V → List V → Hp → VK → Prop) : Prop :=
  ∀ (pins : List (Addr × Obj)) (s : Shared) (σ : St) (H : Hp) (x : V) (xs : List V) (v : Value) (us : List Value) (Q : VK), Inv X pins σ H s → RelV x v → Vals xs us → r x xs H Q →
    wpAny (model X.prog X.w) X.A (call (.builtin id) (v :: us)) (EP X pins σ Q) X.xe s
theorem Vals.one {x : V} {us : List Value} (h : Vals [x] us) : ∃ u, us = [u] ∧ RelV x u := vals1 h
theorem Vals.zero : ∀ {us : List Value}, Vals [] us → us = []
  | _, .nil => rfl
theorem Vals.dropLast {xs : List V} {us : List Value} (h : Vals xs us) : Vals xs.dropLast us.dropLast := by
  induction h with
  | nil => exact .nil
  | cons r t ih =>
    cases t with
    | nil => exact .nil
    | cons q t' => exact .cons r ih
theorem Vals.eraseIdx : ∀ {xs : List V} {us : List Value} (i : Nat), Vals xs us → Vals (xs.eraseIdx i) (us.eraseIdx i)
  | _, _, _, .nil => .nil
  | _, _, 0, .cons _ t => t
  | _, _, i + 1, .cons r t => .cons r (Vals.eraseIdx i t)
theorem Vals.rep {xs : List V} {us : List Value} (h : Vals xs us) : ∀ k : Nat, Vals (List.replicate k xs).flatten (List.replicate k us).flatten
  | 0 => .nil
  | k + 1 => by
    rw [List.replicate_succ, List.replicate_succ, List.flatten_cons, List.flatten_cons]
    exact Vals.append h (Vals.rep h k)
theorem erase_last {α : Type} (l : List α) : l.eraseIdx (l.length - 1) = l.dropLast := by
  induction l with
  | nil => rfl
  | cons a r ih =>
    cases r with
    | nil => rfl
    | cons b r =>
      have e : (a :: b :: r).length - 1 = ((b :: r).length - 1) + 1 := by
        have h1 : (a :: b :: r).length = r.length + 2 := rfl
        have h2 : (b :: r).length = r.length + 1 := rfl
        omega
      rw [e, List.eraseIdx_cons_succ, ih]
      all_goals rfl
theorem len_erase {α : Type} : ∀ (l : List α) (i : Nat), (l.eraseIdx i).length ≤ l.length
  | [], _ => Nat.le_refl _
  | _ :: _, 0 => Nat.le_succ _
  | _ :: r, i + 1 => Nat.succ_le_succ (len_erase r i)
theorem foldl_rep (its : List Value) : ∀ (k : Nat) (acc : List Value),
    List.foldl (fun x1 x2 => x1 ++ x2) acc.toArray (List.replicate k its.toArray) = (acc ++ (List.replicate k its).flatten).toArray
  | 0, acc => by simp
  | k + 1, acc => by
    have e : acc.toArray ++ its.toArray = (acc ++ its).toArray := by simp
    have e2 : (acc ++ its) ++ (List.replicate k its).flatten = acc ++ (List.replicate (k + 1) its).flatten := by
      rw [List.replicate_succ, List.flatten_cons, List.append_assoc]
    rw [← e2, ← foldl_rep its k (acc ++ its), ← e, List.replicate_succ, List.foldl_cons]
section
variable {X : Cx} {pins : List (Addr × Obj)} {σ : St} {H : Hp} {s : Shared} {l b : Addr} {xs ys zs : List V}
theorem Inv.lset {its its' : List Value} {n : Nat} {f : Array Value → Array Value} {t' : Nat} (I : Inv X pins σ H s) (hH : H l = some (.lst xs))
    (e : s.heap.get? l = some { cls := .type "list", data := .seq its.toArray n }) (hf : f its.toArray = its'.toArray) (hv : Vals ys its') (hz : ys.length ≤ sizeLine) :
    Inv X pins σ (upd H l (.lst ys)) { s with heap := s.heap.update l (Obj.mapSeq f), toks := t' } := by
  have q := PySem.IsL.update e f
  rw [hf] at q
  refine I.write (x := l) (e := l) (by rw [hH]; exact trivial) (.inl rfl) (fun b' u hb hu => (Heap.get?_update_other s.heap (Obj.mapSeq f) (Ne.symm hb)).trans hu) ⟨_, q⟩ ?_
  exact ⟨hz, its', _, hv, q⟩
theorem Inv.lnew {its : List Value} {t' : Nat} (I : Inv X pins σ H s) (hv : Vals ys its) (hz : ys.length ≤ sizeLine) :
    Inv X pins σ (upd H s.heap.objs.size (.lst ys)) { s with heap := s.heap.push { cls := .type "list", data := .seq its.toArray }, toks := t' } :=
  I.laid (fun _ _ q => Heap.get?_push_of_some _ q) (Nat.le_refl _) ⟨hz, its, 0, hv, Heap.get?_push_size _ rfl⟩
theorem Inv.fresh (I : Inv X pins σ H s) : H s.heap.objs.size = none := I.hok.fresh (Nat.le_refl _)
theorem Inv.lstM (I : Inv X pins σ H s) (hH : H l = some (.lst xs)) : xs.length ≤ sizeLine ∧ ∃ (its : List Value) (n : Nat), Vals xs its ∧ xs.length = its.length ∧ s.heap.get? l = some { cls := .type "list", data := .seq its.toArray n } := by
  obtain ⟨z, its, n, r, e⟩ := I.hok l _ hH
  exact ⟨z, its, n, r, r.length, e⟩
theorem notLongL {n : Nat} (h : n ≤ sizeLine) : Builtin.List.listTooLong n = false := by
  unfold Builtin.List.listTooLong
  exact decide_eq_false (by omega)
end
section
variable {X : Cx}
def rAppend : V → List V → Hp → VK → Prop := fun x vs H Q => ∃ l xs y, x = .ref l ∧ vs = [y] ∧ H l = some (.lst xs) ∧ xs.length < sizeLine ∧ Q .non (upd H l (.lst (xs ++ [y])))
theorem mt_append : MtM X "list.append" rAppend := by
  intro pins s σ H x vs v us Q I rx rv h
  obtain ⟨l, xs, y, rfl, rfl, hH, hz, q⟩ := h
  cases rx
  obtain ⟨u, rfl, ru⟩ := rv.one
  obtain ⟨z, its, n, r, hl, e⟩ := I.lstM hH
  refine call_meets F.slot_list_append ⟨_, e, rfl⟩ F.entry_list_append (F.args_list_append_2 _ _) (PySem.list_append l its.toArray n u (by rw [List.size_toArray]; omega)) ⟨e, ?_⟩
  refine ⟨.non, _, I.lset (its' := its ++ [u]) hH e (by simp) (r.append (.cons ru .nil)) ?_, rfl, q⟩
  rw [List.length_append, List.length_singleton]
  omega
def rPop : V → List V → Hp → VK → Prop := fun x vs H Q => ∃ l xs y, x = .ref l ∧ vs = [] ∧ H l = some (.lst xs) ∧ xs[xs.length - 1]? = some y ∧ Q y (upd H l (.lst xs.dropLast))
theorem mt_pop : MtM X "list.pop" rPop := by
  intro pins s σ H x vs v us Q I rx rv h
  obtain ⟨l, xs, y, rfl, rfl, hH, hy, q⟩ := h
  cases rx
  have hus := rv.zero
  subst hus
  obtain ⟨z, its, n, r, hl, e⟩ := I.lstM hH
  obtain ⟨u, hu, ru⟩ := r.get hy
  have hy' : its.toArray[its.toArray.size - 1]? = some u := by
    show its.toArray[its.length - 1]? = some u
    rw [← Array.getElem?_toList, ← hl]
    exact hu
  refine call_meets F.slot_list_pop ⟨_, e, rfl⟩ F.entry_list_pop (F.args_list_pop_1 _) (MeetsSeq.list_pop_last l its.toArray n u hy' (by rw [List.size_toArray]; omega)) ⟨e, ?_⟩
  refine ⟨y, _, I.lset (its' := its.dropLast) hH e ?_ r.dropLast ?_, ru, q⟩
  · show its.toArray.eraseIdxIfInBounds (its.toArray.size - 1) = its.dropLast.toArray
    rw [List.size_toArray, List.eraseIdxIfInBounds_toArray, erase_last]
  · rw [List.length_dropLast]
    omega
def rPopAt : V → List V → Hp → VK → Prop := fun x vs H Q => ∃ l xs i k y, x = .ref l ∧ vs = [.int i] ∧ H l = some (.lst xs) ∧ -(2 ^ 63) ≤ i ∧ i < 2 ^ 63 ∧ seqIndex? i xs.length = some k ∧ xs[k]? = some y ∧ Q y (upd H l (.lst (xs.eraseIdx k)))
theorem mt_popAt : MtM X "list.pop" rPopAt := by
  intro pins s σ H x vs v us Q I rx rv h
  obtain ⟨l, xs, i, k, y, rfl, rfl, hH, h1, h2, hk, hy, q⟩ := h
  cases rx
  obtain ⟨u, rfl, ru⟩ := rv.one
  obtain ⟨t, rfl⟩ := ru
  obtain ⟨z, its, n, r, hl, e⟩ := I.lstM hH
  obtain ⟨w, hw, rw'⟩ := r.get hy
  refine call_meets F.slot_list_pop ⟨_, e, rfl⟩ F.entry_list_pop (F.args_list_pop_2 _ _)
    (MeetsSeq.list_pop_at l its.toArray n i t k w (fitsIndex_both h1 h2) (by rw [List.size_toArray, ← hl]; exact hk) (by rw [← Array.getElem?_toList]; exact hw) (by rw [List.size_toArray]; omega)) ⟨e, ?_⟩
  refine ⟨y, _, I.lset (its' := its.eraseIdx k) hH e ?_ (r.eraseIdx k) ?_, rw', q⟩
  · show its.toArray.eraseIdxIfInBounds k = (its.eraseIdx k).toArray
    rw [List.eraseIdxIfInBounds_toArray]
  · have := len_erase xs k
    omega
def rCat : R2 := fun x y H Q => ∃ l b xs zs, x = .ref l ∧ y = .ref b ∧ H l = some (.lst xs) ∧ H b = some (.lst zs) ∧ xs.length + zs.length ≤ sizeLine ∧ ∀ p, H p = none → Q (.ref p) (upd H p (.lst (xs ++ zs)))
theorem op_cat : OpR X (binaryOp .Add) rCat := by
  intro pins s σ H x y v u Q I rx ry h
  obtain ⟨l, b, xs, zs, rfl, rfl, hH, hB, hz, q⟩ := h
  cases rx
  cases ry
  obtain ⟨z, its, n, r, hl, e⟩ := I.lstM hH
  obtain ⟨z2, its2, n2, r2, hl2, e2⟩ := I.lstM hB
  refine PySem.P.add_list e e2 ?_ (by rw [List.size_toArray, List.size_toArray]; omega)
  have ea : its.toArray ++ its2.toArray = (its ++ its2).toArray := by simp
  rw [ea]
  exact ⟨.ref _, _, I.lnew (t' := s.toks) (r.append r2) (by rw [List.length_append]; omega), rfl, q _ I.fresh⟩
def rRep : R2 := fun x y H Q => ∃ l k xs, x = .ref l ∧ y = .int k ∧ H l = some (.lst xs) ∧ -(2 ^ 63) ≤ k ∧ k < 2 ^ 63 ∧ xs.length * k.toNat ≤ sizeLine ∧
  ∀ p, H p = none → Q (.ref p) (upd H p (.lst (List.replicate k.toNat xs).flatten))
theorem len_rep {α : Type} (xs : List α) (k : Nat) : (List.replicate k xs).flatten.length = k * xs.length := by
  induction k with
  | zero => simp
  | succ k ih => rw [List.replicate_succ, List.flatten_cons, List.length_append, ih, Nat.succ_mul, Nat.add_comm]
theorem op_rep : OpR X (binaryOp .Mult) rRep := by
  intro pins s σ H x y v u Q I rx ry h
  obtain ⟨l, k, xs, rfl, rfl, hH, h1, h2, hz, q⟩ := h
  cases rx
  obtain ⟨t, rfl⟩ := ry
  obtain ⟨z, its, n, r, hl, e⟩ := I.lstM hH
  have hlen : its.toArray.size * k.toNat ≤ sizeLine := by rw [List.size_toArray, ← hl]; exact hz
  have hcap : ¬ its.toArray.size * k.toNat > (2 ^ 63 - 1) / 8 := by
    have : (sizeLine : Nat) ≤ (2 ^ 63 - 1) / 8 := by decide
    omega
  have hfit : ¬ (!Builtin.List.listFitsIndex k) = true := by
    rw [fitsIndex_both h1 h2]
    exact Bool.false_ne_true
  have hlong : ¬ Builtin.List.listTooLong (its.toArray.size * k.toNat) = true := by
    rw [notLongL hlen]
    exact Bool.false_ne_true
  have hnew : List.foldl (fun x1 x2 => x1 ++ x2) #[] (List.replicate (if its.toArray.isEmpty = true then 0 else k.toNat) its.toArray) = (List.replicate k.toNat its).flatten.toArray := by
    have f0 : ∀ m : Nat, List.foldl (fun x1 x2 => x1 ++ x2) #[] (List.replicate m its.toArray) = (List.replicate m its).flatten.toArray := fun m => by
      have := foldl_rep its m []
      rw [List.nil_append] at this
      exact this
    rw [f0]
    cases its with
    | nil => simp
    | cons a r' => rw [if_neg (by simp)]
  refine wpAny_binaryOp_repeat_ref (T := "list") (U := "int") (by decide) ⟨_, e, rfl⟩ (fun s' => typeIs_int s' k t) noFill_list_mul F.fills_int_mul F.slot_int_rmul repeat_list F.slot_int_index.lookup
    (call_meets F.slot_int_rmul (typeIs_int s k t) F.entry_int_rmul (F.args_int_rmul_2 _ _) (int___rmul___int_list k t l its.toArray n)
      ⟨e, rfl, ⟨_, e, rfl⟩, call_meets F.slot_list_mul ⟨_, e, rfl⟩ F.entry_list_mul (F.args_list_mul_2 _ _) (AutoListH.list___mul___list_int_3 l its.toArray n k t hfit hcap hlong) ⟨e, ?_⟩⟩)
  rw [hnew]
  exact ⟨.ref _, _, I.lnew (t' := s.toks) (r.rep k.toNat) (by rw [len_rep, Nat.mul_comm]; exact hz), rfl, q _ I.fresh⟩
end
section
variable {prog : Program} {w : World} {A : Around} {E : Value → Shared → Prop} {s : Shared}
end
section
variable {X : Cx}
end
end L2
namespace Att
open PySem PySem.W PySem.Calls PyProof.Rows
theorem ints_of_wellAll {P : Params} {h : Heap} : ∀ (ns : List Int) (vs : List Value), WellAll P h vs (ns.map WData.int) → IntsAre vs ns := by
  intro ns
  induction ns with
  | nil =>
    intro vs w
    rw [List.map_nil] at w
    cases w
    exact .nil
  | cons n ns ih =>
    intro vs w
    rw [List.map_cons] at w
    cases w with
    | cons a b =>
      cases a
      exact .cons _ _ (ih _ b)
theorem script_of {l : OpenLaw} {n : Nat} (hn : l.most = some n) {P : Params} {h : Heap} {args : List WData} {vals : List Value}
    (hpre : l.row.toRowW.claim.pre args = true) (hwl : WellAll P h vals args) :
    ∃ a vs ns, vals = [Value.ref a] ∧ args = [WData.list (ns.map WData.int)] ∧ h.get? a = some { cls := .type "list", data := .seq vs.toArray } ∧ IntsAre vs ns ∧ ns.length ≤ n := by
  have hsh : WShape.hasAll [] args [.list .int] = true := (pre_splitW hpre).1
  have hc : l.pre.holds [] { args := args } = true := (pre_splitW hpre).2
  obtain ⟨d, r, rfl, h1, h2⟩ := hasAllW_cons hsh
  obtain rfl := hasAllW_nil h2
  obtain ⟨xs, rfl, h3⟩ := hasW_list h1
  obtain ⟨ns, rfl⟩ := items_int h3
  have hlen : ns.length ≤ n := by
    unfold OpenLaw.pre at hc
    have h4 : (WTm.not (.lt (.lit (.int (n : Int))) (.len (.arg 0)))).holds [] { args := [.list (ns.map .int)] } = true := by
      have h4 := (holds_andW hc).1
      rw [hn] at h4
      exact h4
    have h5 := condW_of h4 (w_not (w_lt w_lit (w_len_list (w_arg rfl))))
    rw [List.length_map] at h5
    refine Nat.le_of_not_lt fun q => ?_
    have q' : (n : Int) < ((ns.length : Nat) : Int) := by omega
    first
      | (rw [decide_eq_true q'] at h5; exact absurd h5 (by decide))
      | (simp at h5; omega)
  cases hwl with
  | cons w1 w2 =>
    cases w2
    cases w1 with
    | list ho hall => exact ⟨_, _, ns, rfl, rfl, ho, ints_of_wellAll ns _ hall, hlen⟩
theorem post_true (l : OpenLaw) (args : List WData) : l.row.toRowW.claim.post args (.bool true) args = true :=
  postW_of (r := l.row.toRowW) (X := (true == true))
    (show WShape.has [] (.bool true) .bool = true by first | rfl | decide | simp [WShape.has, WShape.arms, WShape.armsAll])
    (show (WTm.eq .res (.lit (.bool true))).value [] { args := args, res := some (.bool true), after := args } = some (.bool (true == true)) from w_eq_bool (w_res rfl) w_lit) rfl
theorem attach_call {l : OpenLaw} {n : Nat} {q : Program} {loose : List Str} {XP : (Str → Option Value) → Heap → Prop} {YP : World → Heap → Prop} {d : DefRec}
    (hn : l.most = some n) (hdf : d.params.defaults = [])
    (call : ∀ (w : World) (s₀ s₁ : Shared) (mg mb : Str → Option Value) (fa : Addr) (o : Obj) (pm cd doc : Value) (a : Addr) (vs : List Value) (ns : List Int),
      Ground q loose [] XP w s₀ mg mb s₁.heap → YP w s₁.heap →
      s₁.heap.get? fa = some o → o.data = .func (docDef d.name d.params d.body d.scope pm cd doc) → s₁.heap.CodeRec cd d.name → mg d.name = some (.ref fa) →
      s₁.heap.get? a = some { cls := .type "list", data := .seq vs.toArray } → IntsAre vs ns → ns.length ≤ n → s₁.gens = #[] →
      codeAny (model l.prog w) callerA (.call (.ref fa) ⟨[.ref a], []⟩) (fun r s' => r = .ok (.ret (.bool true)) ∧ OldK s₁.heap s'.heap ∧ s'.os = s₁.os ∧ AllBare s'.gens) s₁) :
    WalkO q loose XP YP l.row.toRowW d [] (fun f vs => PySem.call f vs) := by
  intro w s₀ s₁ mg mb G Y fa o pm cd doc dV kV ho hd hcd hD hmg hg args vals as hpre hlay hrd hwl hlo
  obtain rfl : dV = .none := Dflts.none hD hdf
  obtain rfl : kV = .none := Dflts.noKw hD
  obtain ⟨a, vs, ns, rfl, rfl, hobj, hints, hlen⟩ := script_of hn hpre hwl
  refine enter_call (codeAny_mono (call w s₀ s₁ mg mb fa o pm cd doc a vs ns G Y ho (fd_plain hd) hcd hmg hobj hints hlen hg) fun r s' hq => ?_)
  obtain ⟨rfl, h2, h3, h4⟩ := hq
  exact ⟨.inl ⟨.bool true, .bool true, [], rfl, fun _ => rfl, .bool true, post_true l _, fun _ => ⟨List.Pairwise.nil, fun _ hm => (nomatch hm)⟩⟩, h2, h3, h4⟩
section
variable {prog : Program} {w : World} {A : Around} {E : Value → Shared → Prop} {s : Shared} {K : Frag}
end
end Att
namespace L2
open PySem PySem.Spec PyProof.Rows
theorem vals_ints : ∀ {vs : List Value} {ns : List Int}, IntsAre vs ns → Vals (ns.map V.int) vs
  | _, _, .nil => .nil
  | _, _, .cons n t h => .cons ⟨t, rfl⟩ (vals_ints h)
def Only (H : Hp) : Prop := ∀ b, H b = none ∨ ∃ o xs, H b = some (.frz o (.lst xs))
theorem law_call {P : Program} {w : World} {K : PySem.W.Frag} {mg mb : Str → Option Value} {CX : CXT} {k : Nat} {fa a : Addr} {fd : FuncData} {x : Str} {sp : Sp} {s₁ : Shared} {vs : List Value} {ns : List Int}
    (KX : K.In s₁.heap) (hns : s₁.heap.Ns mainGlobals mg) (hb : s₁.heap.Ns builtinsNs mb) (hbb : ∀ x : Str, x ≠ "__name__" → mb x = bootBuiltins x) (hlim : s₁.heap.NoLimit) (hg : s₁.gens = #[])
    (ha : s₁.heap.get? a = some { cls := .type "list", data := .seq vs.toArray }) (hi : IntsAre vs ns) (hl : ns.length ≤ sizeLine) (hr : Room k callerA)
    (F : ∀ base : Heap, K.In base → base.Ns mainGlobals mg → FnOk P w K mg base CX k fa fd [x] sp) (hbind : ∀ (s : Shared) (u : Value), BindsTo s fd ⟨[u], []⟩ [(x, u)])
    (hsp : ∀ H : Hp, Only H → SqL K H a (ns.map V.int) → sp [.ref a] H (fun v _ => v = .bl true) fun _ _ _ => False)
    (hCX : ∀ H e s', CX [] H s₁ (fun _ _ _ => False) e s' → False) :
    codeAny (model P w) callerA (.call (.ref fa) ⟨[.ref a], []⟩) (fun r s' => r = .ok (.ret (.bool true)) ∧ OldK s₁.heap s'.heap ∧ s'.os = s₁.os ∧ AllBare s'.gens) s₁ := by
  have rv := vals_ints hi
  have lenV := hi.length
  -- from an abstract heap in which nothing but the script may be tracked
  have core : ∀ H : Hp, Only H → SqL K H a (ns.map V.int) → HOk P w H s₁.heap → (∀ b, H b ≠ none → b = a) → (H a ≠ none → K.lookup a = none) →
      codeAny (model P w) callerA (.call (.ref fa) ⟨[.ref a], []⟩) (fun r s' => r = .ok (.ret (.bool true)) ∧ OldK s₁.heap s'.heap ∧ s'.os = s₁.os ∧ AllBare s'.gens) s₁ := by
    intro H hO hS hok hA hK
    have base_of : ∀ {b : Addr} {o : Obj}, s₁.heap.get? b = some o → H b = none → (hidT s₁.heap H).get? b = some o := fun e n => hidT_get e n
    have noA : ∀ {b : Addr} {o : Obj} {es : Array DictEntry} {ep : Nat}, s₁.heap.get? b = some o → o.data = .dict es ep → H b = none := fun {b o es ep} e d => by
      cases q : H b with
      | none => rfl
      | some u =>
        have e' : b = a := hA b (by rw [q]; simp)
        subst e'
        rw [ha] at e; cases e
        have d' : Data.seq vs.toArray _ = Data.dict es ep := d
        cases d'
    have nsK : ∀ {b : Addr} {m : Str → Option Value}, s₁.heap.Ns b m → (hidT s₁.heap H).Ns b m := fun {b m} ⟨o, es, ep, e, d, r⟩ => ⟨o, es, ep, base_of e (noA e d), d, r⟩
    have hKb : K.In (hidT s₁.heap H) := fun b o e => base_of (KX b o e) (by
      cases q : H b with
      | none => rfl
      | some u =>
        have e' : b = a := hA b (by rw [q]; simp)
        subst e'
        rw [hK (by rw [q]; simp)] at e; cases e)
    have hM : Mod K mg (hidT s₁.heap H) := ⟨hKb, nsK hns, ⟨mb, nsK hb, hbb⟩, let ⟨mc, h1, h2⟩ := hlim; ⟨mc, nsK h1, h2⟩⟩
    have e0 : Env0 P w K mg (hidT s₁.heap H) callerA [] s₁ H := ⟨rfl, hM, fun b o e => of_hidT e, Nat.le_of_eq (hidT_size _ _), trivial, fun b hb => absurd (show b ∈ ([] : List Addr) from hb) (by simp), hok, .of_eq hg⟩
    refine codeAny_mono ((F _ hKb (nsK hns)).run callerA [] s₁ H ⟨[.ref a], []⟩ [.ref a] [.ref a] _ _ hr e0 (hbind s₁ (.ref a)) (.cons rfl .nil) (hsp H hO hS)) fun r s' h => ?_
    cases r with
    | error e => exact (hCX H e s' h).elim
    | ok fl =>
      cases fl with
      | next => exact False.elim h
      | brk => exact False.elim h
      | cont => exact False.elim h
      | ret u =>
        obtain ⟨v, H', os, bare, un, hok', r', q⟩ := h
        have q' : v = .bl true := q
        subst q'
        obtain rfl : u = Value.bool true := r'
        refine ⟨rfl, OldK.of_keep fun b o e => ?_, os, bare⟩
        cases q : H b with
        | none => exact un.keep b o e q (by intro z; exact absurd (show b ∈ ([] : List Addr) from z) (by simp)) (by simp)
        | some u =>
          rcases hO b with z | ⟨ob, xs, z⟩
          · rw [q] at z; cases z
          · have z2 := un.frzs b ob _ z
            obtain ⟨e1, _⟩ := hok b _ z
            obtain ⟨e2, _⟩ := hok' b _ z2
            rw [e] at e1; cases e1
            exact e2
  cases hk : K.lookup a with
  | some o =>
    -- the script is one of the module's own objects
    have e := KX a o hk
    rw [ha] at e
    cases e
    refine core (fun _ => none) (fun _ => .inl rfl) (.inr ⟨_, vs.toArray, _, hk, rfl, rfl, rfl, by rw [List.size_toArray, lenV]; exact hl, by simpa using rv⟩) (fun b u z => by have z' : (none : Option HO) = some u := z; cases z') (fun b z => absurd rfl z) fun z => absurd rfl z
  | none =>
    refine core (fun b => if b = a then some (.frz { cls := .type "list", data := .seq vs.toArray } (.lst (ns.map V.int))) else none) (fun b => ?_) (.inl (.inr ⟨{ cls := .type "list", data := .seq vs.toArray }, if_pos rfl⟩)) (fun b u z => ?_) (fun b z => ?_) fun _ => hk
    · by_cases hb : b = a
      · exact .inr ⟨_, _, if_pos hb⟩
      · exact .inl (if_neg hb)
    · by_cases hb : b = a
      · have z' := (if_pos hb).symm.trans z
        cases z'
        subst hb
        exact ⟨ha, by rw [List.length_map]; exact hl, vs, _, rv, ha⟩
      · have z' := (if_neg hb).symm.trans z
        cases z'
    · by_cases hb : b = a
      · exact hb
      · exact absurd (if_neg hb) z
end L2
namespace L2
open PySem PySem.Spec PyProof.Rows
theorem walk_of {l : PySem.W.OpenLaw} {n k : Nat} {q : Program} {loose : List Str} {XP : (Str → Option Value) → Heap → Prop} {YP : World → Heap → Prop} {d : DefRec} {K : Params → PySem.W.Frag} {CX : World → CXT} {sp : World → Sp} {x : Str}
    (hn : l.most = some n) (hn2 : n ≤ sizeLine) (hdf : d.params.defaults = []) (hr : Room k callerA)
    (hY : ∀ (w : World) (h : Heap), YP w h → (K w.params).In h)
    (F : ∀ (w : World) (mg : Str → Option Value) (fa : Addr) (h : Heap), (K w.params).In h → h.Ns mainGlobals mg → mg d.name = some (.ref fa) →
      ∃ fd : FuncData, (∀ (s : Shared) (u : Value), BindsTo s fd ⟨[u], []⟩ [(x, u)]) ∧
        ∀ base : Heap, (K w.params).In base → base.Ns mainGlobals mg → FnOk l.prog w (K w.params) mg base (CX w) k fa fd [x] (sp w))
    (hsp : ∀ (w : World) (H : Hp) (a : Addr) (ns : List Int), ns.length ≤ n → Only H → SqL (K w.params) H a (ns.map V.int) → sp w [.ref a] H (fun v _ => v = .bl true) fun _ _ _ => False)
    (hCX : ∀ (w : World) (H : Hp) (s : Shared) (e : Value) (s' : Shared), CX w [] H s (fun _ _ _ => False) e s' → False) :
    PySem.W.WalkO q loose XP YP l.row.toRowW d [] (fun f vs => PySem.call f vs) := by
  refine Att.attach_call hn hdf fun w s₀ s₁ mg mb fa o pm cd doc a vs ns G Y ho hd hcd hmg hobj hints hlen hg => ?_
  have KX := hY w _ Y
  obtain ⟨fd, hb, hF⟩ := F w mg fa _ KX G.T.g hmg
  exact law_call KX G.T.g G.T.b G.T.builtins G.T.nolimit hg hobj hints (Nat.le_trans hlen hn2) hr hF hb (fun H hO hS => hsp w H a ns hlen hO hS) fun H e s' => hCX w H s₁ e s'
end L2
/- THE LAST THEOREM (shape; LID, My.* are yours):
   My.Adr: a structure of the addresses that your layer names (classes, functions); My.Txt K t: a structure (Prop) of the equations over K;
   My.txt_mk : {K} {implicit addresses ..} (e1 : nsIn K mainGlobals "law" = some (some (.ref f))) (e2 : K.lookup f = some ⟨oc, od, .func (fnOf "law" "law" params body scope dV kV doc pm an cdv ct), sl⟩) (e3 : codeIn K cdv "law" = true) .. : ∃ t, My.Txt K t
(the tactic k_is has no namespace: write k_is) -/
namespace L2
open PySem PySem.Spec PyProof.Rows
def defArgs (s : Stmt) : Arguments := match s with
  | .FunctionDef _ a _ _ _ _ _ _ _ _ => a
  | _ => { posonlyargs := [], args := [], vararg := none, kwonlyargs := [], kw_defaults := [], kwarg := none, defaults := [] }
def defBody (s : Stmt) : List Stmt := match s with
  | .FunctionDef _ _ b _ _ _ _ _ _ _ => b
  | _ => []
def defScope (s : Stmt) : Scope := match s with
  | .FunctionDef _ _ _ _ _ _ sc _ _ _ => sc
  | _ => { kind := .function, names := [], isGenerator := false, isCoroutine := false }
abbrev CX0 : CXT := fun _ _ _ _ _ _ => False
abbrev E0 : XK := fun _ _ _ => False
theorem pass0 {X : Cx} : Passes CX0 X E0 := fun _ _ _ _ _ _ _ h => h.elim
structure Fun (K : PySem.W.Frag) (x qual : Str) (st : Stmt) (f : Addr) (fd : FuncData) : Prop where
  ex : ∃ (oc : Value) (od : Option Addr) (kV doc pm : Value) (an : Option Addr) (cdv ct : Value) (osl : Array (Option Value)),
    fd = PySem.W.fnOf x qual (defArgs st) (defBody st) (defScope st) .none kV doc pm an cdv ct ∧ K.lookup f = some ⟨oc, od, .func fd, osl⟩ ∧ PySem.W.codeIn K cdv qual = true
  kp : PySem.W.keepIn K (.ref f) = true
section
variable {P : Program} {w : World} {K : PySem.W.Frag} {mg : Str → Option Value} {base : Heap}
theorem Fun.ok {x qual : Str} {st : Stmt} {f : Addr} {fd : FuncData} {N ps : List Str} {k : Nat} {sp : Sp} (F : Fun K x qual st f fd) (S : FnScope N ps (defScope st)) (len : ∀ vs H Q E, sp vs H Q E → vs.length = ps.length)
    (hbody : ∀ (cdv : Value) (A : Around) (outer : List Env) (s : Shared) (H : Hp) (vs : List V) (Q : VK) (E : XK), Room k (A.deeper (envOfC qual (defScope st) s.heap.objs.size f cdv)) → sp vs H Q E →
      ∃ t, PSs (cxOf CX0 P w K mg base N qual (defScope st) f cdv A outer s H E).nox (defBody st) t ∧ t { nx := fun _ H' => Q .non H', rt := Q } (start N vs) H) : FnOk P w K mg base CX0 (k + 1) f fd ps sp := by
  obtain ⟨oc, od, kV, doc, pm, an, cdv, ct, osl, rfl, lk, hcd⟩ := F.ex
  refine fn_of lk hcd S len fun A outer s H vs Q E hr hsp => ?_
  obtain ⟨t, h, q⟩ := hbody cdv A outer s H vs Q E hr hsp
  exact ⟨t, h.nox, q⟩
theorem Fun.binds {x qual : Str} {st : Stmt} {f : Addr} {fd : FuncData} {ps : List Str} (F : Fun K x qual st f fd)
    (h : ∀ (kV doc pm : Value) (an : Option Addr) (cdv ct : Value) (us : List Value), us.length = ps.length → bindArgs (PySem.W.fnOf x qual (defArgs st) (defBody st) (defScope st) .none kV doc pm an cdv ct) ⟨us, []⟩ = pure (ps.zip us)) : Binds K fd ps [] := by
  obtain ⟨oc, od, kV, doc, pm, an, cdv, ct, osl, rfl, lk, hcd⟩ := F.ex
  exact .all (h kV doc pm an cdv ct)
theorem fun_mk {x qual : Str} {st : Stmt} {f : Addr} {oc : Value} {od an : Option Addr} {osl : Array (Option Value)} {kV doc pm cdv ct : Value} (l : K.lookup f = some ⟨oc, od, .func (PySem.W.fnOf x qual (defArgs st) (defBody st) (defScope st) .none kV doc pm an cdv ct), osl⟩)
    (c : PySem.W.codeIn K cdv qual = true) (k : PySem.W.keepIn K (.ref f) = true) : Fun K x qual st f (PySem.W.fnOf x qual (defArgs st) (defBody st) (defScope st) .none kV doc pm an cdv ct) := ⟨⟨oc, od, kV, doc, pm, an, cdv, ct, osl, rfl, l, c⟩, k⟩
end
theorem hu_of {A : Around} {k : Nat} (hr : Room k A) : A.units + 1 < cLine := Nat.lt_of_le_of_lt (Nat.add_le_add_left (by decide : 1 ≤ 64) _) hr.units
section
variable {X : Cx}
theorem pv (i : Nat) {x : Str} {pos : Pos} (hN : X.N[i]? = some x := by rfl) (hv : Vis X.env.scope x := by first | exact Or.inl rfl | exact Or.inr (Or.inl rfl) | exact Or.inr (Or.inr rfl)) (hd : (x == ("__debug__" : Str)) = false := by decide)
    (hcd : (x == ("__classdict__" : Str)) = false := by decide) : PE X (.Name x pos) (tVar i) := pe_var hN hv hd hcd
end
theorem ite2 {c A B : Prop} [Decidable c] (h1 : c → A) (h2 : ¬ c → B) : if c then A else B := by
  by_cases h : c
  · rw [if_pos h]
    exact h1 h
  · rw [if_neg h]
    exact h2 h
end L2
namespace L2
open PySem PySem.Spec PyProof.Rows
section
variable {κ : Type} [DecidableEq κ]
def valV (kvs : List (κ × V)) (k : κ) : Option V := (kvs.find? fun kv => decide (kv.1 = k)).map (·.2)
def putK (kvs : List (κ × V)) (k : κ) (v : V) : List (κ × V) :=
  if (kvs.any fun kv => decide (kv.1 = k)) = true then kvs.map (fun kv => if kv.1 = k then (kv.1, v) else kv) else kvs ++ [(k, v)]
theorem valV_nil {k : κ} : valV ([] : List (κ × V)) k = none := rfl
theorem valV_pos {p : κ × V} {r : List (κ × V)} {k : κ} (e : p.1 = k) : valV (p :: r) k = some p.2 := by simp [valV, List.find?_cons, e]
theorem valV_neg {p : κ × V} {r : List (κ × V)} {k : κ} (e : ¬ p.1 = k) : valV (p :: r) k = valV r k := by simp [valV, List.find?_cons, e]
theorem valV_any (k : κ) : ∀ kvs : List (κ × V), (kvs.any fun kv => decide (kv.1 = k)) = (valV kvs k).isSome
  | [] => rfl
  | p :: r => by
    rw [List.any_cons]
    by_cases e : p.1 = k
    · simp only [valV_pos e, decide_eq_true e, Bool.true_or, Option.isSome_some]
    · rw [valV_neg e, decide_eq_false e, Bool.false_or]; exact valV_any k r
theorem valV_map (k j : κ) (y : V) : ∀ kvs : List (κ × V), valV (kvs.map fun kv => if kv.1 = k then (kv.1, y) else kv) j = (valV kvs j).map fun x => if j = k then y else x
  | [] => rfl
  | p :: r => by
    have ih := valV_map k j y r
    rw [List.map_cons]
    by_cases h : p.1 = k
    · rw [if_pos h]
      by_cases e : p.1 = j
      · rw [valV_pos (p := (p.1, y)) e, valV_pos e, Option.map_some, if_pos (e.symm.trans h)]
      · rw [valV_neg (p := (p.1, y)) e, valV_neg e, ih]
    · rw [if_neg h]
      by_cases e : p.1 = j
      · rw [valV_pos (p := p) e, valV_pos e, Option.map_some, if_neg (fun z => h (e.trans z))]
      · rw [valV_neg (p := p) e, valV_neg e, ih]
theorem valV_snoc (k j : κ) (y : V) : ∀ kvs : List (κ × V), valV kvs k = none → valV (kvs ++ [(k, y)]) j = if j = k then some y else valV kvs j
  | [], _ => by
    by_cases e : k = j
    · rw [if_pos e.symm]; exact valV_pos (p := (k, y)) e
    · rw [if_neg (fun z => e z.symm)]; exact valV_neg (p := (k, y)) e
  | p :: r, hn => by
    rw [List.cons_append]
    have hk : ¬ p.1 = k := fun z => by rw [valV_pos z] at hn; cases hn
    rw [valV_neg hk] at hn
    have ih := valV_snoc k j y r hn
    by_cases e : p.1 = j
    · rw [valV_pos e, valV_pos e, if_neg (fun z => hk (e.trans z))]
    · rw [valV_neg e, valV_neg e, ih]
theorem valV_put (kvs : List (κ × V)) (k j : κ) (y : V) : valV (putK kvs k y) j = if j = k then some y else valV kvs j := by
  unfold putK
  by_cases a : (kvs.any fun kv => decide (kv.1 = k)) = true
  · rw [if_pos a, valV_map]
    rw [valV_any] at a
    by_cases e : j = k
    · obtain ⟨x, hx⟩ := Option.isSome_iff_exists.mp a
      rw [if_pos e, e, hx, Option.map_some, if_pos rfl]
    · rw [if_neg e]
      cases valV kvs j with
      | none => rfl
      | some x => rw [Option.map_some, if_neg e]
  · rw [if_neg a]
    refine valV_snoc k j y kvs ?_
    rw [valV_any] at a
    cases q : valV kvs k with
    | none => rfl
    | some x => rw [q] at a; exact (a rfl).elim
theorem length_putK (kvs : List (κ × V)) (k : κ) (v : V) : (putK kvs k v).length ≤ kvs.length + 1 := by
  unfold putK
  split
  · rw [List.length_map]; omega
  · rw [List.length_append, List.length_cons, List.length_nil]; omega
theorem RelO.isSome_eq {o : Option V} {u : Option Value} (r : RelO o u) : o.isSome = u.isSome := by
  cases o with
  | none => cases u with
    | none => rfl
    | some _ => exact (show False from r).elim
  | some _ => cases u with
    | none => exact (show False from r).elim
    | some _ => rfl
theorem RelO.getD {o : Option V} {u : Option Value} {d : V} {d' : Value} (r : RelO o u) (rd : RelV d d') : RelV (o.getD d) (u.getD d') := by
  cases o with
  | none => cases u with
    | none => exact rd
    | some _ => exact (show False from r).elim
  | some _ => cases u with
    | none => exact (show False from r).elim
    | some _ => exact r
theorem KV.val {kvs : List (κ × V)} {vs : List (κ × Value)} (r : KV kvs vs) (k : κ) : RelO (valV kvs k) (valueAt vs k) := by
  unfold KV at r
  induction r with
  | nil => exact True.intro
  | @cons p q ps qs h t ih =>
    obtain ⟨h1, h2⟩ := h
    by_cases e : p.1 = k
    · have e' : q.1 = k := h1.symm.trans e
      have b : valueAt (q :: qs) k = some q.2 := by simp [valueAt, List.find?_cons, e']
      rw [valV_pos e, b]; exact h2
    · have e' : ¬ q.1 = k := fun z => e (h1.trans z)
      have b : valueAt (q :: qs) k = valueAt qs k := by simp [valueAt, List.find?_cons, e']
      rw [valV_neg e, b]; exact ih
theorem KV.any {kvs : List (κ × V)} {vs : List (κ × Value)} (r : KV kvs vs) (k : κ) : (kvs.any fun kv => decide (kv.1 = k)) = vs.any fun kv => decide (kv.1 = k) := by
  unfold KV at r
  induction r with
  | nil => rfl
  | cons h t ih => rw [List.any_cons, List.any_cons, ih, h.1]
theorem KV.repl {kvs : List (κ × V)} {vs : List (κ × Value)} (r : KV kvs vs) (k : κ) {y : V} {u : Value} (ry : RelV y u) :
    KV (kvs.map fun kv => if kv.1 = k then (kv.1, y) else kv) (vs.map fun kv => if kv.1 = k then (kv.1, u) else kv) := by
  unfold KV at r ⊢
  induction r with
  | nil => exact .nil
  | @cons p q ps qs h t ih =>
    rw [List.map_cons, List.map_cons]
    refine .cons ?_ ih
    obtain ⟨h1, h2⟩ := h
    by_cases e : p.1 = k
    · rw [if_pos e, if_pos (h1.symm.trans e)]; exact ⟨h1, ry⟩
    · rw [if_neg e, if_neg (fun z => e (h1.trans z))]; exact ⟨h1, h2⟩
theorem KV.put {kvs : List (κ × V)} {vs : List (κ × Value)} (r : KV kvs vs) (k : κ) {y : V} {u : Value} (ry : RelV y u) : KV (putK kvs k y) (stored vs k u) := by
  unfold putK stored
  rw [r.any k]
  by_cases e : (vs.any fun kv => decide (kv.1 = k)) = true
  · rw [if_pos e, if_pos e]; exact r.repl k ry
  · rw [if_neg e, if_neg e]; exact Paired.snoc r ⟨rfl, ry⟩
theorem KV.length {kvs : List (κ × V)} {vs : List (κ × Value)} (r : KV kvs vs) : kvs.length = vs.length := Paired.length r
end
theorem kV_is {P : Program} {w : World} {k : Key} {u : Value} (r : RelV (kV k) u) : (mixKind P w).is k u = true := by
  cases k with
  | inl i => obtain ⟨t, e⟩ := (show ∃ t, u = Value.int i t from r); subst e; exact mixKind_int P w i t
  | inr x => obtain ⟨t, e⟩ := (show ∃ t, u = Value.str x t from r); subst e; exact mixKind_str P w x t
theorem items_are {P : Program} {w : World} : ∀ {ks : List Key} {us : List Value}, Vals (ks.map kV) us → ItemsAre (mixKind P w) ks us
  | [], _, r => by rw [List.map_nil] at r; cases r; exact .nil
  | k :: ks, _, r => by
    rw [List.map_cons] at r
    cases r with
    | cons h t => exact .cons (kV_is h) (items_are t)
abbrev KT (H : Hp) : List (List Key × V) → List (List Key × Addr × Value) → Prop := Paired fun p q => p.1 = q.1 ∧ H q.2.1 = some (.tup (p.1.map kV)) ∧ RelV p.2 q.2.2
theorem KT.val {H : Hp} {kvs : List (List Key × V)} {xs : List (List Key × Addr × Value)} (r : KT H kvs xs) (k : List Key) : RelO (valV kvs k) ((atKey xs k).map (·.2)) := by
  induction r with
  | nil => exact True.intro
  | @cons p q ps qs h t ih =>
    obtain ⟨h1, _, h2⟩ := h
    by_cases e : p.1 = k
    · have e' : q.1 = k := h1.symm.trans e
      have b : atKey (q :: qs) k = some q.2 := by simp [atKey, List.find?_cons, e']
      rw [valV_pos e, b]; exact h2
    · have e' : ¬ q.1 = k := fun z => e (h1.trans z)
      have b : atKey (q :: qs) k = atKey qs k := by simp [atKey, List.find?_cons, e']
      rw [valV_neg e, b]; exact ih
theorem KT.repl {H : Hp} {kvs : List (List Key × V)} {xs : List (List Key × Addr × Value)} (r : KT H kvs xs) (k : List Key) {y : V} {u : Value} (ry : RelV y u) :
    KT H (kvs.map fun kv => if kv.1 = k then (kv.1, y) else kv) (xs.map (putAt k u)) := by
  induction r with
  | nil => exact .nil
  | @cons p q ps qs h t ih =>
    rw [List.map_cons, List.map_cons]
    refine .cons ?_ ih
    obtain ⟨h1, h2, h3⟩ := h
    unfold putAt
    by_cases e : p.1 = k
    · rw [if_pos e, if_pos (h1.symm.trans e)]; exact ⟨h1, h2, ry⟩
    · rw [if_neg e, if_neg (fun z => e (h1.trans z))]; exact ⟨h1, h2, h3⟩
theorem KT.put {H : Hp} {kvs : List (List Key × V)} {xs : List (List Key × Addr × Value)} (r : KT H kvs xs) (k : List Key) {b : Addr} {y : V} {u : Value} (hb : H b = some (.tup (k.map kV))) (ry : RelV y u) :
    KT H (putK kvs k y) (storedH xs k b u) := by
  have e : (kvs.any fun kv => decide (kv.1 = k)) = (atKey xs k).isSome := by
    rw [valV_any, (r.val k).isSome_eq, Option.isSome_map]
  unfold putK storedH
  rw [e]
  by_cases q : (atKey xs k).isSome = true
  · rw [if_pos q, if_pos q]; exact r.repl k ry
  · rw [if_neg q, if_neg q]; exact Paired.snoc r ⟨rfl, hb, ry⟩
theorem KT.keeps {H H' : Hp} {kvs : List (List Key × V)} {xs : List (List Key × Addr × Value)} (r : KT H kvs xs) (ht : ∀ b ys, H b = some (.tup ys) → H' b = some (.tup ys)) : KT H' kvs xs :=
  Paired.mapP r fun _ _ z => ⟨z.1, ht _ _ z.2.1, z.2.2⟩
section
variable {P : Program} {w : World} {H : Hp} {h : Heap} {a : Addr}
theorem rd_of {u : HO} (ok : HOk P w H h) (e : Rd H a u) : ObjOk P w H h a u := e.ok ok
theorem dk_rd {kvs : List (Key × V)} (ok : HOk P w H h) (e : Rd H a (.dK kvs)) : kvs.length ≤ sizeLine ∧ (a == sysModules) = false ∧ ∃ vs, KV kvs vs ∧ h.DictOf (mixKind P w) a vs :=
  show ObjOk P w H h a (.dK kvs) from rd_of ok e
theorem dk_of {kvs : List (Key × V)} (ok : HOk P w H h) (e : H a = some (.dK kvs)) : kvs.length ≤ sizeLine ∧ (a == sysModules) = false ∧ ∃ vs, KV kvs vs ∧ h.DictOf (mixKind P w) a vs := dk_rd ok (.inl e)
theorem key_of {ks : List Key} (ok : HOk P w H h) (e : H a = some (.tup (ks.map kV))) : (tupleKind (mixKind P w)).is h ks a := by
  obtain ⟨_, its, r, o, h1, h2, n, h3⟩ := (show ObjOk P w H h a (.tup (ks.map kV)) from ok a _ e)
  exact ⟨o, its.toArray, n, h1, h2, h3, by simpa using items_are r⟩
theorem dt_rd {kvs : List (List Key × V)} (ok : HOk P w H h) (e : Rd H a (.dT kvs)) : kvs.length ≤ sizeLine ∧ (a == sysModules) = false ∧
    ∃ xs, KT H kvs xs ∧ h.DictOfH (tupleKind (mixKind P w)) a xs := by
  obtain ⟨z, y, xs, r, o, es, ep, h1, h2, h3, h4, h5⟩ := (show ObjOk P w H h a (.dT kvs) from rd_of ok e)
  refine ⟨z, y, xs, r, o, es, ep, h1, h2, h3, h4, fun x hx => ?_, h5⟩
  have all : ∀ {l : List (List Key × V)} {m : List (List Key × Addr × Value)}, KT H l m → ∀ x ∈ m, (tupleKind (mixKind P w)).is h x.1 x.2.1 := by
    intro l m q
    induction q with
    | nil => intro x hx; exact nomatch hx
    | @cons p q ps qs hq t ih =>
      intro x hx
      rcases List.mem_cons.mp hx with e | hx
      · subst e
        exact key_of ok (by rw [← hq.1]; exact hq.2.1)
      · exact ih x hx
  exact all r x hx
theorem dt_of {kvs : List (List Key × V)} (ok : HOk P w H h) (e : H a = some (.dT kvs)) : kvs.length ≤ sizeLine ∧ (a == sysModules) = false ∧
    ∃ xs, KT H kvs xs ∧ h.DictOfH (tupleKind (mixKind P w)) a xs := dt_rd ok (.inl e)
end
def DGet (H : Hp) (a : Addr) (y : V) (r : Option V) : Prop :=
  (∃ kvs k, Rd H a (.dK kvs) ∧ y = kV k ∧ r = valV kvs k) ∨ ∃ kvs k b, Rd H a (.dT kvs) ∧ y = .ref b ∧ H b = some (.tup (k.map kV)) ∧ r = valV kvs k
def DPut (H : Hp) (a : Addr) (y v : V) (H' : Hp) : Prop :=
  (∃ kvs k, H a = some (.dK kvs) ∧ y = kV k ∧ kvs.length < sizeLine ∧ H' = upd H a (.dK (putK kvs k v))) ∨
  ∃ kvs k b, H a = some (.dT kvs) ∧ y = .ref b ∧ H b = some (.tup (k.map kV)) ∧ kvs.length < sizeLine ∧ H' = upd H a (.dT (putK kvs k v))
theorem DGet.k {H : Hp} {a : Addr} {kvs : List (Key × V)} {k : Key} (e : H a = some (.dK kvs)) : DGet H a (kV k) (valV kvs k) := .inl ⟨kvs, k, .inl e, rfl, rfl⟩
theorem DPut.k {H : Hp} {a : Addr} {kvs : List (Key × V)} {k : Key} {v : V} (e : H a = some (.dK kvs)) (hl : kvs.length < sizeLine) : DPut H a (kV k) v (upd H a (.dK (putK kvs k v))) := .inl ⟨kvs, k, e, rfl, hl, rfl⟩
section
variable {X : Cx} {pins : List (Addr × Obj)} {σ : St} {H : Hp} {s : Shared} {a : Addr} {y v : V} {u r : Value} {o : Option V} {A : Around} {E : Value → Shared → Prop}
theorem Inv.big (I : Inv X pins σ H s) : sysModules < s.heap.objs.size := by
  have h : mainGlobals < s.heap.objs.size := (I.mod.glob.keeps I.bk).lt
  exact Nat.lt_trans (by decide) h
theorem d_getItem {Q : Value → Shared → Prop} (hu : A.units + 1 < cLine) (I : Inv X pins σ H s) (g : DGet H a y (some v)) (ry : RelV y u) (h : ∀ w' s', Inv X pins σ H s' → RelV v w' → Q w' s') :
    wpAny (model X.prog X.w) A (getItem (.ref a) u) Q E s := by
  rcases g with ⟨kvs, k, e, ey, l⟩ | ⟨kvs, k, b, e, ey, eb, l⟩
  · subst ey
    obtain ⟨z, hd, vs, rel, dd⟩ := dk_rd I.hok e
    obtain ⟨w', hw, rw'⟩ := RelO.some_of (v := v) (o := valueAt vs k) (by rw [l]; exact rel.val k)
    exact wpAny_getItem_of (kV_is ry) dd.mapOf hw (h w' _ (I.tok _) rw')
  · subst ey
    cases (show u = Value.ref b from ry)
    obtain ⟨z, hd, xs, rel, dd⟩ := dt_rd I.hok e
    obtain ⟨w', hw, rw'⟩ := RelO.some_of (v := v) (o := (atKey xs k).map (·.2)) (by rw [l]; exact rel.val k)
    obtain ⟨p, hp, hp2⟩ := Option.map_eq_some_iff.mp hw
    refine wpAny_getItem_heap (tupleKind_room_in1 hu) (key_of I.hok eb) dd hp ?_
    rw [hp2]
    exact h w' _ (I.tok _) rw'
theorem d_notIn {Q : Value → Shared → Prop} (hu : A.units + 1 < cLine) (I : Inv X pins σ H s) (g : DGet H a y o) (ry : RelV y u) (h : ∀ s', Inv X pins σ H s' → Q (.bool (!o.isSome)) s') :
    wpAny (model X.prog X.w) A (compareOp .NotIn u (.ref a)) Q E s := by
  rcases g with ⟨kvs, k, e, ey, l⟩ | ⟨kvs, k, b, e, ey, eb, l⟩
  · subst ey
    obtain ⟨z, hd, vs, rel, dd⟩ := dk_rd I.hok e
    refine wpAny_notIn_of (kV_is ry) hd dd.mapOf ?_
    rw [← (rel.val k).isSome_eq, ← l]
    exact h _ (I.tok _)
  · subst ey
    cases (show u = Value.ref b from ry)
    obtain ⟨z, hd, xs, rel, dd⟩ := dt_rd I.hok e
    refine wpAny_notIn_heap (tupleKind_room_in1 hu) (key_of I.hok eb) hd dd ?_
    have q := (rel.val k).isSome_eq
    rw [Option.isSome_map] at q
    rw [← q, ← l]
    exact h _ (I.tok _)
theorem d_write {h' : Heap} {t' : Nat} {ob : HO} (I : Inv X pins σ H s) (mu : Mut (H a)) (hs : Heap.SameBut a s.heap h') (he : ∃ q, h'.get? a = some q) (new : ObjOk X.prog X.w (upd H a ob) h' a ob) :
    Inv X pins σ (upd H a ob) { s with heap := h', toks := t' } :=
  I.write (x := a) (e := a) mu (.inl rfl) (fun b q hb z => (hs.2 b hb).trans z) he new
theorem dk_new {P : Program} {w : World} {H' : Hp} {h' : Heap} {kvs : List (Key × V)} {vs : List (Key × Value)} (z : kvs.length ≤ sizeLine) (hd : (a == sysModules) = false) (rel : KV kvs vs) (dd : h'.DictOf (mixKind P w) a vs) :
    ObjOk P w H' h' a (.dK kvs) := ⟨z, hd, vs, rel, dd⟩
theorem d_setItem {H' : Hp} {Q : Unit → Shared → Prop} (hu : A.units + 1 < cLine) (I : Inv X pins σ H s) (g : DPut H a y v H') (ry : RelV y u) (rv : RelV v r) (h : ∀ s', Inv X pins σ H' s' → Q () s') :
    wpAny (model X.prog X.w) A (setItem (.ref a) u r) Q E s := by
  rcases g with ⟨kvs, k, e, ey, l, eH⟩ | ⟨kvs, k, b, e, ey, eb, l, eH⟩
  · subst ey eH
    obtain ⟨z, hd, vs, rel, dd⟩ := dk_of I.hok e
    have hz : vs.length ≤ sizeLine := by rw [← rel.length]; exact z
    have hl : (putK kvs k v).length ≤ sizeLine := by have := length_putK kvs k v; omega
    refine wpAny_setItem_pairs (hsz := hz) (kV_is ry) dd fun h' dd' hs => h _ ?_
    have he : ∃ q, h'.get? a = some q := let ⟨q, _, _, hq, _⟩ := dd'; ⟨q, hq⟩
    exact d_write I (by rw [e]; exact True.intro) hs he (dk_new hl hd (rel.put k rv) dd')
  · subst ey eH
    cases (show u = Value.ref b from ry)
    obtain ⟨z, hd, xs, rel, dd⟩ := dt_of I.hok e
    have hz : xs.length ≤ sizeLine := by rw [← Paired.length rel]; exact z
    have hl : (putK kvs k v).length ≤ sizeLine := by have := length_putK kvs k v; omega
    refine wpAny_setItem_heap (hsz := hz) (tupleKind_room_in1 hu) (key_of I.hok eb) dd fun h' dd' hs => h _ ?_
    obtain ⟨q, es, ep, hq, h2, h3, h4, _, h5⟩ := dd'
    refine d_write I (by rw [e]; exact True.intro) hs ⟨q, hq⟩ ⟨hl, hd, _, (rel.put k eb rv).keeps fun c ys ec => ?_, q, es, ep, hq, h2, h3, h4, h5⟩
    rw [upd_ne (ne_of ec e (fun z => nomatch z))]
    exact ec
end
section
variable {X : Cx} {pins : List (Addr × Obj)} {σ : St} {H : Hp} {s : Shared} {a : Addr} {kvs : List (Key × V)} {k : Key} {u : Value} {A : Around} {E : Value → Shared → Prop}
end
def NoSl (i : Expr) : Prop := ∀ ov iv, subscripted i false ov iv = operate [ov, iv] (getItem ov iv)
theorem subD_of {prog : Program} {w : World} {A : Around} {E : Value → Shared → Prop} {s : Shared} {env : Env} {value slice : Expr} {pos : Pos} {T id : String} {Q : Value → Shared → Prop}
    (hl : typeLookup (.type T) "__getitem__" = pure (some (.builtin id))) (hs : NoSl slice)
    (h : wpAny (model prog w) A (eval value env) (fun o s₁ => wpAny (model prog w) A (eval slice env) (fun i s₂ => s₂.TypeIs o T ∧ wpAny (model prog w) A (getItem o i) Q E s₂) E s₁) E s) :
    wpAny (model prog w) A (eval (.Subscript value slice pos) env) Q E s := by
  refine Subscript_ (wpAny_mono h (fun o s₁ h₁ => wpAny_mono h₁ (fun i s₂ h₂ => ?_) fun _ _ x => x) fun _ _ x => x)
  obtain ⟨hT, h₂⟩ := h₂
  unfold subscriptTail
  refine wpAny_bind ?_
  rw [getitemInPython_of_ne hT.not_modules]
  refine wpAny_bind (wpAny_specialOf hT hl ?_)
  have fin : wpAny (model prog w) A (subscripted slice false o i) (fun r s₃ => wpAny (model prog w) A (letTemporaryGo value o r >>= fun _ => pure r) Q E s₃) E s₂ := by
    rw [hs o i]
    exact wpAny_operating (wpAny_mono h₂ (fun r s₃ h₃ => wpAny_bind (wpAny_letTemporaryGo (wpAny_pure h₃))) fun _ _ x => x)
  first
    | exact wpAny_pure (wpAny_bind fin)
    | exact wpAny_bind (wpAny_pure (wpAny_bind fin))
    | exact wpAny_bind fin
theorem dict_typeIs {X : Cx} {pins : List (Addr × Obj)} {σ : St} {H : Hp} {s : Shared} {a : Addr} {y : V} {o : Option V} (I : Inv X pins σ H s) (g : DGet H a y o) : s.TypeIs (.ref a) "dict" := by
  rcases g with ⟨kvs, k, e, _, _⟩ | ⟨kvs, k, b, e, _, _, _⟩
  · obtain ⟨_, _, vs, _, dd⟩ := dk_rd I.hok e
    exact dd.typeIs
  · obtain ⟨_, _, xs, _, dd⟩ := dt_rd I.hok e
    exact dd.typeIs
def tDNotIn (ty td : TE) : TE := fun σ H Q => ty σ H fun y H1 => td σ H1 fun x H2 => ∃ a o, x = .ref a ∧ DGet H2 a y o ∧ Q (.bl (!o.isSome)) H2
def sDPut (td ty tv : TE) : TS := fun D σ H => tv σ H fun v H1 => td σ H1 fun x H2 => ty σ H2 fun y H3 => ∃ a H4, x = .ref a ∧ DPut H3 a y v H4 ∧ D.nx σ H4
section
variable {X : Cx} {o i e value : Expr} {pos pos' tpos : Pos} {td ty tv : TE}
theorem pc_dnotin (hu : X.A.units + 1 < cLine) (hi : PE X i ty) (ho : PE X o td) : PC X .NotIn i o (tDNotIn ty td) := by
  intro pins s σ H Q I h
  refine thn (hi pins s σ H _ I h) fun iv s1 ⟨y, H1, I1, ry, q1⟩ => thn (ho pins s1 σ H1 _ I1 q1) fun u s2 ⟨x, H2, I2, rx, a, ov, ex, g, q2⟩ => ?_
  subst ex
  obtain rfl : u = Value.ref a := rx
  exact d_notIn hu I2 g ry fun s3 I3 => ⟨.bl (!ov.isSome), H2, I3, rfl, q2⟩
theorem ps_dput (hu : X.A.units + 1 < cLine) (ho : PE X o td) (hi : PE X i ty) (hv : PE X value tv) (hs : swapsWith value (some (.Subscript o i pos')) pos.line X.env = pure false) :
    PS X (.Assign [.Subscript o i pos'] value pos) (sDPut td ty tv) := by
  intro pins s σ H D I h
  refine wpAny_Assign_Subscript (thn (hv pins s σ H _ I h) fun r s1 ⟨v, H1, I1, rv, q1⟩ => thn (ho pins s1 σ H1 _ I1 q1) fun u s2 ⟨x, H2, I2, rx, q2⟩ => thn (hi pins s2 σ H2 _ I2 q2) fun iv s3 ⟨y, H3, I3, ry, a, H4, ex, g, q3⟩ => ?_) hs
  subst ex
  obtain rfl : u = Value.ref a := rx
  exact d_setItem hu I3 g ry rv fun s4 I4 => ⟨σ, H4, I4, q3⟩
end
theorem dk_empty {P : Program} {w : World} {H : Hp} (h : Heap) (hb : sysModules < h.objs.size) : ObjOk P w H (h.push { cls := .type "dict", data := .dict #[] }) h.objs.size (.dK []) :=
  ⟨Nat.zero_le _, beq_eq_false_iff_ne.mpr (Ne.symm (Nat.ne_of_lt hb)), [], .nil, Heap.DictOf.new h⟩
theorem dt_empty {P : Program} {w : World} {H : Hp} (h : Heap) (hb : sysModules < h.objs.size) : ObjOk P w H (h.push { cls := .type "dict", data := .dict #[] }) h.objs.size (.dT []) :=
  ⟨Nat.zero_le _, beq_eq_false_iff_ne.mpr (Ne.symm (Nat.ne_of_lt hb)), [], .nil, _, #[], 0, Heap.get?_push_size _ rfl, ⟨rfl, rfl, rfl⟩, rfl, rfl, List.nodup_nil⟩
def tDNewT : TE := fun _ H Q => ∀ p, H p = none → Q (.ref p) (upd H p (.dT []))
section
variable {X : Cx} {pos : Pos}
theorem pe_dnewT : PE X (.Dict [] [] pos) tDNewT := fun pins s σ H Q I h =>
  wpAny_Dict_empty ⟨.ref s.heap.objs.size, _, I.laid (a := s.heap.objs.size) (o := .dT []) (t' := s.toks) (fun _ _ q => Heap.get?_push_of_some _ q) (Nat.le_refl _) (dt_empty s.heap I.big), rfl, h _ (I.hok.fresh (Nat.le_refl _))⟩
end
def tPairs : List (TE × TE) → St → Hp → (List (V × V) → Hp → Prop) → Prop
  | [], _, H, Q => Q [] H
  | (tk, tv) :: r, σ, H, Q => tk σ H fun x H1 => tv σ H1 fun y H2 => tPairs r σ H2 fun ps H3 => Q ((x, y) :: ps) H3
abbrev VV : List (V × V) → List (Value × Value) → Prop := Paired fun p q => RelV p.1 q.1 ∧ RelV p.2 q.2
def PPs (X : Cx) (pos : Pos) (keys : List (Option Expr)) (values : List Expr) (trs : List (TE × TE)) : Prop :=
  ∀ (pins : List (Addr × Obj)) (s : Shared) (σ : St) (H : Hp) (Q : List (V × V) → Hp → Prop), Inv X pins σ H s → tPairs trs σ H Q →
    wpAny (model X.prog X.w) X.A (evalPairs (pairTrees keys values X.env pos)) (fun vs s' => ∃ ps H', Inv X pins σ H' s' ∧ VV ps vs ∧ Q ps H') X.xe s
theorem pps_nil {X : Cx} {pos : Pos} : PPs X pos [] [] [] := fun pins s σ H Q I h => pairTrees_nil_walk ⟨[], H, I, .nil, h⟩
theorem pps_cons {X : Cx} {pos : Pos} {k v : Expr} {ks : List (Option Expr)} {vs : List Expr} {tk tv : TE} {trs : List (TE × TE)} (hk : PE X k tk) (hv : PE X v tv) (hr : PPs X pos ks vs trs) :
    PPs X pos (some k :: ks) (v :: vs) ((tk, tv) :: trs) := fun pins s σ H Q I h =>
  pairTrees_cons_walk (thn (hk pins s σ H _ I h) fun u s1 ⟨x, H1, I1, rx, q1⟩ => thn (hv pins s1 σ H1 _ I1 q1) fun w2 s2 ⟨y, H2, I2, ry, q2⟩ =>
    thn (hr pins s2 σ H2 _ I2 q2) fun ws s3 ⟨ps, H3, I3, rel, q3⟩ => ⟨(x, y) :: ps, H3, I3, .cons ⟨rx, ry⟩ rel, q3⟩)
def mergeK (kvs more : List (Key × V)) : List (Key × V) := more.foldl (fun acc kv => putK acc kv.1 kv.2) kvs
theorem KV.merge : ∀ {more : List (Key × V)} {rs : List (Key × Value)} {kvs : List (Key × V)} {vs : List (Key × Value)}, KV more rs → KV kvs vs → KV (mergeK kvs more) (merged vs rs) := by
  intro more rs kvs vs r
  unfold KV at r
  induction r generalizing kvs vs with
  | nil => intro q; exact q
  | @cons p q ps qs h t ih =>
    intro r0
    have e : KV (putK kvs p.1 p.2) (stored vs q.1 q.2) := by
      have := r0.put p.1 h.2
      rw [← h.1]; exact this
    exact ih e
theorem length_mergeK : ∀ (more kvs : List (Key × V)), (mergeK kvs more).length ≤ kvs.length + more.length
  | [], kvs => by show kvs.length ≤ kvs.length + 0; omega
  | p :: r, kvs => by
    have h1 := length_mergeK r (putK kvs p.1 p.2)
    have h2 := length_putK kvs p.1 p.2
    show (mergeK (putK kvs p.1 p.2) r).length ≤ _
    rw [List.length_cons]; omega
theorem carries_of {P : Program} {w : World} : ∀ {kvs : List (Key × V)} {ws : List (Value × Value)}, VV (kvs.map fun kv => (kV kv.1, kv.2)) ws → ∃ rs, Carries (mixKind P w) ws rs ∧ KV kvs rs
  | [], _, r => by rw [List.map_nil] at r; cases r; exact ⟨[], True.intro, .nil⟩
  | p :: kvs, _, r => by
    rw [List.map_cons] at r
    cases r with
    | @cons a b as bs h t =>
      obtain ⟨rs, c, q⟩ := carries_of (P := P) (w := w) t
      obtain ⟨b1, b2⟩ := b
      exact ⟨(p.1, b2) :: rs, ⟨kV_is h.1, rfl, c⟩, .cons ⟨rfl, h.2⟩ q⟩
def tDisp (trs : List (TE × TE)) : TE := fun σ H Q => ∀ p, H p = none → tPairs trs σ (upd H p (.dK [])) fun ps H2 => H2 p = some (.dK []) ∧ ∃ kvs : List (Key × V), ps = kvs.map (fun kv => (kV kv.1, kv.2)) ∧ kvs.length ≤ 15 ∧ Q (.ref p) (upd H2 p (.dK (mergeK [] kvs)))
theorem pe_disp {X : Cx} {pos : Pos} {keys : List (Option Expr)} {values : List Expr} {trs : List (TE × TE)} (h : PPs X pos keys values trs) (hall : keys.all (·.isSome) = true) (hl : keys.length = values.length) (h0 : keys ≠ [])
    (h15 : keys.length ≤ 15) : PE X (.Dict keys values pos) (tDisp trs) := by
  intro pins s σ H Q I q
  have hn := I.hok.fresh (Nat.le_refl s.heap.objs.size)
  have I1 := I.laid (a := s.heap.objs.size) (o := .dK []) (h' := s.heap.push { cls := .type "dict", data := .dict #[] }) (t' := s.toks) (fun _ _ q => Heap.get?_push_of_some _ q) (Nat.le_refl _) (dk_empty s.heap I.big)
  refine wpAny_Dict_walk (knd := mixKind X.prog X.w) hall hl h0 h15 (thn (h pins _ σ _ _ I1 (q _ hn)) fun ws s2 ⟨ps, H2, I2, rel, e, kvs, ep, lk, q2⟩ => ?_)
  subst ep
  obtain ⟨rs, c, rk⟩ := carries_of (P := X.prog) (w := X.w) rel
  obtain ⟨z, hd, vs0, r0, dd⟩ := dk_of I2.hok e
  cases r0
  refine ⟨rs, c, dd, fun h' dd' hs => ⟨.ref s.heap.objs.size, _, ?_, rfl, q2⟩⟩
  have hz : (mergeK [] kvs).length ≤ sizeLine := by
    have h1 := length_mergeK kvs []
    rw [List.length_nil] at h1
    rw [sizeLine_eq]; omega
  have he : ∃ q, h'.get? s.heap.objs.size = some q := let ⟨q, _, _, hq, _⟩ := dd'; ⟨q, hq⟩
  exact d_write I2 (by rw [e]; exact True.intro) hs he (dk_new hz hd (rk.merge .nil) dd')
structure M2 (X : Cx) (o : Expr) (m : Str) (apos : Pos) (e f : Expr) (cpos : Pos) : Prop where
  base : attributeBase o m X.env (eval o X.env) = eval o X.env
  few : ((backTo cpos (starEach [e, f] X.env)).all (fun x => !x.1) && (backToKw cpos (keywordEach [] X.env)).all (fun x => x.1.isSome)
    && decide (([e, f] : List Expr).length + ([] : List Keyword).length + (if ([] : List Keyword).isEmpty then 0 else 1) < 30)) = true
  line : (apos.endLine == cpos.line) = true
  trees : backTo cpos (starEach [e, f] X.env) = [(false, eval e X.env), (false, eval f X.env)]
def IsD (H : Hp) (a : Addr) : Prop := (∃ kvs, Rd H a (.dK kvs)) ∨ ∃ kvs, Rd H a (.dT kvs)
theorem isD_at {X : Cx} {pins : List (Addr × Obj)} {σ : St} {H : Hp} {s : Shared} {a : Addr} (I : Inv X pins σ H s) (d : IsD H a) :
    s.TypeIs (.ref a) "dict" ∧ (∀ b, Value.ref a = .ref b → ∃ ob, s.heap.get? b = some ob ∧ ob.dict = none) ∧ (a == sysModules) = false := by
  rcases d with ⟨kvs, e⟩ | ⟨kvs, e⟩
  · obtain ⟨_, hd, vs, _, dd⟩ := dk_rd I.hok e
    refine ⟨dd.typeIs, fun b q => ?_, hd⟩
    cases q
    obtain ⟨ob, _, _, h1, h2, _⟩ := dd
    exact ⟨ob, h1, h2.2.1⟩
  · obtain ⟨_, hd, xs, _, dd⟩ := dt_rd I.hok e
    refine ⟨dd.typeIs, fun b q => ?_, hd⟩
    cases q
    obtain ⟨ob, _, _, h1, h2, _⟩ := dd
    exact ⟨ob, h1, h2.2.1⟩
section
variable {X : Cx} {pins : List (Addr × Obj)} {σ : St} {H : Hp} {s : Shared} {a : Addr} {y d : V} {u r : Value} {o : Option V} {A : Around} {E : Value → Shared → Prop}
theorem d_get2 {Q : Value → Shared → Prop} (hu : A.units + 1 < cLine) (I : Inv X pins σ H s) (g : DGet H a y o) (ry : RelV y u) (rd : RelV d r) (h : ∀ w' s', Inv X pins σ H s' → RelV (o.getD d) w' → Q w' s') :
    wpAny (model X.prog X.w) A (call (.builtin "dict.get") [.ref a, u, r]) Q E s := by
  rcases g with ⟨kvs, k, e, ey, l⟩ | ⟨kvs, k, b, e, ey, eb, l⟩
  · subst ey
    obtain ⟨z, hd, vs, rel, dd⟩ := dk_rd I.hok e
    refine call_meetsIn PySem.F.slot_dict_get dd.typeIs PySem.F.entry_dict_get (PySem.F.args_dict_get_3 _ _ _) (meets_dict_get_default (mixKind X.prog X.w) a (kV_is ry) hd r) ⟨_, dd.mapOf, h _ _ (I.tok _) ?_⟩
    rw [l]
    exact (rel.val k).getD rd
  · subst ey
    cases (show u = Value.ref b from ry)
    obtain ⟨z, hd, xs, rel, dd⟩ := dt_rd I.hok e
    refine call_meetsIn PySem.F.slot_dict_get dd.typeIs PySem.F.entry_dict_get (PySem.F.args_dict_get_3 _ _ _) (meetsH_dict_get_default (tupleKind (mixKind X.prog X.w)) a b hd r) ⟨tupleKind_room_in1 hu, k, xs, key_of I.hok eb, dd, h _ _ (I.tok _) ?_⟩
    rw [l]
    exact (rel.val k).getD rd
end
def tDGet2 (td ty tx : TE) : TE := fun σ H Q => td σ H fun x H1 => ∃ a, x = .ref a ∧ IsD H1 a ∧ ty σ H1 fun y H2 => tx σ H2 fun z H3 => ∃ o, DGet H3 a y o ∧ Q (o.getD z) H3
section
variable {X : Cx} {o e f : Expr} {apos cpos : Pos} {td ty tx : TE}
theorem pe_dget2 (hu : X.A.units + 1 < cLine) (ho : PE X o td) (he : PE X e ty) (hf : PE X f tx) (m : M2 X o "get" apos e f cpos) : PE X (.Call (.Attribute o "get" apos) [e, f] [] cpos) (tDGet2 td ty tx) := by
  intro pins s σ H Q I h
  refine wpAny_Call_method m.base m.few m.line PySem.F.plainAttrs_dict PySem.F.slot_dict_get PySem.F.type_dict_get (thn (ho pins s σ H _ I h) fun u s1 ⟨x, H1, I1, rx, a, ex, d, q1⟩ => ?_)
  subst ex
  obtain rfl : u = Value.ref a := rx
  obtain ⟨t1, t2, _⟩ := isD_at I1 d
  refine ⟨t1, t2, ?_⟩
  rw [m.trees]
  refine Calls.callWith_builtin rfl (Calls.evalArgs_plain (Calls.spliced_cons (thn (he pins s1 σ H1 _ I1 q1) fun iv s2 ⟨y, H2, I2, ry, q2⟩ =>
    Calls.spliced_cons (thn (hf pins s2 σ H2 _ I2 q2) fun fv s3 ⟨z, H3, I3, rz, ov, g, q3⟩ => Calls.spliced_nil ?_))))
  exact d_get2 hu I3 g ry rz fun w' s4 I4 rw' => ⟨_, H3, I4, rw', q3⟩
end
section
variable {X : Cx} {pins : List (Addr × Obj)} {σ : St} {H : Hp} {s : Shared} {a : Addr} {kvs : List (Key × V)} {A : Around} {E : Value → Shared → Prop}
end
section
variable {X : Cx} {pins : List (Addr × Obj)} {σ : St} {H : Hp} {s : Shared} {a : Addr} {y : V} {u : Value} {A : Around} {E : Value → Shared → Prop}
end
end L2
namespace L2
open PySem PySem.Spec PyProof.Rows
section
variable {κ : Type} [DecidableEq κ]
end
end L2
set_option Elab.async false
set_option linter.all false
set_option maxRecDepth 100000
set_option maxHeartbeats 4000000
namespace L2
open PySem PySem.Spec PyProof.Rows
structure Kp (S : List Addr) (H H' : Hp) : Prop where
  old : ∀ a o, H a = some o → a ∉ S → H' a = some o
  tup : ∀ a xs, H a = some (.tup xs) → H' a = some (.tup xs)
  dom : ∀ a o, H a = some o → ∃ o', H' a = some o'
theorem Kp.refl (S : List Addr) (H : Hp) : Kp S H H := ⟨fun _ _ e _ => e, fun _ _ e => e, fun _ o e => ⟨o, e⟩⟩
theorem Kp.trans {S : List Addr} {H H1 H2 : Hp} (a : Kp S H H1) (b : Kp S H1 H2) : Kp S H H2 :=
  ⟨fun c o e n => b.old c o (a.old c o e n) n, fun c xs e => b.tup c xs (a.tup c xs e), fun c o e => let ⟨o', e'⟩ := a.dom c o e; b.dom c o' e'⟩
theorem Kp.mono {S S' : List Addr} {H H1 : Hp} (a : Kp S H H1) (h : ∀ x ∈ S, x ∈ S') : Kp S' H H1 := ⟨fun c o e n => a.old c o e fun z => n (h c z), a.tup, a.dom⟩
theorem Kp.free {S : List Addr} {H H1 : Hp} (k : Kp S H H1) {p : Addr} (h : H1 p = none) : H p = none := by
  cases e : H p with
  | none => rfl
  | some o => obtain ⟨o', e'⟩ := k.dom p o e; rw [h] at e'; cases e'
theorem Kp.new {S : List Addr} {H H1 : Hp} (k : Kp S H H1) {p : Addr} {o : HO} (h : H1 p = none) : Kp S H (upd H1 p o) :=
  ⟨fun c u e n => by rw [upd_ne (ne_of_none (k.old c u e n) h)]; exact k.old c u e n, fun c xs e => by rw [upd_ne (ne_of_none (k.tup c xs e) h)]; exact k.tup c xs e,
    fun c u e => by
      obtain ⟨o', e'⟩ := k.dom c u e
      exact ⟨o', by rw [upd_ne (ne_of_none e' h)]; exact e'⟩⟩
theorem Kp.set {S : List Addr} {H H1 : Hp} (k : Kp S H H1) {b : Addr} {xs : List V} {o : HO} (hb : H1 b = some (.lst xs)) (h : b ∈ S ∨ H b = none) : Kp S H (upd H1 b o) :=
  ⟨fun c u e n => by
    have : c ≠ b := by
      rintro rfl
      rcases h with h | h
      · exact n h
      · rw [h] at e; cases e
    rw [upd_ne this]; exact k.old c u e n,
   fun c ys e => by
    have e1 := k.tup c ys e
    rw [upd_ne (ne_of e1 hb (by intro z; cases z))]; exact e1,
   fun c u e => by
    obtain ⟨o', e'⟩ := k.dom c u e
    by_cases q : c = b
    · subst q; exact ⟨o, upd_same⟩
    · exact ⟨o', by rw [upd_ne q]; exact e'⟩⟩
def lstOf : Option HO → Option (List V)
  | some (.lst xs) => some xs
  | _ => none
def tupOf : Option HO → Option (List V)
  | some (.tup xs) => some xs
  | _ => none
def seqOf : Option HO → Option (List V)
  | some (.lst xs) => some xs
  | some (.tup xs) => some xs
  | _ => none
theorem lstOf_lst (xs : List V) : lstOf (some (.lst xs)) = some xs := rfl
theorem tupOf_tup (xs : List V) : tupOf (some (.tup xs)) = some xs := rfl
theorem seqOf_lst (xs : List V) : seqOf (some (.lst xs)) = some xs := rfl
theorem seqOf_tup (xs : List V) : seqOf (some (.tup xs)) = some xs := rfl
theorem of_lstOf {o : Option HO} {xs : List V} (h : lstOf o = some xs) : o = some (.lst xs) := by
  unfold lstOf at h
  split at h
  · cases h; rfl
  · cases h
theorem of_tupOf {o : Option HO} {xs : List V} (h : tupOf o = some xs) : o = some (.tup xs) := by
  unfold tupOf at h
  split at h
  · cases h; rfl
  · cases h
theorem of_seqOf {o : Option HO} {xs : List V} (h : seqOf o = some xs) : o = some (.lst xs) ∨ o = some (.tup xs) := by
  unfold seqOf at h
  split at h
  · cases h; exact .inl rfl
  · cases h; exact .inr rfl
  · cases h
section
variable {X : Cx}
def rLtU : R2 := fun x y H Q => match x, y with
  | .int i, .int j => Q (.bl (decide (i < j))) H
  | .str i, .str j => Q (.bl (decide (i.cps.toList < j.cps.toList))) H
  | _, _ => False
theorem op_ltU : OpR X (compareOp .Lt) rLtU := by
  intro pins s σ H x y v u Q I rx ry h
  cases x with
  | int i => cases y with
    | int j => exact op_lt pins s σ H _ _ v u Q I rx ry ⟨i, j, rfl, rfl, h⟩
    | _ => exact False.elim h
  | str i => cases y with
    | str j => exact op_lt_str pins s σ H _ _ v u Q I rx ry ⟨i, j, rfl, rfl, h⟩
    | _ => exact False.elim h
  | _ => exact False.elim h
def rLeU : R2 := fun x y H Q => match x, y with
  | .int i, .int j => Q (.bl (decide (i ≤ j))) H
  | .str i, .str j => Q (.bl (!decide (j.cps.toList < i.cps.toList))) H
  | _, _ => False
theorem op_leU : OpR X (compareOp .LtE) rLeU := by
  intro pins s σ H x y v u Q I rx ry h
  cases x with
  | int i => cases y with
    | int j => exact op_le pins s σ H _ _ v u Q I rx ry ⟨i, j, rfl, rfl, h⟩
    | _ => exact False.elim h
  | str i => cases y with
    | str j =>
      obtain ⟨t, rfl⟩ := rx
      obtain ⟨t', rfl⟩ := ry
      exact PySem.P.le_str (fin_bl I h (by rfl))
    | _ => exact False.elim h
  | _ => exact False.elim h
def rIxU : R2 := fun x y H Q => match x, y with
  | .str z, .int i => z.length ≤ sizeLine ∧ ∃ c, atI z.cps.toList i = some c ∧ Q (.str ⟨#[c]⟩) H
  | .ref p, .int i => ∃ xs, seqOf (H p) = some xs ∧ ∃ v, atI xs i = some v ∧ Q v H
  | _, _ => False
theorem ix_U : IxR X rIxU := by
  intro value slice pins s σ H x y v u Q I rx ry h hs
  cases x with
  | str z => cases y with
    | int i => obtain ⟨h1, c, h2, h3⟩ := h; exact ix_str value slice pins s σ H _ _ v u Q I rx ry ⟨z, i, c, rfl, rfl, h1, h2, h3⟩ hs
    | _ => exact False.elim h
  | ref p => cases y with
    | int i =>
      obtain ⟨xs, e, w, h2, h3⟩ := h
      rcases of_seqOf e with e | e
      · exact ix_list value slice pins s σ H _ _ v u Q I rx ry ⟨p, xs, i, w, rfl, rfl, SqL.of e, h2, h3⟩ hs
      · exact ix_tup value slice pins s σ H _ _ v u Q I rx ry ⟨p, xs, i, w, rfl, rfl, SqT.of e, h2, h3⟩ hs
    | _ => exact False.elim h
  | _ => exact False.elim h
theorem atI_0 {α : Type} (x : α) (r : List α) : atI (x :: r) 0 = some x := atI_nat (j := 0) rfl
theorem atI_1 {α : Type} (x y : α) (r : List α) : atI (x :: y :: r) 1 = some y := atI_nat (j := 1) rfl
theorem atI_2 {α : Type} (x y z : α) (r : List α) : atI (x :: y :: z :: r) 2 = some z := atI_nat (j := 2) rfl
theorem atI_of {α : Type} {xs : List α} {i : Int} {v : α} (h0 : 0 ≤ i) (h : xs[i.toNat]? = some v) : atI xs i = some v := by
  have := atI_nat (xs := xs) (j := i.toNat) h
  rwa [Int.toNat_of_nonneg h0] at this
def rSetU : V → V → V → Hp → (Hp → Prop) → Prop := fun o i v H Q => match o, i with
  | .ref p, .int k => ∃ xs, lstOf (H p) = some xs ∧ ∃ j, ixN xs.length k = some j ∧ Q (upd H p (.lst (xs.set j v)))
  | _, _ => False
theorem set_U : PSet X rSetU := by
  intro pins s σ H o i v ov iv u Q I ro ri rv h
  cases o with
  | ref p => cases i with
    | int k =>
      obtain ⟨xs, e, j, h1, h2⟩ := h
      exact set_list pins s σ H _ _ v ov iv u Q I ro ri rv ⟨p, xs, k, j, rfl, rfl, of_lstOf e, h1, h2⟩
    | _ => exact False.elim h
  | _ => exact False.elim h
def rLenU : List V → Hp → VK → Prop := fun xs H Q => match xs with
  | [.str z] => z.length ≤ sizeLine ∧ Q (.int z.length) H
  | [.ref p] => ∃ ys, seqOf (H p) = some ys ∧ Q (.int ys.length) H
  | _ => False
theorem call_lenU : CallR X (.builtin "len") rLenU := by
  intro pins s σ H xs us Q I r h
  unfold rLenU at h
  split at h
  · rename_i z; exact call_len_str pins s σ H _ us Q I r ⟨z, rfl, h⟩
  · rename_i p
    obtain ⟨ys, e, h⟩ := h
    rcases of_seqOf e with e | e
    · exact call_len_seq pins s σ H _ us Q I r ⟨p, ys, rfl, .inl (SqL.of e), h⟩
    · exact call_len_seq pins s σ H _ us Q I r ⟨p, ys, rfl, .inr (SqT.of e), h⟩
  · exact h.elim
def rMaxU : List V → Hp → VK → Prop := fun xs H Q => match xs with
  | [.int i, .int j] => Q (.int (if j > i then j else i)) H
  | _ => False
theorem call_maxU (hc : X.calm = true) : CallR X (.builtin "max") rMaxU := by
  intro pins s σ H xs us Q I r h
  unfold rMaxU at h
  split at h
  · rename_i i j; exact call_max2 hc pins s σ H _ us Q I r ⟨i, j, rfl, h⟩
  · exact h.elim
def rIntU : List V → Hp → VK → Prop := fun xs H Q => match xs with
  | [.int i] => Q (.int i) H
  | [.bl k] => Q (.int (if k then 1 else 0)) H
  | _ => False
theorem call_intU : CallR X (.type "int") rIntU := by
  intro pins s σ H xs us Q I r h
  unfold rIntU at h
  split at h
  · rename_i i; exact call_int1 pins s σ H _ us Q I r (.inl ⟨i, rfl, h⟩)
  · rename_i k; exact call_int1 pins s σ H _ us Q I r (.inr ⟨k, rfl, h⟩)
  · exact h.elim
def sgn (z : Str) : List V := z.cps.toList.map fun c => V.str ⟨#[c]⟩
theorem sgn_len (z : Str) : (sgn z).length = z.length := by simp [sgn, Str.length]
theorem vals_sgn {z : Str} {acc : Array Value} (h : ItemsOf (SignAt z) acc z.cps.size) : Vals (sgn z) acc.toList := by
  obtain ⟨h1, h2⟩ := h
  have hl : (sgn z).length = acc.toList.length := by simp [sgn, h1]
  have gen : ∀ (xs : List V) (us : List Value), xs.length = us.length → (∀ (i : Nat) (x : V) (u : Value), xs[i]? = some x → us[i]? = some u → RelV x u) → Vals xs us := by
    intro xs
    induction xs with
    | nil => intro us hl _; cases us with
      | nil => exact .nil
      | cons _ _ => simp at hl
    | cons x xs ih => intro us hl h; cases us with
      | nil => simp at hl
      | cons u us => exact .cons (h 0 x u rfl rfl) (ih us (by simpa using hl) fun i a b e1 e2 => h (i + 1) a b (by simpa using e1) (by simpa using e2))
  refine gen _ _ hl fun i x u e1 e2 => ?_
  obtain ⟨c, t, hc, hu⟩ := h2 i u (by simpa using e2)
  subst hu
  simp only [sgn, List.getElem?_map] at e1
  have : z.cps.toList[i]? = some c := by simpa using hc
  rw [this] at e1
  have e1' : V.str ⟨#[c]⟩ = x := Option.some.inj e1
  subst e1'
  exact ⟨t, rfl⟩
def rListU : List V → Hp → VK → Prop := fun xs H Q => match xs with
  | [.str z] => z.length ≤ sizeLine ∧ ∀ l, H l = none → Q (.ref l) (upd H l (.lst (sgn z)))
  | [.ref p] => ∃ ys, seqOf (H p) = some ys ∧ ∀ l, H l = none → Q (.ref l) (upd H l (.lst ys))
  | _ => False
theorem call_listU (hc : X.calm = true) : CallR X (.type "list") rListU := by
  intro pins s σ H xs us Q I r h
  unfold rListU at h
  split at h
  · rename_i z
    obtain ⟨u, rfl, t, rfl⟩ := vals1 r
    obtain ⟨hz, q⟩ := h
    refine call_list_str (I.ok.hd hc) z t (fun h' tk acc c hk hn hi => ?_) hz
    have hf := I.hok.fresh (Nat.le_refl s.heap.objs.size)
    refine ⟨.ref s.heap.objs.size, upd H s.heap.objs.size (.lst (sgn z)), I.laid hk (Nat.le_refl _) ⟨by rw [sgn_len]; exact hz, acc.toList, c, vals_sgn hi, by simpa using hn⟩, rfl, q _ hf⟩
  · rename_i p
    obtain ⟨ys, e, h⟩ := h
    rcases of_seqOf e with e | e
    · exact call_list_of pins s σ H _ us Q I r ⟨p, ys, rfl, .inl (SqL.of e), h⟩
    · exact call_list_of pins s σ H _ us Q I r ⟨p, ys, rfl, .inr (SqT.of e), h⟩
  · exact h.elim
def rPopU : V → List V → Hp → VK → Prop := fun x vs H Q => match x, vs with
  | .ref l, [.int i] => ∃ xs, lstOf (H l) = some xs ∧ 0 ≤ i ∧ ∃ y, xs[i.toNat]? = some y ∧ Q y (upd H l (.lst (xs.eraseIdx i.toNat)))
  | _, _ => False
theorem mt_popU : MtM X "list.pop" rPopU := by
  intro pins s σ H x vs v us Q I rx rv h
  unfold rPopU at h
  split at h
  · rename_i l i
    obtain ⟨xs, e, h0, y, hy, q⟩ := h
    have e := of_lstOf e
    have hz := (I.lstM e).1
    have hlt : i.toNat < xs.length := (List.getElem?_eq_some_iff.mp hy).1
    have hs : sizeLine = 16777216 := sizeLine_eq
    refine mt_popAt pins s σ H _ _ v us Q I rx rv ⟨l, xs, i, i.toNat, y, rfl, rfl, e, by omega, by omega, ?_, hy, q⟩
    exact seqIndex_of h0 (by omega)
  · exact h.elim
def rIsU (K : PySem.W.Frag) : List V → Hp → VK → Prop := fun xs H Q => match xs with
  | [x, .ty c] => ∃ t b, TyOf K H x t ∧ PySem.W.kitOne K t (.type c) = some b ∧ Q (.bl b) H
  | _ => False
theorem call_isinstanceU : CallR X (.builtin "isinstance") (rIsU X.K) := by
  intro pins s σ H xs us Q I r h
  unfold rIsU at h
  split at h
  · rename_i x c
    obtain ⟨t, b, ty, e, q⟩ := h
    obtain ⟨u, w', rfl, rx, rc⟩ := vals2 r
    cases rc
    exact isinst_ok I rx ty e fun tk => ⟨.bl b, H, I.tok tk, rfl, q⟩
  · exact h.elim
def ItS (z : Str) : It := ⟨fun i _ => i < z.length, fun i H x H' => H' = H ∧ ∃ c, z.cps.toList[i]? = some c ∧ x = .str ⟨#[c]⟩, fun i _ => z.length ≤ i⟩
theorem turn_strA {P : Program} {w : World} {K : PySem.W.Frag} {tg : Expr} (z : Str) (t : Tok) (it : Addr) : Turn P w K tg (ItS z) [it] it (fun i h => h.IsStrIter it "str_ascii_iterator" z t i) where
  mem := by simp
  obj := fun i h st b hb => by
    have e : b = it := by simpa using hb
    subst e
    obtain ⟨o, e, c, d⟩ := st
    exact ⟨o, e, fun v z => by rw [d] at z; cases z⟩
  keep := fun i h h' st k => let ⟨o, ho, r⟩ := st; ⟨o, k it (by simp) o ho, r⟩
  item := by
    intro X hP hw hK hc i pins s σ H E I hf st hg
    subst hP hw hK
    obtain ⟨f0, f1, f2, f3, f4, f5⟩ := hf it (by simp)
    have hi : i < z.cps.size := hg
    refine wpAny_pyNext_ascii_item st (c := z.cps[i]) (by simp [hi]) fun h' st' sb => ?_
    have I1 : Inv X pins σ H { s with heap := h', toks := s.toks + 1 } := I.turned (t' := s.toks + 1) (fun b o hb e => (sb.2 b hb).trans e) f0 f1 f3 f4 f5
    obtain ⟨o, e, c, d⟩ := id st'
    exact ⟨_, rfl, go_of (s := { s with heap := h', toks := s.toks + 1 }) e c d (by decide) ⟨.str ⟨#[z.cps[i]]⟩, H, I1, ⟨_, rfl⟩, ⟨rfl, _, by simp [hi], rfl⟩, st', fun b hb => (hf b hb).1⟩⟩
  done := by
    intro X hP hw hK hc i pins s σ H E I hf st hg
    subst hP hw hK
    obtain ⟨f0, f1, f2, f3, f4, f5⟩ := hf it (by simp)
    have hi : z.cps.size ≤ i := hg
    exact wpAny_pyNext_ascii_end (I.ok.hd hc) st (by simp [hi]) fun h' eb => ⟨rfl, I.turned (t' := s.toks) (fun b o hb e => eb b o hb e) f0 f1 f3 f4 f5⟩
  self := fun _ _ _ _ _ st h => wpAny_pyIter_striter_ascii st h
theorem turn_strW {P : Program} {w : World} {K : PySem.W.Frag} {tg : Expr} (z : Str) (t : Tok) (it : Addr) : Turn P w K tg (ItS z) [it] it (fun i h => h.IsStrIter it "str_iterator" z t i) where
  mem := by simp
  obj := fun i h st b hb => by
    have e : b = it := by simpa using hb
    subst e
    obtain ⟨o, e, c, d⟩ := st
    exact ⟨o, e, fun v z => by rw [d] at z; cases z⟩
  keep := fun i h h' st k => let ⟨o, ho, r⟩ := st; ⟨o, k it (by simp) o ho, r⟩
  item := by
    intro X hP hw hK hc i pins s σ H E I hf st hg
    subst hP hw hK
    obtain ⟨f0, f1, f2, f3, f4, f5⟩ := hf it (by simp)
    have hi : i < z.cps.size := hg
    refine wpAny_pyNext_wide_item st (c := z.cps[i]) (by simp [hi]) fun h' st' sb => ?_
    have I1 : Inv X pins σ H { s with heap := h', toks := s.toks + 1 } := I.turned (t' := s.toks + 1) (fun b o hb e => (sb.2 b hb).trans e) f0 f1 f3 f4 f5
    obtain ⟨o, e, c, d⟩ := id st'
    exact ⟨_, rfl, go_of (s := { s with heap := h', toks := s.toks + 1 }) e c d (by decide) ⟨.str ⟨#[z.cps[i]]⟩, H, I1, ⟨_, rfl⟩, ⟨rfl, _, by simp [hi], rfl⟩, st', fun b hb => (hf b hb).1⟩⟩
  done := by
    intro X hP hw hK hc i pins s σ H E I hf st hg
    subst hP hw hK
    obtain ⟨f0, f1, f2, f3, f4, f5⟩ := hf it (by simp)
    have hi : z.cps.size ≤ i := hg
    exact wpAny_pyNext_wide_end (I.ok.hd hc) st (by simp [hi]) fun h' eb => ⟨rfl, I.turned (t' := s.toks) (fun b o hb e => eb b o hb e) f0 f1 f3 f4 f5⟩
  self := fun _ _ _ _ _ st h => wpAny_pyIter_striter_wide st h
def iAny (K : PySem.W.Frag) (t : TE) : TI := fun σ H R => t σ H fun x H1 => match x with
  | .str z => R (ItS z) H1
  | .ref a => match H1 a with
    | some (.lst _) => R (Itl K a) H1
    | some (.tup _) => R (Itt K a) H1
    | _ => False
  | _ => False
theorem pi_any {tg l : Expr} {tl : TE} (hl : PE X l tl) : PI X tg l (iAny X.K tl) := by
  intro pins s σ H R I h
  refine thn (hl pins s σ H _ I h) fun v s1 ⟨x, H1, I1, r1, q1⟩ => ?_
  cases x with
  | str z =>
    obtain ⟨t, rfl⟩ := r1
    have fr : ∀ b ∈ [s1.heap.objs.size], FpOk X pins H1 b := fun b hb => by
      have e : b = s1.heap.objs.size := by simpa using hb
      subst e
      exact I1.fpOk (Nat.le_refl _) (I1.hok.fresh (Nat.le_refl _))
    cases ha : z.cps.all (· < 128)
    · exact wpAny_pyIter_wide ha ⟨s1.heap.objs.size, [s1.heap.objs.size], _, _, H1, rfl, I1.kept (t' := s1.toks) fun b o e => Heap.get?_push_of_some _ e, turn_strW z t _, ⟨_, Heap.get?_push_size _ rfl, rfl, rfl⟩, fr, q1⟩
    · exact wpAny_pyIter_ascii ha ⟨s1.heap.objs.size, [s1.heap.objs.size], _, _, H1, rfl, I1.kept (t' := s1.toks) fun b o e => Heap.get?_push_of_some _ e, turn_strA z t _, ⟨_, Heap.get?_push_size _ rfl, rfl, rfl⟩, fr, q1⟩
  | ref a =>
    cases r1
    have fr : ∀ b ∈ [s1.heap.objs.size], FpOk X pins H1 b := fun b hb => by
      have e : b = s1.heap.objs.size := by simpa using hb
      subst e
      exact I1.fpOk (Nat.le_refl _) (I1.hok.fresh (Nat.le_refl _))
    simp only at q1
    split at q1
    · rename_i xs e
      obtain ⟨its, rv, p, hz⟩ := I1.list (SqL.of e)
      exact wpAny_pyIter_list p.isList ⟨s1.heap.objs.size, [s1.heap.objs.size], _, _, H1, rfl, I1.kept (t' := s1.toks) fun b o e => Heap.get?_push_of_some _ e, turn_list a _, ⟨_, Heap.get?_push_size _ rfl, rfl, rfl⟩, fr, q1⟩
    · rename_i xs e
      obtain ⟨its, rv, p, hz⟩ := I1.tuple (SqT.of e)
      exact wpAny_pyIter_tuple (show s1.heap.IsTuple a its.toArray from p) ⟨s1.heap.objs.size, [s1.heap.objs.size], _, _, H1, rfl, I1.kept (t' := s1.toks) fun b o e => Heap.get?_push_of_some _ e, turn_tuple a _, ⟨_, Heap.get?_push_size _ rfl, rfl, rfl⟩, fr, q1⟩
    · exact q1.elim
  | _ => exact False.elim q1
mutual
def Rep (H : Hp) : V → PyData → Prop
  | v, .none => v = .non
  | v, .bool b => v = .bl b
  | v, .int i => v = .int i
  | v, .str x => v = .str x
  | v, .list ds => ∃ a vs, v = .ref a ∧ H a = some (.lst vs) ∧ Reps H vs ds
  | v, .tuple ds => ∃ a vs, v = .ref a ∧ H a = some (.tup vs) ∧ Reps H vs ds
  | _, .dict _ => False
def Reps (H : Hp) : List V → List PyData → Prop
  | [], [] => True
  | v :: vs, d :: ds => Rep H v d ∧ Reps H vs ds
  | _, _ => False
end
section
variable {pins : List (Addr × Obj)} {σ : L2.St} {H : Hp} {s : Shared}
mutual
theorem Rep.reads (I : Inv X pins σ H s) : ∀ {d : PyData} {v : V} {u : Value}, Rep H v d → RelV v u → ∃ as, Reads s.heap u d as
  | .none, v, u, h, r => by simp only [Rep] at h; subst h; cases r; exact ⟨_, .none⟩
  | .bool b, v, u, h, r => by simp only [Rep] at h; subst h; cases r; exact ⟨_, .bool b⟩
  | .int i, v, u, h, r => by simp only [Rep] at h; subst h; obtain ⟨t, rfl⟩ := r; exact ⟨_, .int i t⟩
  | .str x, v, u, h, r => by simp only [Rep] at h; subst h; obtain ⟨t, rfl⟩ := r; exact ⟨_, .str x t⟩
  | .list ds, v, u, h, r => by
    simp only [Rep] at h
    obtain ⟨a, vs, rfl, e, h⟩ := h
    cases r
    obtain ⟨its, rv, ⟨o, n, e1, e2, e3, e4⟩, hz⟩ := I.list (SqL.of e)
    obtain ⟨as, q⟩ := Reps.reads I h rv
    exact ⟨_, reads_list_at e1 e2 e4 (by simpa using q)⟩
  | .tuple ds, v, u, h, r => by
    simp only [Rep] at h
    obtain ⟨a, vs, rfl, e, h⟩ := h
    cases r
    obtain ⟨its, rv, ⟨o, e1, e2, n, e4⟩, hz⟩ := I.tuple (SqT.of e)
    obtain ⟨as, q⟩ := Reps.reads I h rv
    exact ⟨_, reads_tuple_at e1 e2 e4 (by simpa using q)⟩
  | .dict _, v, u, h, r => by simp only [Rep] at h
theorem Reps.reads (I : Inv X pins σ H s) : ∀ {ds : List PyData} {vs : List V} {us : List Value}, Reps H vs ds → Vals vs us → ∃ as, ReadsAll s.heap us ds as
  | [], [], us, h, r => by cases r; exact ⟨_, .nil⟩
  | [], v :: vs, us, h, r => by simp only [Reps] at h
  | d :: ds, [], us, h, r => by simp only [Reps] at h
  | d :: ds, v :: vs, us, h, r => by
    simp only [Reps] at h
    cases r with
    | cons r1 r2 =>
      obtain ⟨as, q⟩ := Rep.reads I h.1 r1
      obtain ⟨bs, q2⟩ := Reps.reads I h.2 r2
      exact ⟨_, .cons q q2⟩
end
end
def rEqD : R2 := fun x y H Q => ∃ d e, Rep H x d ∧ Rep H y e ∧ SeqAt.shaped d = true ∧ SeqAt.shaped e = true ∧ Q (.bl (PyData.eqv d e)) H
theorem op_eqD (hu : X.A.units + 64 < cLine) : OpR X (compareOp .Eq) rEqD := by
  intro pins s σ H x y v u Q I rx ry h
  obtain ⟨d, e, hd, he, sd, se, q⟩ := h
  obtain ⟨as, r1⟩ := hd.reads I rx
  obtain ⟨bs, r2⟩ := he.reads I ry
  exact eq_dataH r1 r2 sd se hu ⟨.bl _, H, I, rfl, q⟩
def rNeD : R2 := fun x y H Q => ∃ d e, Rep H x d ∧ Rep H y e ∧ SeqAt.shaped d = true ∧ SeqAt.shaped e = true ∧ Q (.bl (!PyData.eqv d e)) H
theorem op_neD (hu : X.A.units + 64 < cLine) : OpR X (compareOp .NotEq) rNeD := by
  intro pins s σ H x y v u Q I rx ry h
  obtain ⟨d, e, hd, he, sd, se, q⟩ := h
  obtain ⟨as, r1⟩ := hd.reads I rx
  obtain ⟨bs, r2⟩ := he.reads I ry
  exact ne_dataH r1 r2 sd se hu ⟨.bl _, H, I, rfl, q⟩
end
end L2
set_option Elab.async false
set_option linter.all false
set_option maxRecDepth 100000
set_option maxHeartbeats 4000000
namespace L2
open PySem PySem.Spec PyProof.Rows
theorem bt_len : bootBuiltins "len" = some (.builtin "len") := by decide +kernel
theorem bt_max : bootBuiltins "max" = some (.builtin "max") := by decide +kernel
theorem bt_isinstance : bootBuiltins "isinstance" = some (.builtin "isinstance") := by decide +kernel
theorem bt_int : bootBuiltins "int" = some (.type "int") := by decide +kernel
theorem bt_list : bootBuiltins "list" = some (.type "list") := by decide +kernel
theorem bt_tuple : bootBuiltins "tuple" = some (.type "tuple") := by decide +kernel
theorem bt_str : bootBuiltins "str" = some (.type "str") := by decide +kernel
theorem bt_bool : bootBuiltins "bool" = some (.type "bool") := by decide +kernel
theorem bt_enumerate : bootBuiltins "enumerate" = some (.type "enumerate") := by decide +kernel
section
variable {X : Cx}
def isL (x : V) (H : Hp) : Prop := match x with
  | .ref p => (lstOf (H p)).isSome = true
  | _ => False
def tBML (r : V → List V → Hp → VK → Prop) (to : TE) (t : TA) : TE := fun σ H Q => to σ H fun x H1 => isL x H1 ∧ t σ H1 fun xs H2 => r x xs H2 Q
theorem isL.ty {K : PySem.W.Frag} {x : V} {H : Hp} (h : isL x H) : tyV K "list" x H := by
  unfold isL at h
  split at h
  · rename_i p
    cases e : lstOf (H p) with
    | none => rw [e] at h; cases h
    | some ys => exact .inl ⟨rfl, ys, SqL.of (of_lstOf e)⟩
  · exact h.elim
variable {o e : Expr} {es : List Expr} {to : TE} {t : TA} {name : Str} {apos cpos : Pos} {id : String} {r : V → List V → Hp → VK → Prop}
theorem PE.imp {e : Expr} {t t' : TE} (h : PE X e t) (hi : ∀ σ H Q, t' σ H Q → t σ H Q) : PE X e t' := fun pins s σ H Q I hw => h pins s σ H Q I (hi σ H Q hw)
theorem pe_bmL (slot : Slot "list" name id) (hty : typeOf (.builtin id) = pure (.type "method_descriptor")) (hm : MtM X id r) (ho : PE X o to) (ha : PA X (e :: es) t) (mono : ∀ σ H Q Q', (∀ v H', Q v H' → Q' v H') → to σ H Q → to σ H Q')
    (hbase : attributeBase o name X.env (eval o X.env) = eval o X.env := by rfl)
    (hfew : ((backTo cpos (starEach (e :: es) X.env)).all (fun x => !x.1) && (backToKw cpos (keywordEach [] X.env)).all (fun x => x.1.isSome)
      && decide ((e :: es).length + ([] : List Keyword).length + (if ([] : List Keyword).isEmpty then 0 else 1) < 30)) = true := by rfl)
    (hline : (apos.endLine == cpos.line) = true := by rfl) (hs : starEach (e :: es) X.env = (false, eval e X.env) :: starEach es X.env := by rfl) (hplain : (backTo cpos (starEach es X.env)).any (·.1) = false := by rfl) :
    PE X (.Call (.Attribute o name apos) (e :: es) [] cpos) (tBML r to t) :=
  (pe_bm PySem.F.plainAttrs_list slot hty hm ho ha hbase hfew hline hs hplain).imp fun σ H Q h => mono σ H _ _ (fun v H' q => ⟨q.1.ty, q.2⟩) h
def tBML0 (r : V → List V → Hp → VK → Prop) (to : TE) : TE := fun σ H Q => to σ H fun x H1 => isL x H1 ∧ r x [] H1 Q
theorem pe_bmL0 (slot : Slot "list" name id) (hty : typeOf (.builtin id) = pure (.type "method_descriptor")) (hm : MtM X id r) (ho : PE X o to) (mono : ∀ σ H Q Q', (∀ v H', Q v H' → Q' v H') → to σ H Q → to σ H Q')
    (hbase : attributeBase o name X.env (eval o X.env) = eval o X.env := by rfl) (hline : (apos.endLine == cpos.line) = true := by rfl) : PE X (.Call (.Attribute o name apos) [] [] cpos) (tBML0 r to) :=
  (pe_bm0 PySem.F.plainAttrs_list slot hty hm ho hbase hline).imp fun σ H Q h => mono σ H _ _ (fun v H' q => ⟨q.1.ty, q.2⟩) h
theorem mono_var {i : Nat} : ∀ σ H Q Q', (∀ v H', Q v H' → Q' v H') → tVar i σ H Q → tVar i σ H Q' := fun _ _ _ _ h ⟨v, e, q⟩ => ⟨v, e, h v _ q⟩
def rAppendU : V → List V → Hp → VK → Prop := fun x vs H Q => match x, vs with
  | .ref l, [y] => ∃ xs, lstOf (H l) = some xs ∧ xs.length < sizeLine ∧ Q .non (upd H l (.lst (xs ++ [y])))
  | _, _ => False
theorem mt_appendU : MtM X "list.append" rAppendU := by
  intro pins s σ H x vs v us Q I rx rv h
  unfold rAppendU at h
  split at h
  · rename_i l y
    obtain ⟨xs, e, h⟩ := h
    exact mt_append pins s σ H _ _ v us Q I rx rv ⟨l, xs, y, rfl, rfl, of_lstOf e, h⟩
  · exact h.elim
def rEqU : R2 := fun x y H Q => match x, y with
  | .int i, .int j => Q (.bl (decide (i = j))) H
  | .bl i, .bl j => Q (.bl (decide (i = j))) H
  | .str i, .str j => Q (.bl (decide (i = j))) H
  | .ref a, .ref b => rEqD (.ref a) (.ref b) H Q
  | x, y => scal x y = true ∧ Q (.bl (decide (x = y))) H
def rNeU : R2 := fun x y H Q => match x, y with
  | .int i, .int j => Q (.bl (!decide (i = j))) H
  | .bl i, .bl j => Q (.bl (!decide (i = j))) H
  | .str i, .str j => Q (.bl (!decide (i = j))) H
  | .ref a, .ref b => rNeD (.ref a) (.ref b) H Q
  | x, y => scal x y = true ∧ Q (.bl (!decide (x = y))) H
theorem op_eqU (hu : X.A.units + 64 < cLine) : OpR X (compareOp .Eq) rEqU := by
  intro pins s σ H x y v u Q I rx ry h
  unfold rEqU at h
  split at h
  · exact op_eq pins s σ H _ _ v u Q I rx ry ⟨rfl, by simpa using h⟩
  · exact op_eq pins s σ H _ _ v u Q I rx ry ⟨rfl, by simpa using h⟩
  · exact op_eq pins s σ H _ _ v u Q I rx ry ⟨rfl, by simpa using h⟩
  · exact op_eqD hu pins s σ H _ _ v u Q I rx ry h
  · exact op_eq pins s σ H _ _ v u Q I rx ry h
theorem op_neU (hu : X.A.units + 64 < cLine) : OpR X (compareOp .NotEq) rNeU := by
  intro pins s σ H x y v u Q I rx ry h
  unfold rNeU at h
  split at h
  · exact op_ne pins s σ H _ _ v u Q I rx ry ⟨rfl, by simpa using h⟩
  · exact op_ne pins s σ H _ _ v u Q I rx ry ⟨rfl, by simpa using h⟩
  · exact op_ne pins s σ H _ _ v u Q I rx ry ⟨rfl, by simpa using h⟩
  · exact op_neD hu pins s σ H _ _ v u Q I rx ry h
  · exact op_ne pins s σ H _ _ v u Q I rx ry h
theorem rLtU_int (H : Hp) (Q : VK) (i j : Int) : rLtU (.int i) (.int j) H Q = (Q (.bl (decide (i < j))) H) := rfl
theorem rLtU_str (H : Hp) (Q : VK) (i j : Str) : rLtU (.str i) (.str j) H Q = (Q (.bl (decide (i.cps.toList < j.cps.toList))) H) := rfl
theorem rLeU_int (H : Hp) (Q : VK) (i j : Int) : rLeU (.int i) (.int j) H Q = (Q (.bl (decide (i ≤ j))) H) := rfl
theorem rLeU_str (H : Hp) (Q : VK) (i j : Str) : rLeU (.str i) (.str j) H Q = (Q (.bl (!decide (j.cps.toList < i.cps.toList))) H) := rfl
theorem rIxU_str (H : Hp) (Q : VK) (z : Str) (i : Int) : rIxU (.str z) (.int i) H Q = (z.length ≤ sizeLine ∧ ∃ c, atI z.cps.toList i = some c ∧ Q (.str ⟨#[c]⟩) H) := rfl
theorem rIxU_ref (H : Hp) (Q : VK) (p : Addr) (i : Int) : rIxU (.ref p) (.int i) H Q = (∃ xs, seqOf (H p) = some xs ∧ ∃ v, atI xs i = some v ∧ Q v H) := rfl
theorem rLenU_str (H : Hp) (Q : VK) (z : Str) : rLenU [.str z] H Q = (z.length ≤ sizeLine ∧ Q (.int z.length) H) := rfl
theorem rLenU_ref (H : Hp) (Q : VK) (p : Addr) : rLenU [.ref p] H Q = (∃ ys, seqOf (H p) = some ys ∧ Q (.int ys.length) H) := rfl
theorem rMaxU_int (H : Hp) (Q : VK) (i j : Int) : rMaxU [.int i, .int j] H Q = (Q (.int (if j > i then j else i)) H) := rfl
theorem rIntU_int (H : Hp) (Q : VK) (i : Int) : rIntU [.int i] H Q = (Q (.int i) H) := rfl
theorem rIntU_bl (H : Hp) (Q : VK) (k : Bool) : rIntU [.bl k] H Q = (Q (.int (if k then 1 else 0)) H) := rfl
theorem rListU_str (H : Hp) (Q : VK) (z : Str) : rListU [.str z] H Q = (z.length ≤ sizeLine ∧ ∀ l, H l = none → Q (.ref l) (upd H l (.lst (sgn z)))) := rfl
theorem rListU_ref (H : Hp) (Q : VK) (p : Addr) : rListU [.ref p] H Q = (∃ ys, seqOf (H p) = some ys ∧ ∀ l, H l = none → Q (.ref l) (upd H l (.lst ys))) := rfl
theorem rPopU_ref (H : Hp) (Q : VK) (l : Addr) (i : Int) : rPopU (.ref l) [.int i] H Q = (∃ xs, lstOf (H l) = some xs ∧ 0 ≤ i ∧ ∃ y, xs[i.toNat]? = some y ∧ Q y (upd H l (.lst (xs.eraseIdx i.toNat)))) := rfl
theorem rAppendU_ref (H : Hp) (Q : VK) (l : Addr) (y : V) : rAppendU (.ref l) [y] H Q = (∃ xs, lstOf (H l) = some xs ∧ xs.length < sizeLine ∧ Q .non (upd H l (.lst (xs ++ [y])))) := rfl
theorem rEqU_int (H : Hp) (Q : VK) (i j : Int) : rEqU (.int i) (.int j) H Q = (Q (.bl (decide (i = j))) H) := rfl
theorem rEqU_bl (H : Hp) (Q : VK) (i j : Bool) : rEqU (.bl i) (.bl j) H Q = (Q (.bl (decide (i = j))) H) := rfl
theorem rEqU_str (H : Hp) (Q : VK) (i j : Str) : rEqU (.str i) (.str j) H Q = (Q (.bl (decide (i = j))) H) := rfl
theorem rEqU_ref (H : Hp) (Q : VK) (i j : Addr) : rEqU (.ref i) (.ref j) H Q = (rEqD (.ref i) (.ref j) H Q) := rfl
theorem rNeU_int (H : Hp) (Q : VK) (i j : Int) : rNeU (.int i) (.int j) H Q = (Q (.bl (!decide (i = j))) H) := rfl
theorem rNeU_bl (H : Hp) (Q : VK) (i j : Bool) : rNeU (.bl i) (.bl j) H Q = (Q (.bl (!decide (i = j))) H) := rfl
theorem rNeU_str (H : Hp) (Q : VK) (i j : Str) : rNeU (.str i) (.str j) H Q = (Q (.bl (!decide (i = j))) H) := rfl
theorem rNeU_ref (H : Hp) (Q : VK) (i j : Addr) : rNeU (.ref i) (.ref j) H Q = (rNeD (.ref i) (.ref j) H Q) := rfl
theorem rIsU_ty (K : PySem.W.Frag) (x : V) (c : String) (H : Hp) (Q : VK) : rIsU K [x, .ty c] H Q = (∃ t b, TyOf K H x t ∧ PySem.W.kitOne K t (.type c) = some b ∧ Q (.bl b) H) := rfl
theorem rSetU_ref (p : Addr) (k : Int) (v : V) (H : Hp) (Q : Hp → Prop) : rSetU (.ref p) (.int k) v H Q = (∃ xs, lstOf (H p) = some xs ∧ ∃ j, ixN xs.length k = some j ∧ Q (upd H p (.lst (xs.set j v)))) := rfl
theorem isL_ref (p : Addr) (H : Hp) : isL (.ref p) H = ((lstOf (H p)).isSome = true) := rfl
def LoopR (J : It) (g : TG) (tb : TS) (D : Ends) (σ : L2.St) (H1 : Hp) : Prop := ∃ W : Nat → Nat → L2.St → Hp → Prop, (∃ m, W 0 m σ H1) ∧ ∀ i m σ H, W i m σ H →
  (J.stop i H ∧ D.nx σ H) ∨ (J.go i H ∧ ∃ N : L2.St → Hp → Prop, (∀ σ' H', N σ' H' → ∃ m', m' < m ∧ W (i + 1) m' σ' H') ∧ ∀ x H', J.yld i H x H' → g x σ H' fun σ2 H2 => tb { D with nx := N, ct := N, bk := D.nx } σ2 H2)
theorem tFor_eq (wi : TI) (g : TG) (tb : TS) (D : Ends) (σ : L2.St) (H : Hp) : tFor wi g tb D σ H = wi σ H fun J H1 => LoopR J g tb D σ H1 := rfl
theorem loop_range {lo : Int} {n : Nat} {g : TG} {tb : TS} {D : Ends} {σ : L2.St} {H : Hp} (Pv : Nat → L2.St → Hp → Prop) (h0 : Pv 0 σ H)
    (hs : ∀ i σ H, i < n → Pv i σ H → g (.int (lo + i)) σ H fun σ2 H2 => tb { D with nx := Pv (i + 1), ct := Pv (i + 1), bk := D.nx } σ2 H2) (hd : ∀ σ H, Pv n σ H → D.nx σ H) : LoopR (Itr lo n) g tb D σ H := for_range Pv h0 hs hd
theorem loop_list {K : PySem.W.Frag} {a : Addr} {xs : List V} {g : TG} {tb : TS} {D : Ends} {σ : L2.St} {H : Hp} (Pv : Nat → L2.St → Hp → Prop) (h0 : Pv 0 σ H) (hl : ∀ i σ H, i ≤ xs.length → Pv i σ H → H a = some (.lst xs))
    (hs : ∀ i x σ H, xs[i]? = some x → Pv i σ H → g x σ H fun σ2 H2 => tb { D with nx := Pv (i + 1), ct := Pv (i + 1), bk := D.nx } σ2 H2) (hd : ∀ σ H, Pv xs.length σ H → D.nx σ H) : LoopR (Itl K a) g tb D σ H :=
  for_list Pv h0 (fun i σ H h p => SqL.of (hl i σ H h p)) hs hd
theorem loop_tup {K : PySem.W.Frag} {a : Addr} {xs : List V} {g : TG} {tb : TS} {D : Ends} {σ : L2.St} {H : Hp} (Pv : Nat → L2.St → Hp → Prop) (h0 : Pv 0 σ H) (hl : ∀ i σ H, i ≤ xs.length → Pv i σ H → H a = some (.tup xs))
    (hs : ∀ i x σ H, xs[i]? = some x → Pv i σ H → g x σ H fun σ2 H2 => tb { D with nx := Pv (i + 1), ct := Pv (i + 1), bk := D.nx } σ2 H2) (hd : ∀ σ H, Pv xs.length σ H → D.nx σ H) : LoopR (Itt K a) g tb D σ H :=
  for_tup Pv h0 (fun i σ H h p => SqT.of (hl i σ H h p)) hs hd
end
end L2
set_option Elab.async false
set_option linter.all false
set_option maxRecDepth 100000
set_option maxHeartbeats 4000000
namespace L2
open PySem PySem.Spec PyProof.Rows
def clOf (env : Env) : List (Str × NameKind) → List (Str × Addr) → List (Str × Addr)
  | [], cs => cs
  | (n, k) :: r, cs => clOf env r (if k == .free then (n, (env.cells.lookup n).getD 0) :: cs else cs)
theorem closure_of {env : Env} {scope : Scope} (h : ∀ y ∈ scope.names, y.2 = .free → ∃ c, env.cells.lookup y.1 = some c) : closureFor scope env = pure (clOf env scope.names []) := by
  have gen : ∀ (l : List (Str × NameKind)) (cs : List (Str × Addr)), (∀ y ∈ l, y.2 = .free → ∃ c, env.cells.lookup y.1 = some c) →
      (forIn l cs fun x r => (match x with | (name, kind) => if (kind == NameKind.free) = true then do let c ← cellOf env name; pure (ForInStep.yield ((name, c) :: r)) else pure (ForInStep.yield r)) : Sem (List (Str × Addr))) = pure (clOf env l cs) := by
    intro l
    induction l with
    | nil => intro cs _; rfl
    | cons y l ih =>
      intro cs hy
      obtain ⟨n, k⟩ := y
      rw [List.forIn_cons]
      have hr := fun z hz => hy z (List.mem_cons_of_mem _ hz)
      by_cases hk : k = .free
      · subst hk
        obtain ⟨c, hc⟩ := hy _ (List.mem_cons_self ..) rfl
        have hc' : env.cells.lookup n = some c := hc
        have e : cellOf env n = pure c := by unfold cellOf; rw [hc']
        simp only [beq_self_eq_true, if_true, e, pure_bind]
        rw [ih _ hr]
        simp [clOf, hc']
      · have hb : (k == NameKind.free) = false := by simpa using hk
        simp only [hb, Bool.false_eq_true, if_false, pure_bind]
        rw [ih _ hr]
        simp [clOf, hb]
  exact (congrArg (· >>= fun s => pure s) (gen scope.names [] h)).trans (by rfl)
theorem clOf_sub {env : Env} : ∀ (l : List (Str × NameKind)) (cs : List (Str × Addr)) (x : Str) (c : Addr), (∀ y ∈ l, y.2 = .free → ∃ c, env.cells.lookup y.1 = some c) → (∀ x c, cs.lookup x = some c → env.cells.lookup x = some c) →
    (clOf env l cs).lookup x = some c → env.cells.lookup x = some c
  | [], cs, x, c, _, hc, h => hc x c h
  | (n, k) :: r, cs, x, c, hl, hc, h => by
    unfold clOf at h
    refine clOf_sub r _ x c (fun y hy => hl y (List.mem_cons_of_mem _ hy)) (fun z d hz => ?_) h
    split at hz
    · rename_i hk
      rw [List.lookup_cons] at hz
      cases hzn : z == n with
      | true =>
        rw [hzn] at hz
        obtain ⟨c', hc'⟩ := hl _ (List.mem_cons_self ..) (by simpa using hk)
        have hc'' : env.cells.lookup n = some c' := hc'
        have ez : z = n := by simpa using hzn
        subst ez
        rw [hc''] at hz
        rw [hc'']
        exact hz
      | false => rw [hzn] at hz; exact hc z d hz
    · exact hc z d hz
theorem clOf_keep {env : Env} : ∀ (l : List (Str × NameKind)) (cs : List (Str × Addr)) (x : Str), (∃ c, cs.lookup x = some c) → ∃ c, (clOf env l cs).lookup x = some c
  | [], cs, x, h => h
  | (n, k) :: r, cs, x, h => by
    unfold clOf
    refine clOf_keep r _ x ?_
    split
    · rw [List.lookup_cons]
      cases x == n with
      | true => exact ⟨_, rfl⟩
      | false => exact h
    · exact h
theorem clOf_has {env : Env} : ∀ (l : List (Str × NameKind)) (cs : List (Str × Addr)) (x : Str), (x, NameKind.free) ∈ l → ∃ c, (clOf env l cs).lookup x = some c
  | (n, k) :: r, cs, x, h => by
    unfold clOf
    rcases List.mem_cons.mp h with h | h
    · cases h
      refine clOf_keep r _ _ ?_
      simp [List.lookup_cons]
    · exact clOf_has r _ x h
abbrev Cx.comp (X : Cx) (scope : Scope) (C : Addr) (Nc : List Str) (s3 : Shared) (H3 : Hp) (fp : List Addr) : Cx :=
  { X with N := Nc, s₀ := s3, H₀ := H3, env := compEnvC scope (clOf X.env scope.names []) C X.env, outer := X.stack, stack := X.stack, ex := fp, fn := fun _ => false, pn := [], xe := fun _ _ => False }
def compSt (js : List (Option Nat)) (σ : L2.St) : L2.St := js.map fun o => o.bind fun j => (σ[j]?).getD none
def tEmit (D : Addr) (te : TE) : TS := fun E σ H => te σ H fun v H1 => ∃ ys, lstOf (H1 D) = some ys ∧ ys.length < sizeLine ∧ E.nx σ (upd H1 D (.lst (ys ++ [v])))
def tComp (wi : TI) (g : TG) (js : List (Option Nat)) (te : TE) : TE := fun σ H Q => wi σ H fun J H1 => ∀ D, H1 D = none →
  LoopR J g (tEmit D te) { nx := fun _ H' => Q (.ref D) H', rt := fun _ _ => False } (compSt js σ) (upd H1 D (.lst []))
structure CompOk (X : Cx) (scope : Scope) (Nc : List Str) (js : List (Option Nat)) : Prop where
  kind : scope.kind = .function
  nocell : ∀ y ∈ scope.names, y.2 ≠ .cell
  loc : ∀ y ∈ scope.names, y.2 = .local → scope.names.lookup y.1 = some .local
  free : ∀ y ∈ scope.names, y.2 = .free → X.env.kindOf y.1 = some .cell ∨ X.env.kindOf y.1 = some .free
  len : js.length = Nc.length
  nol : ∀ x, (x, NameKind.free) ∈ scope.names → scope.names.lookup x ≠ some .local
  see : ∀ (i j : Nat) (x : Str), js[i]? = some (some j) → Nc[i]? = some x → X.N[j]? = some x ∧ (x, NameKind.free) ∈ scope.names
section
variable {X : Cx} {pins : List (Addr × Obj)} {σ : L2.St} {H : Hp} {s : Shared} {scope : Scope} {Nc : List Str} {js : List (Option Nat)} {fp : List Addr}
theorem CompOk.has (c : CompOk X scope Nc js) (I : Inv X pins σ H s) : ∀ y ∈ scope.names, y.2 = .free → ∃ a, X.env.cells.lookup y.1 = some a := fun y hy hf => I.ok.has _ (c.free y hy hf)
theorem relabel_kind {env : Env} {x : Str} : ∀ {l : List (Str × NameKind)}, (∀ y ∈ l, y.2 ≠ .cell) →
    ((l.map fun (n, k) => if (k == NameKind.free && env.scope.kind == .function && env.kindOf n == some .cell) then (n, NameKind.cell) else (n, k)).lookup x = some .cell ∨
     (l.map fun (n, k) => if (k == NameKind.free && env.scope.kind == .function && env.kindOf n == some .cell) then (n, NameKind.cell) else (n, k)).lookup x = some .free) → (x, NameKind.free) ∈ l
  | [], _, h => by simp at h
  | (n, k) :: r, hc, h => by
    rw [List.map_cons] at h
    by_cases hx : x = n
    · subst hx
      have hk : k = .free := by
        have hk' : k ≠ .cell := hc _ (List.mem_cons_self ..)
        by_cases hcond : (k == NameKind.free && env.scope.kind == .function && env.kindOf x == some .cell) = true
        · rw [Bool.and_eq_true, Bool.and_eq_true] at hcond
          simpa using hcond.1.1
        · simp only [hcond, Bool.false_eq_true, if_false, List.lookup_cons, beq_self_eq_true] at h
          rcases h with h | h
          · exact absurd (Option.some.inj h) hk'
          · exact Option.some.inj h
      subst hk
      exact List.mem_cons_self ..
    · refine List.mem_cons_of_mem _ (relabel_kind (env := env) (fun y hy => hc y (List.mem_cons_of_mem _ hy)) ?_)
      have hxn : (x == n) = false := by simpa using hx
      by_cases hcond : (k == NameKind.free && env.scope.kind == .function && env.kindOf n == some .cell) = true
      · simpa only [hcond, if_true, List.lookup_cons, hxn] using h
      · simpa only [hcond, Bool.false_eq_true, if_false, List.lookup_cons, hxn] using h
theorem relabel_loc {env : Env} {x : Str} : ∀ {l : List (Str × NameKind)},
    (l.map fun (n, k) => if (k == NameKind.free && env.scope.kind == .function && env.kindOf n == some .cell) then (n, NameKind.cell) else (n, k)).lookup x = some .local → l.lookup x = some .local
  | [], h => by simp at h
  | (n, k) :: r, h => by
    rw [List.map_cons] at h
    by_cases hx : x = n
    · subst hx
      by_cases hcond : (k == NameKind.free && env.scope.kind == .function && env.kindOf x == some .cell) = true
      · simp only [hcond, if_true, List.lookup_cons, beq_self_eq_true] at h
        cases h
      · simp only [hcond, Bool.false_eq_true, if_false, List.lookup_cons, beq_self_eq_true] at h
        simp only [List.lookup_cons, beq_self_eq_true]
        exact h
    · have hxn : (x == n) = false := by simpa using hx
      rw [List.lookup_cons, hxn]
      refine relabel_loc (env := env) ?_
      by_cases hcond : (k == NameKind.free && env.scope.kind == .function && env.kindOf n == some .cell) = true
      · simpa only [hcond, if_true, List.lookup_cons, hxn] using h
      · simpa only [hcond, Bool.false_eq_true, if_false, List.lookup_cons, hxn] using h
theorem comp_ok (c : CompOk X scope Nc js) (I : Inv X pins σ H s) (hf : ∀ b ∈ fp, FpOk X pins H b) (ho : ∀ b ∈ fp, ∃ o, s.heap.get? b = some o) : (X.comp scope s.heap.objs.size Nc s H fp).Ok := by
  have hs := c.has I
  have sub : ∀ x a, (clOf X.env scope.names []).lookup x = some a → X.env.cells.lookup x = some a := fun x a => clOf_sub _ _ x a hs (fun _ _ z => nomatch z)
  refine ⟨I.ok.mod, c.kind, I.ok.glob, I.ok.blt, Nat.le_refl _, fun x y a e1 e2 => I.ok.inj x y a (sub x a e1) (sub y a e2), fun x h => clOf_has _ _ x (relabel_kind (env := X.env) c.nocell h), (fun x a h => nomatch h), I.ok.hd, I.ok.frames, .inl rfl, fun b hb => ⟨?_, fun x a e => ?_⟩, I.bs,
    Nat.le_trans I.ok.bsz I.sz, fun b o e hb => ?_, fun b hb hb' => ?_, I.stack, I.stkFree⟩
  · obtain ⟨o, e⟩ := ho b hb
    exact Nat.ne_of_lt (Heap.lt_size e)
  · exact (hf b hb).2.2.2.2.1 x a (sub x a e)
  · rcases (hf b hb).2.2.2.1 with z | z
    · exact I.ok.noex b o e z
    · exact absurd (Nat.lt_of_lt_of_le (Heap.lt_size (I.ok.bs b o e).1) z) (Nat.lt_irrefl _)
  · rcases List.mem_cons.mp (I.stkSub b hb') with z | z
    · exact (hf b hb).2.1 z
    · exact (hf b hb).2.2.1 z
theorem comp_inv (c : CompOk X scope Nc js) (I : Inv X pins σ H s) (hf : ∀ b ∈ fp, FpOk X pins H b) (ho : ∀ b ∈ fp, ∃ o, s.heap.get? b = some o) {h' : Heap} {m : Str → Option Value} {tk : Nat} (hn : h'.Ns s.heap.objs.size m)
    (hk : ∀ b o, s.heap.get? b = some o → h'.get? b = some o) : Inv (X.comp scope s.heap.objs.size Nc s H fp) [] (compSt js σ) H { s with heap := h', toks := tk } := by
  have hs := c.has I
  have sub : ∀ x a, (clOf X.env scope.names []).lookup x = some a → X.env.cells.lookup x = some a := fun x a => clOf_sub _ _ x a hs (fun _ _ z => nomatch z)
  refine ⟨comp_ok c I hf ho, rfl, I.bare, Un.kept hk, ⟨m, hn, fun i x v e1 e2 e3 => ?_⟩, fun x a e => ?_, I.hok.fresh (Nat.le_refl _), fun x a e => I.freeC x a (sub x a e), (fun p hp => nomatch hp), I.hok.kept hk, by simp only [compSt, List.length_map]; exact c.len⟩
  · have e2' : (compSt js σ)[i]? = some (some v) := e2
    unfold compSt at e2'
    rw [List.getElem?_map] at e2'
    cases ej : js[i]? with
    | none => rw [ej] at e2'; cases e2'
    | some o =>
      rw [ej] at e2'
      cases o with
      | none => cases e2'
      | some j =>
        have e4 : (σ[j]?).getD none = some v := Option.some.inj e2'
        have e5 : σ[j]? = some (some v) := by
          cases q : σ[j]? with
          | none => rw [q] at e4; cases e4
          | some w => rw [q] at e4; exact congrArg some e4
        obtain ⟨n1, n2⟩ := c.see i j x ej e1
        have hkd := c.free _ n2 rfl
        obtain ⟨a, ha⟩ := clOf_has (env := X.env) scope.names [] x n2
        obtain ⟨m0, _, hl⟩ := I.loc
        obtain ⟨u, r, l⟩ := hl j x v n1 e5 (by
          rcases hkd with z | z
          · exact .inr (.inl z)
          · exact .inr (.inr z))
        refine ⟨u, r, ?_⟩
        rcases l with ⟨k, _⟩ | ⟨_, a', ha', hcell⟩
        · rcases hkd with z | z
          · rw [z] at k; cases k
          · rw [z] at k; cases k
        · have : a' = a := Option.some.inj (ha'.symm.trans (sub x a ha))
          subst this
          refine .inr ⟨?_, a', ha, ?_⟩
          · rcases e3 with z | z | z
            · exfalso
              have q : (relabel scope X.env).names.lookup x = some .local := z
              exact c.nol x n2 (relabel_loc q)
            · exact .inl z
            · exact .inr z
          · obtain ⟨o, q, d⟩ := hcell
            exact ⟨o, hk _ o q, d⟩
  · obtain ⟨v, o, q, d⟩ := I.cell x a (sub x a e)
    exact ⟨v, o, hk _ o q, d⟩
theorem comp_after (I : Inv X pins σ H s) (hf : ∀ b ∈ fp, FpOk X pins H b) {σ' : L2.St} {H' : Hp} {s' : Shared} {h'' : Heap} (J : Inv (X.comp scope s.heap.objs.size Nc s H fp) [] σ' H' s') (hs : Heap.SameBut s.heap.objs.size s'.heap h'') :
    Inv X pins σ H' { s' with heap := h'' } := by
  have ne : ∀ b o, s.heap.get? b = some o → b ≠ s.heap.objs.size := fun b o e => Nat.ne_of_lt (Heap.lt_size e)
  have u : Un (frs X.stack) fp H H' s.heap s'.heap := J.base
  refine I.call' (s' := { s' with heap := h'' }) (ch := fp) J.os ⟨fun b o e n hb hx => ?_, fun b o e n hb hx => ?_, u.free, fun b o e hx => ?_, u.tups, u.frzs, u.tbls⟩ (fun b o e => ?_) J.bare fun b hb => ?_
  · exact (hs.2 b (ne b o e)).trans (u.keep b o e n hb hx)
  · obtain ⟨sl, q⟩ := u.slot b o e n hb hx
    exact ⟨sl, (hs.2 b (ne b o e)).trans q⟩
  · obtain ⟨o', q⟩ := u.there b o e hx
    exact ⟨o', (hs.2 b (ne b o e)).trans q⟩
  · have hC : H' s.heap.objs.size = none := J.free
    refine (J.hok b o e).stay (fun d v hd q => (hs.2 d ?_).trans q) (fun _ q => q) fun _ _ q => q
    rintro rfl
    rcases hd with z | z
    · rw [← z, hC] at e; cases e
    · rw [hC] at z; cases z
  · obtain ⟨_, f1, _, f3, f4, f5⟩ := hf b hb
    exact ⟨f3, f1, f4, f5⟩
end
section
variable {X : Cx} {scope : Scope} {Nc : List Str} {js : List (Option Nat)} {elt tg iter : Expr} {pos : Pos} {wi : TI} {g : TG} {te : TE}
theorem comp_core (hc : X.calm = true) (c : CompOk X scope Nc js) (hi : PI X tg iter wi) (hg : ∀ C s3 H3 fp, PG (X.comp scope C Nc s3 H3 fp) tg g) (he : ∀ C s3 H3 fp, PE (X.comp scope C Nc s3 H3 fp) elt te)
    {pins : List (Addr × Obj)} {s : Shared} {σ : L2.St} {H : Hp} (I : Inv X pins σ H s) {RR : Value → Addr → Result → Shared → Prop} {NX : Addr → Hp → Prop}
    (h : wi σ H fun J H1 => ∀ D, H1 D = none → LoopR J g (tEmit D te) { nx := fun _ H' => NX D H', rt := fun _ _ => False } (compSt js σ) (upd H1 D (.lst [])))
    (fin : ∀ D H3 s3 fp σ5 H5 s6, Inv X pins σ H3 s3 → (∀ b ∈ fp, FpOk X pins H3 b) → Inv (X.comp scope s3.heap.objs.size Nc s3 H3 fp) [] σ5 H5 s6 → NX D H5 → RR (.ref D) s3.heap.objs.size (.ok .next) s6) :
    wpAny (model X.prog X.w) X.A (eval iter X.env) (fun x s₁ => wpAny (model X.prog X.w) X.A (pyIter x) (fun it s₂ => wpAny (model X.prog X.w) X.A (newList []) (fun acc s₃ =>
      wpAny (model X.prog X.w) X.A (newFunctionEnv scope X.env.globals (clOf X.env scope.names []) [] X.env.qual none .none (some X.env)) (fun cenv s₄ =>
        codeAny (model X.prog X.w) X.A (.compStart (.ListComp elt [⟨tg, iter, [], 0⟩] scope pos) 0 it acc { cenv with scope := relabel scope X.env }) (RR acc cenv.locals) s₄) X.xe s₃) X.xe s₂) X.xe s₁) X.xe s := by
  refine thn (hi pins s σ H _ I h) fun v s1 h1 => thn h1 fun itv s2 h2 => ?_
  obtain ⟨it, fp, tn, J, H2, rfl, I2, T, st2, f2, h2⟩ := h2
  -- the list
  refine wpAny_newObj_type ?_ (by show 0 ≤ sizeLine; decide)
  have hD : H2 s2.heap.objs.size = none := I2.hok.fresh (Nat.le_refl _)
  have I3 : Inv X pins σ (upd H2 s2.heap.objs.size (.lst [])) { s2 with heap := s2.heap.push { cls := .type "list", data := .seq ([] : List Value).toArray } } :=
    I2.laid (t' := s2.toks) (fun b u e => Heap.get?_push_of_some _ e) (Nat.le_refl _) ⟨by show 0 ≤ sizeLine; decide, [], 0, .nil, Heap.get?_push_size _ rfl⟩
  have f3 : ∀ b ∈ fp, FpOk X pins (upd H2 s2.heap.objs.size (.lst [])) b := fun b hb => by
    obtain ⟨q0, q⟩ := f2 b hb
    obtain ⟨o, e, _⟩ := T.obj _ _ st2 b hb
    exact ⟨by rw [upd_ne (Nat.ne_of_lt (Heap.lt_size e))]; exact q0, q⟩
  have o3 : ∀ b ∈ fp, ∃ o, (s2.heap.push { cls := .type "list", data := .seq ([] : List Value).toArray }).get? b = some o := fun b hb => by
    obtain ⟨o, e, _⟩ := T.obj _ _ st2 b hb
    exact ⟨o, Heap.get?_push_of_some _ e⟩
  have st3 : tn 0 (s2.heap.push { cls := .type "list", data := .seq ([] : List Value).toArray }) := T.keep _ _ _ st2 fun b _ o e => Heap.get?_push_of_some _ e
  generalize hh3 : s2.heap.push { cls := .type "list", data := .seq ([] : List Value).toArray } = h3 at I3 o3 st3 ⊢
  refine wpAny_newFunctionEnv c.nocell (by intro y hy; simp at hy) (fun h4 hn4 hs4 => ?_) c.kind
  have k4 : ∀ b o, h3.get? b = some o → h4.get? b = some o := fun b o e => (hs4.2 b (Nat.ne_of_lt (Heap.lt_size e))).trans (Heap.get?_push_of_some _ e)
  have I4 := comp_inv (tk := s2.toks + ([] : List (Str × Value)).length) c I3 f3 o3 hn4 k4
  have st4 : tn 0 h4 := T.keep _ _ _ st3 fun b _ o e => k4 b o e
  obtain ⟨W, ⟨m0, w0⟩, turn⟩ := h2 _ hD
  let s3 : Shared := { s2 with heap := h3 }
  let Y : Cx := X.comp scope h3.objs.size Nc s3 (upd H2 s2.heap.objs.size (.lst [])) fp
  have stat : ∀ {H' : Hp}, (∀ b ∈ fp, H' b = none) → ∀ b ∈ fp, FpOk Y [] H' b := fun hn b hb => ⟨hn b hb, (I4.ok.exf b hb).1, I4.ok.exfs b hb, .inl hb, (I4.ok.exf b hb).2, (fun p hp => nomatch hp)⟩
  have loop : codeAny (model X.prog X.w) X.A (.compLoop (.ListComp elt [⟨tg, iter, [], 0⟩] scope pos) 0 (.ref it) (.ref s2.heap.objs.size) Y.env)
      (RR (.ref s2.heap.objs.size) h3.objs.size) { s2 with heap := h4, toks := s2.toks + ([] : List (Str × Value)).length } := by
    refine codeAny_loop rfl (fun n s' => ∃ i σ' H', Inv Y [] σ' H' s' ∧ tn i s'.heap ∧ (∀ b ∈ fp, H' b = none) ∧ W i n σ' H') (fun n s5 hI => ?_) m0 ⟨0, _, _, I4, st4, fun b hb => (f3 b hb).1, w0⟩
    obtain ⟨i, σ5, H5, I5, st5, fr5, w5⟩ := hI
    show wpAny _ X.A ((compTurn (.ListComp elt [⟨tg, iter, [], 0⟩] scope pos) 0 (.ref it) (.ref s2.heap.objs.size) Y.env).onRaise (fun x => do noteFrame x Y.env; theTreesLotGoes x)) _ _ s5
    refine wpAny_noted (wpAny_mono (E := fun _ _ => False) ?_ (fun _ _ q => q) fun _ _ z => z.elim)
    rw [compTurn_list1]
    refine wpAny_bind (wpAny_standAt (wpAny_bind ?_))
    rcases turn i n σ5 H5 w5 with ⟨stop, qn⟩ | ⟨go, N, hN, step⟩
    · refine thn (T.done Y rfl rfl rfl hc i [] s5 σ5 H5 _ I5 (stat fr5) st5 stop) fun r s6 ⟨hr, I6⟩ => ?_
      subst hr
      refine wpAny_pure ?_
      exact fin _ _ s3 fp σ5 H5 s6 I3 f3 I6 qn
    · refine thn (T.item Y rfl rfl rfl hc i [] s5 σ5 H5 _ I5 (stat fr5) st5 go) fun r s6 ⟨u, hr, h6⟩ => ?_
      subst hr
      refine wpAny_bind (thn h6 fun _ s7 ⟨x, H7, I7, r7, y7, st7, fr7⟩ => ?_)
      have I7' := I7.pinned (stat fr7) (T.obj _ _ st7)
      refine wpAny_bind (thn (hg _ _ _ _ _ s7 σ5 H7 x u _ I7' r7 (step x H7 y7)) fun _ s8 ⟨σ8, H8, I8, q8⟩ => ?_)
      refine wpAny_bind (wpAny_bind (thn (he _ _ _ _ _ s8 σ8 H8 _ I8 q8) fun v s9 ⟨y, H9, I9, r9, ys, e9, z9, n9⟩ => ?_))
      refine wpAny_bind (thn (mt_append (X := Y) _ s9 σ8 H9 (.ref s2.heap.objs.size) [y] (.ref s2.heap.objs.size) [v] (fun w H' => N σ8 H') I9 rfl (.cons r9 .nil) ⟨_, ys, y, rfl, rfl, of_lstOf e9, z9, n9⟩) fun w s10 ⟨_, H10, I10, _, n10⟩ => ?_)
      refine wpAny_pure (wpAny_pure ⟨rfl, ?_⟩)
      obtain ⟨m', hm, w10⟩ := hN σ8 H10 n10
      refine ⟨m', hm, i + 1, σ8, H10, I10.unpinned, T.keep _ _ _ st7 fun b hb o e => (I10.pin (b, o) (List.mem_append_right _ (List.mem_append_right _ (mem_pinsAt hb e)))).1, fun b hb => ?_, w10⟩
      obtain ⟨o, e, d⟩ := T.obj _ _ st7 b hb
      exact (I10.pin (b, o) (List.mem_append_right _ (List.mem_append_right _ (mem_pinsAt hb e)))).2.1
  exact codeAny_compStart_list loop (T.self _ 0 _ _ _ st4 loop)
theorem pe_comp (hc : X.calm = true) (c : CompOk X scope Nc js) (hi : PI X tg iter wi) (hg : ∀ C s3 H3 fp, PG (X.comp scope C Nc s3 H3 fp) tg g) (he : ∀ C s3 H3 fp, PE (X.comp scope C Nc s3 H3 fp) elt te)
    (hs : ∀ x, foldedSetIterable iter X.env x = pure x := by intro _; rfl) : PE X (.ListComp elt [⟨tg, iter, [], 0⟩] scope pos) (tComp wi g js te) := by
  intro pins s σ H Q I h
  rw [eval_ListComp]
  refine wpAny_comprehension_free (use := none) (g := ⟨tg, iter, [], 0⟩) (gs := []) rfl hs (closure_of (c.has I)) c.kind c.loc
    (comp_core (RR := fun acc C => compPost (model X.prog X.w) X.A X.xe none (EP X pins σ Q) acc C) (NX := fun D H' => Q (.ref D) H') hc c hi hg he I h fun D H3 s3 fp σ5 H5 s6 I3 f3 I6 qn => ?_)
  obtain ⟨m, hn, _⟩ := I6.loc
  exact ⟨m, hn, fun h' hs' => ⟨.ref D, H5, comp_after I3 f3 I6 hs', rfl, qn⟩⟩
end
end L2
set_option Elab.async false
set_option linter.all false
set_option maxRecDepth 100000
set_option maxHeartbeats 4000000
namespace L2
open PySem PySem.Spec PyProof.Rows
section
variable {X : Cx}
def rTupleU : List V → Hp → VK → Prop := fun xs H Q => match xs with
  | [.ref p] => (∃ ys, lstOf (H p) = some ys ∧ ∀ l, H l = none → Q (.ref l) (upd H l (.tup ys))) ∨ (∃ ys, tupOf (H p) = some ys ∧ Q (.ref p) H)
  | _ => False
theorem call_tupleU : CallR X (.type "tuple") rTupleU := by
  intro pins s σ H xs us Q I r h
  unfold rTupleU at h
  split at h
  · rename_i p
    rcases h with ⟨ys, e, h⟩ | ⟨ys, e, h⟩
    · exact call_tuple_of pins s σ H _ us Q I r ⟨p, ys, rfl, .inl ⟨SqL.of (of_lstOf e), h⟩⟩
    · exact call_tuple_of pins s σ H _ us Q I r ⟨p, ys, rfl, .inr ⟨SqT.of (of_tupOf e), h⟩⟩
  · exact h.elim
theorem rTupleU_lst {p : Addr} {H : Hp} {Q : VK} {ys : List V} (e : H p = some (.lst ys)) (h : ∀ l, H l = none → Q (.ref l) (upd H l (.tup ys))) : rTupleU [.ref p] H Q := .inl ⟨ys, by rw [e]; rfl, h⟩
def rMulW : R2 := fun x y H Q => match x, y with
  | .int i, .int j => CMul i j ∧ Q (.int (i * j)) H
  | .ref l, .int k => ∃ xs, lstOf (H l) = some xs ∧ 0 ≤ k ∧ k < 2 ^ 62 ∧ xs.length * k.toNat ≤ sizeLine ∧ ∀ p, H p = none → Q (.ref p) (upd H p (.lst (List.replicate k.toNat xs).flatten))
  | _, _ => False
theorem op_mulW : OpR X (binaryOp .Mult) rMulW := by
  intro pins s σ H x y v u Q I rx ry h
  cases x with
  | int i => cases y with
    | int j => exact op_mul pins s σ H _ _ v u Q I rx ry ⟨i, j, rfl, rfl, h⟩
    | _ => exact False.elim h
  | ref l => cases y with
    | int k =>
      obtain ⟨xs, e, k0, k1, h⟩ := h
      exact op_rep pins s σ H _ _ v u Q I rx ry ⟨l, k, xs, rfl, rfl, of_lstOf e, by omega, by omega, h⟩
    | _ => exact False.elim h
  | _ => exact False.elim h
theorem rMulW_int (H : Hp) (Q : VK) (i j : Int) : rMulW (.int i) (.int j) H Q = (CMul i j ∧ Q (.int (i * j)) H) := rfl
theorem rMulW_ref (H : Hp) (Q : VK) (l : Addr) (k : Int) : rMulW (.ref l) (.int k) H Q = (∃ xs, lstOf (H l) = some xs ∧ 0 ≤ k ∧ k < 2 ^ 62 ∧ xs.length * k.toNat ≤ sizeLine ∧ ∀ p, H p = none → Q (.ref p) (upd H p (.lst (List.replicate k.toNat xs).flatten))) := rfl
variable {o e : Expr} {es : List Expr} {to : TE} {t : TA} {name : Str} {apos cpos : Pos} {id : String} {r : V → List V → Hp → VK → Prop}
def cutS (z : Str) (lo hi : Option Int) : Str := ⟨((z.cps.toList.drop (HT.sIx z.length 0 lo)).take (HT.sIx z.length z.length hi - HT.sIx z.length 0 lo)).toArray⟩
theorem strIx_eq (lo hi : Option Int) (n : Nat) : Builtin.Str.strSliceIndices lo hi 1 n = (List.range (HT.sIx n n hi - HT.sIx n 0 lo)).map (HT.sIx n 0 lo + ·) := by
  rw [← sliceRange_one]
  unfold Builtin.Str.strSliceIndices
  have e1 : (match lo with | none => (if (1 : Int) > 0 then (0 : Int) else (n : Int) - 1) | some i => let i := if i < 0 then i + (n : Int) else i; if (1 : Int) > 0 then max 0 (min i (n : Int)) else max (-1) (min i ((n : Int) - 1))) = ((HT.sIx n 0 lo : Nat) : Int) := by
    cases lo with
    | none => simp [HT.sIx]
    | some v =>
      simp only [show (1 : Int) > 0 by decide, if_true, HT.sIx]
      by_cases h : v < 0
      · simp only [h, if_true]; omega
      · simp only [h, if_false]; omega
  have e2 : (match hi with | none => (if (1 : Int) > 0 then (n : Int) else -1) | some i => let i := if i < 0 then i + (n : Int) else i; if (1 : Int) > 0 then max 0 (min i (n : Int)) else max (-1) (min i ((n : Int) - 1))) = ((HT.sIx n n hi : Nat) : Int) := by
    cases hi with
    | none => simp [HT.sIx]
    | some v =>
      simp only [show (1 : Int) > 0 by decide, if_true, HT.sIx]
      by_cases h : v < 0
      · simp only [h, if_true]; omega
      · simp only [h, if_false]; omega
  have key : ∀ a b a' b' : Int, a = a' → b = b' → sliceRange a b 1 = sliceRange a' b' 1 := by
    intro a b a' b' h1 h2
    rw [h1, h2]
  exact key _ _ _ _ e1 e2
theorem cutS_eq (z : Str) (lo hi : Option Int) : Txt.slice z lo hi = cutS z lo hi := by
  have e : (Builtin.Str.strSliceIndices lo hi 1 z.length).filterMap (z.cps[·]?) = (z.cps.toList.drop (HT.sIx z.length 0 lo)).take (HT.sIx z.length z.length hi - HT.sIx z.length 0 lo) := by
    rw [strIx_eq, pick_run]
  unfold Txt.slice cutS
  split
  · rename_i h
    have h2 : ((Builtin.Str.strSliceIndices lo hi 1 z.length).length == z.length) = true := by simpa using h
    have h3 : (Builtin.Str.strSliceIndices lo hi 1 z.length).length = z.length := eq_of_beq h2
    rw [strIx_eq, List.length_map, List.length_range] at h3
    have hl : z.cps.toList.length = z.length := by simp [Str.length]
    have q : ((z.cps.toList.drop (HT.sIx z.length 0 lo)).take (HT.sIx z.length z.length hi - HT.sIx z.length 0 lo)) = z.cps.toList := by
      have hb : HT.sIx z.length z.length hi ≤ z.length := by
        cases hi with
        | none => exact Nat.le_refl _
        | some v => simp only [HT.sIx]; split <;> omega
      by_cases h0 : z.length = 0
      · have : z.cps.toList = [] := List.length_eq_zero_iff.mp (by omega)
        rw [this]; simp
      · have ha : HT.sIx z.length 0 lo = 0 := by omega
        rw [h3, ha, List.drop_zero]
        exact List.take_of_length_le (by omega)
    rw [q]
  · rw [e]
def rSlS : V → Option Int → Option Int → Hp → VK → Prop := fun x lo hi H Q => ∃ z, x = .str z ∧ z.length ≤ sizeLine ∧ Q (.str (cutS z lo hi)) H
theorem sl_str : SlR X rSlS := by
  intro pins s σ H x v vl vu lo hi sl Q I rx hs pl pu h
  obtain ⟨z, rfl, hz, q⟩ := h
  obtain ⟨t, rfl⟩ := rx
  have gen : ∀ (l u : Option (Int × Tok)), vl = partValue l → vu = partValue u → lo = l.map (·.1) → hi = u.map (·.1) →
      wpAny (model X.prog X.w) X.A (getItem (.str z t) (.ref sl)) (EP X pins σ Q) X.xe s := by
    intro l u e1 e2 e3 e4
    subst e1 e2 e3 e4
    refine wpAny_getItem_str_slice (l := l) (u := u) (st := none) hs (by rfl) ?_
    have e : (if ((((none : Option (Int × Tok)).map (·.1)).getD 1 == 1 && (slicePicked z l u none).length == z.length) = true) then z else ⟨((slicePicked z l u none).filterMap (z.cps[·]?)).toArray⟩) = cutS z (l.map (·.1)) (u.map (·.1)) := by
      rw [← cutS_eq]; rfl
    refine post_val_or_str ⟨?_, fun t' c => ⟨.str (cutS z (l.map (·.1)) (u.map (·.1))), H, I.tok c, ⟨t', congrArg (Value.str · t') e⟩, q⟩⟩
    rw [e, ← cutS_eq]
    exact Nat.le_trans (Txt.slice_le _ _ _) hz
  refine ⟨"str", _, F.slot_str_getitem.lookup, typeIs_str _ _ _, ?_⟩
  cases pl with
  | none => cases pu with
    | none => exact gen none none rfl rfl rfl rfl
    | int j tj => exact gen none (some (j, tj)) rfl rfl rfl rfl
  | int i ti => cases pu with
    | none => exact gen (some (i, ti)) none rfl rfl rfl rfl
    | int j tj => exact gen (some (i, ti)) (some (j, tj)) rfl rfl rfl rfl
def compChk (sc : Scope) (N : List Str) (scope : Scope) (Nc : List Str) (js : List (Option Nat)) : Bool :=
  (scope.kind == .function) && scope.names.all (fun y => !(y.2 == .cell)) && scope.names.all (fun y => !(y.2 == .local) || scope.names.lookup y.1 == some .local) &&
  scope.names.all (fun y => !(y.2 == .free) || ((sc.names.lookup y.1 == some .cell || sc.names.lookup y.1 == some .free) && !(scope.names.lookup y.1 == some .local))) && (js.length == Nc.length) &&
  (List.range js.length).all (fun i => match js[i]? with
    | some (some j) => (N[j]? == Nc[i]?) && (match Nc[i]? with | some x => scope.names.any (fun y => y.1 == x && y.2 == .free) | none => true)
    | _ => true)
theorem compOk_of {sc scope : Scope} {N Nc : List Str} {js : List (Option Nat)} (hd : compChk sc N scope Nc js = true) (hsc : X.env.scope = sc := by rfl) (hN : X.N = N := by rfl) : CompOk X scope Nc js := by
  simp only [compChk, Bool.and_eq_true, List.all_eq_true, Bool.or_eq_true, Bool.not_eq_true', beq_iff_eq, List.mem_range] at hd
  obtain ⟨⟨⟨⟨⟨h1, h2⟩, h3⟩, h4⟩, h5⟩, h6⟩ := hd
  have kk : ∀ x, X.env.kindOf x = sc.names.lookup x := fun x => by rw [← hsc]; rfl
  refine ⟨h1, fun y hy e => ?_, fun y hy e => ?_, fun y hy e => ?_, h5, fun x hx => ?_, fun i j x e1 e2 => ?_⟩
  · have := h2 y hy
    rw [e] at this; cases this
  · rcases h3 y hy with q | q
    · rw [e] at q; cases q
    · exact q
  · rcases h4 y hy with q | q
    · rw [e] at q; cases q
    · rw [kk]
      exact q.1
  · rcases h4 _ hx with q | q
    · cases q
    · intro z
      have q2 := q.2
      rw [z] at q2
      cases q2
  · have hi : i < js.length := (List.getElem?_eq_some_iff.mp e1).1
    have q := h6 i hi
    rw [e1, e2] at q
    simp only [Bool.and_eq_true, beq_iff_eq, List.any_eq_true] at q
    refine ⟨by rw [hN]; exact q.1, ?_⟩
    obtain ⟨y, hy, hy1, hy2⟩ := q.2
    obtain ⟨a, b⟩ := y
    simp only at hy1 hy2
    subst hy1 hy2
    exact hy
end
end L2
set_option Elab.async false
set_option linter.all false
set_option maxRecDepth 100000
set_option maxHeartbeats 4000000
namespace L2
open PySem PySem.Spec PyProof.Rows
def ItT (n : Nat) (vals : Nat → List V) : It := ⟨fun i _ => i < n, fun i H x H' => ∃ T, H T = none ∧ x = .ref T ∧ H' = upd H T (.tup (vals i)), fun i _ => i = n⟩
theorem Inv.turnedNew {X : Cx} {pins : List (Addr × Obj)} {σ : L2.St} {H : Hp} {s : Shared} {h' : Heap} {t' : Nat} {fp wr : List Addr} {T : Addr} {xs : List V} {vs : List Value} (I : Inv X pins σ H s) (hf : ∀ b ∈ wr, FpOk X pins H b)
    (k : ∀ b o, b ∉ wr → s.heap.get? b = some o → h'.get? b = some o) (hT : s.heap.objs.size ≤ T) (tup : IsTup h' T vs.toArray) (r : Vals xs vs) (hz : xs.length ≤ sizeLine) (there : ∀ b ∈ wr, ∃ o, h'.get? b = some o) :
    Inv X pins σ (upd H T (.tup xs)) { s with heap := h', toks := t' } := by
  have neT : ∀ b u, H b = some u → b ≠ T := fun b u e => Nat.ne_of_lt (Nat.lt_of_lt_of_le (I.hok.lt e) hT)
  have nw : ∀ b u, H b = some u → b ∉ wr := fun b u e hb => by rw [(hf b hb).1] at e; cases e
  refine I.step (g' := s.gens) (d' := s.drawn) (ch := wr) (fun b hb => ?_) (fun b o _ _ hc e _ => k b o hc e) (fun b o _ _ hc e _ => ⟨o.slots, k b o hc e⟩) (fun b o hc e n => ?_) (fun b o hc e => ⟨o, k b o hc e⟩)
    (fun b ys e => by rw [upd_ne (neT b _ e)]; exact e) (fun b o u e => by rw [upd_ne (neT b _ e)]; exact e) (fun b ps e => ⟨#[], by rw [upd_ne (neT b _ e), e]; simp⟩) (fun m hm => ?_) (fun b u e => ?_) I.bare
  · obtain ⟨_, f1, _, f3, f4, f5⟩ := hf b hb
    exact ⟨f3, f1, f4, f5⟩
  · rw [upd_ne (Nat.ne_of_lt (Nat.lt_of_lt_of_le (Heap.lt_size e) hT))]; exact n
  · obtain ⟨o, es, ep, ho, rr⟩ := hm
    exact ⟨o, es, ep, k _ o (fun z => (hf _ z).2.1 rfl) ho, rr⟩
  · by_cases hb : b = T
    · subst hb
      rw [upd_same] at e
      cases e
      exact ⟨hz, vs, r, tup⟩
    · rw [upd_ne hb] at e
      refine (I.hok b u e).stay (fun d v hd q => k d v ?_ q) (fun d q => by rw [upd_ne (neT d _ q)]; exact q) fun d ys q => by rw [upd_ne (neT d _ q)]; exact q
      rcases hd with rfl | hd
      · exact nw _ _ e
      · exact nw _ _ hd
theorem turn_WT {P : Program} {w : World} {K : PySem.W.Frag} {elts : List Expr} {kk : Nat} {pos : Pos} {it : Addr} {fp wr : List Addr} {n : Nat} {Pt : Nat → Array Value → Prop} {St : Nat → Heap → Prop} {Mid : Nat → Addr → Heap → Prop} {vals : Nat → List V}
    (W : ∀ A : Around, A.handled = none → WalksT P w A it fp wr n Pt St Mid) (hI : it ∈ fp) (obj : ∀ i h, St i h → ∀ b ∈ fp, ∃ o, h.get? b = some o ∧ ∀ v, o.data ≠ .cell v)
    (hself : ∀ (A : Around) (i : Nat) (s : Shared) (Q : Value → Shared → Prop) (E : Value → Shared → Prop), St i s.heap → Q (.ref it) s → wpAny (model P w) A (pyIter (.ref it)) Q E s)
    (hv : ∀ i vs, Pt i vs → Vals (vals i) vs.toList) (hz : ∀ i, (vals i).length ≤ sizeLine) : Turn P w K (.Tuple elts kk pos) (ItT n vals) fp it St where
  mem := hI
  obj := obj
  keep := fun i h h' st k => by
    obtain ⟨A, hA⟩ : ∃ A : Around, A.handled = none := ⟨callerA, rfl⟩
    exact (W A hA).frame i h h' st k
  item := by
    intro X hP hw hK hc i pins s σ H E I hf st hg
    subst hP hw hK
    have WA := W X.A (I.ok.hd hc)
    refine WA.item i s _ _ hg st fun T vs h' tk hp hT htup mid kk' => ⟨_, rfl, ?_⟩
    have nTw := WA.apart _ _ _ mid
    refine WA.go _ _ _ i T { s with heap := h', toks := tk } _ _ mid fun h'' st'' k'' => ?_
    have fw : ∀ b ∈ wr, FpOk X pins H b := fun b hb => hf b (WA.sub b hb)
    have tup' : IsTup h'' T vs := by
      obtain ⟨o, e, r⟩ := htup
      exact ⟨o, k'' T o nTw e, r⟩
    refine ⟨.ref T, upd H T (.tup (vals i)), ?_, rfl, ⟨T, I.hok.fresh hT, rfl, rfl⟩, st'', fun b hb => ?_⟩
    · exact I.turnedNew (fp := fp) fw (fun b o hb e => k'' b o hb (kk' b o hb e)) hT (by simpa using tup') (hv i vs hp) (hz i) fun b hb => let ⟨o, e, _⟩ := obj _ _ st'' b (WA.sub b hb); ⟨o, e⟩
    · have hlt : b < s.heap.objs.size := by
        obtain ⟨o, e, _⟩ := obj _ _ st b hb
        exact Heap.lt_size e
      rw [upd_ne (Nat.ne_of_lt (Nat.lt_of_lt_of_le hlt hT))]
      exact (hf b hb).1
  done := by
    intro X hP hw hK hc i pins s σ H E I hf st hg
    subst hP hw hK
    have hi : i = n := hg
    subst hi
    have WA := W X.A (I.ok.hd hc)
    refine WA.done s _ _ st fun h' tk kk' => ⟨rfl, ?_⟩
    have fw : ∀ b ∈ wr, FpOk X pins H b := fun b hb => hf b (WA.sub b hb)
    have nw : ∀ b u, H b = some u → b ∉ wr := fun b u e hb => by rw [(fw b hb).1] at e; cases e
    refine I.step (g' := s.gens) (d' := s.drawn) (ch := wr) (fun b hb => ?_) (fun b o _ _ hc e _ => kk' b o hc e) (fun b o _ _ hc e _ => ⟨o.slots, kk' b o hc e⟩) (fun b o hc e n => n) (fun b o hc e => ⟨o, kk' b o hc e⟩)
      (fun _ _ e => e) (fun _ _ _ e => e) (fun b ps e => ⟨#[], by rw [e]; simp⟩) (fun m hm => ?_) (fun b u e => ?_) I.bare
    · obtain ⟨_, f1, _, f3, f4, f5⟩ := fw b hb
      exact ⟨f3, f1, f4, f5⟩
    · obtain ⟨o, es, ep, ho, rr⟩ := hm
      exact ⟨o, es, ep, kk' _ o (fun z => (fw _ z).2.1 rfl) ho, rr⟩
    · refine (I.hok b u e).stay (fun d v hd q => kk' d v ?_ q) (fun _ q => q) fun _ _ q => q
      rcases hd with rfl | hd
      · exact nw _ _ e
      · exact nw _ _ hd
  self := hself
theorem loop_T {n : Nat} {vals : Nat → List V} {g : TG} {tb : TS} {D : Ends} {σ : L2.St} {H : Hp} (Pv : Nat → L2.St → Hp → Prop) (h0 : Pv 0 σ H)
    (hs : ∀ i σ H T, i < n → Pv i σ H → H T = none → g (.ref T) σ (upd H T (.tup (vals i))) fun σ2 H2 => tb { D with nx := Pv (i + 1), ct := Pv (i + 1), bk := D.nx } σ2 H2) (hd : ∀ σ H, Pv n σ H → D.nx σ H) : LoopR (ItT n vals) g tb D σ H := by
  refine ⟨fun i m σ H => m = n - i ∧ i ≤ n ∧ Pv i σ H, ⟨n, by simp, Nat.zero_le _, h0⟩, ?_⟩
  rintro i m σ H ⟨rfl, hi, p⟩
  by_cases hlt : i < n
  · refine .inr ⟨hlt, Pv (i + 1), fun σ' H' p' => ⟨n - (i + 1), by omega, rfl, hlt, p'⟩, fun x H' y => ?_⟩
    obtain ⟨T, hT, e1, e2⟩ := y
    subst e1 e2
    exact hs i σ H T hlt p hT
  · have e : i = n := by omega
    subst e
    exact .inl ⟨rfl, hd σ H p⟩
def enumV (z : Str) (i : Nat) : List V := [.int (i : Int), .str ⟨#[z.cps.toList.getD i 0]⟩]
section
variable {X : Cx}
def iEnumS (ta : TA) : TI := fun σ H R => ta σ H fun vs H1 => ∃ z, vs = [.str z] ∧ R (ItT z.length (enumV z)) H1
theorem turn_enumS {P : Program} {w : World} {K : PySem.W.Frag} {elts : List Expr} {kk : Nat} {pos : Pos} (z : Str) (t : Tok) (e it : Addr) (ne : e ≠ it) :
    Turn P w K (.Tuple elts kk pos) (ItT z.length (enumV z)) [e, it] e (fun i h => (∃ old, IsEnum h e it i old) ∧ h.IsStrIter it (strIterType z) z t i) := by
  have D : ∀ A : Around, A.handled = none → Draws P w A.in1 it [it] z.cps.size (fun i v => ∃ c u, z.cps[i]? = some c ∧ v = .str ⟨#[c]⟩ u) (fun i h => h.IsStrIter it (strIterType z) z t i) := fun A hA => by
    unfold strIterType
    split
    · exact Draws.strAscii (A := A.in1) (show A.in1.handled = none from hA) it z t
    · exact Draws.strWide (A := A.in1) (show A.in1.handled = none from hA) it z t
  refine turn_WT (wr := [e, it]) (fun A hA => WalksT.enumerateD (D A hA) e ne (by simpa using ne) (by simp)) (by simp) (fun i h st b hb => ?_) (fun A i s Q E st q => ?_) (fun i vs hp => ?_) (fun i => by show 2 ≤ sizeLine; decide)
  · obtain ⟨⟨old, he⟩, ⟨o, ho, hc, hd⟩⟩ := st
    rcases List.mem_cons.mp hb with rfl | hb
    · exact ⟨_, he, fun v z => by cases z⟩
    · rw [List.mem_singleton.mp hb]
      exact ⟨o, ho, fun v z => by rw [hd] at z; cases z⟩
  · obtain ⟨⟨old, he⟩, _⟩ := st
    exact wpAny_pyIter_enum he q
  · obtain ⟨t', x, ⟨c, u, hc, rfl⟩, rfl⟩ := hp
    have e1 : z.cps.toList.getD i 0 = c := by
      have : z.cps.toList[i]? = some c := by simpa using hc
      rw [List.getD_eq_getElem?_getD, this]; rfl
    refine .cons ⟨t', rfl⟩ (.cons ⟨u, ?_⟩ .nil)
    rw [e1]
theorem pi_enumerate {a : Expr} {ta : TA} {p pos tpos : Pos} {elts : List Expr} {kk : Nat} (hg : Gl X "enumerate") (hm : X.mg "enumerate" = none) (ha : PA X [a] ta) (hs : starEach [a] X.env = [(false, eval a X.env)] := by rfl) :
    PI X (.Tuple elts kk tpos) (.Call (.Name "enumerate" p) [a] [] pos) (iEnumS ta) := by
  intro pins s σ H R I h
  refine Call_ (ld_blt I hg hm bt_enumerate (PyProof.Rows.callWith_type1 (thn (ha pos pins s σ H _ I h) fun us s1 ⟨vs, H1, I1, r1, q1⟩ => ?_) hs rfl))
  obtain ⟨z, e, q⟩ := q1
  subst e
  obtain ⟨u, rfl, t, rfl⟩ := vals1 r1
  refine call_enumerate_str fun h' he hi hz hk => ?_
  have I2 : Inv X pins σ H1 { s1 with heap := h' } := I1.kept (t' := s1.toks) hk
  refine wpAny_pyIter_enum he ⟨s1.heap.objs.size + 1, [s1.heap.objs.size + 1, s1.heap.objs.size], _, _, H1, rfl, I2, turn_enumS z t (s1.heap.objs.size + 1) s1.heap.objs.size (Nat.succ_ne_self _), ⟨⟨.none, he⟩, hi⟩, fun b hb => ?_, q⟩
  have hb' : s1.heap.objs.size ≤ b := by
    rcases List.mem_cons.mp hb with rfl | hb
    · omega
    · rw [List.mem_singleton.mp hb]; exact Nat.le_refl _
  obtain ⟨f0, f1, f2, f3, f4, f5⟩ := I1.fpOk (H' := H1) hb' (I1.hok.fresh hb')
  exact ⟨f0, f1, f2, f3, f4, f5⟩
end
end L2
set_option Elab.async false
set_option linter.all false
set_option maxRecDepth 100000
set_option maxHeartbeats 4000000
namespace L2
open PySem PySem.Spec PyProof.Rows
section
variable {X : Cx}
def rAddW : R2 := fun x y H Q => match x, y with
  | .int i, .int j => Q (.int (i + j)) H
  | .str i, .str j => i.length + j.length ≤ sizeLine ∧ Q (.str (i ++ j)) H
  | .ref l, .ref b => (∃ xs zs, lstOf (H l) = some xs ∧ lstOf (H b) = some zs ∧ xs.length + zs.length ≤ sizeLine ∧ ∀ p, H p = none → Q (.ref p) (upd H p (.lst (xs ++ zs)))) ∨
      (∃ xs zs, tupOf (H l) = some xs ∧ tupOf (H b) = some zs ∧ xs ≠ [] ∧ zs ≠ [] ∧ xs.length + zs.length ≤ sizeLine ∧ ∀ p, H p = none → Q (.ref p) (upd H p (.tup (xs ++ zs))))
  | _, _ => False
theorem op_addW : OpR X (binaryOp .Add) rAddW := by
  intro pins s σ H x y v u Q I rx ry h
  cases x with
  | int i => cases y with
    | int j => exact op_add pins s σ H _ _ v u Q I rx ry ⟨i, j, rfl, rfl, h⟩
    | _ => exact False.elim h
  | str i => cases y with
    | str j => exact op_add_str pins s σ H _ _ v u Q I rx ry ⟨i, j, rfl, rfl, h⟩
    | _ => exact False.elim h
  | ref l => cases y with
    | ref b =>
      rcases h with ⟨xs, zs, e1, e2, h⟩ | ⟨xs, zs, e1, e2, n1, n2, hz, h⟩
      · exact op_cat pins s σ H _ _ v u Q I rx ry ⟨l, b, xs, zs, rfl, rfl, of_lstOf e1, of_lstOf e2, h⟩
      · exact op_catT pins s σ H _ _ v u Q I rx ry ⟨l, b, xs, zs, rfl, rfl, SqT.of (of_tupOf e1), SqT.of (of_tupOf e2), n1, hz, fun z => absurd z n2, fun _ => h⟩
    | _ => exact False.elim h
  | _ => exact False.elim h
theorem rAddW_int (H : Hp) (Q : VK) (i j : Int) : rAddW (.int i) (.int j) H Q = (Q (.int (i + j)) H) := rfl
theorem rAddW_str (H : Hp) (Q : VK) (i j : Str) : rAddW (.str i) (.str j) H Q = (i.length + j.length ≤ sizeLine ∧ Q (.str (i ++ j)) H) := rfl
theorem rAddW.tup {H : Hp} {Q : VK} {l b : Addr} {xs zs : List V} (e1 : H l = some (.tup xs)) (e2 : H b = some (.tup zs)) (n1 : xs ≠ []) (n2 : zs ≠ []) (hz : xs.length + zs.length ≤ sizeLine)
    (h : ∀ p, H p = none → Q (.ref p) (upd H p (.tup (xs ++ zs)))) : rAddW (.ref l) (.ref b) H Q := .inr ⟨xs, zs, by rw [e1]; rfl, by rw [e2]; rfl, n1, n2, hz, h⟩
end
end L2
set_option Elab.async false
set_option linter.all false
set_option maxRecDepth 100000
set_option maxHeartbeats 4000000
namespace L2
open PySem PySem.Spec PyProof.Rows
section
variable {X : Cx} {pos : Pos} {k v : Expr} {tk tv : TE}
end
end L2
set_option Elab.async false
set_option linter.all false
set_option maxRecDepth 100000
set_option maxHeartbeats 4000000
namespace L2
open PySem PySem.Spec PyProof.Rows
section
variable {X : Cx}
def rSlU (K : PySem.W.Frag) : V → Option Int → Option Int → Hp → VK → Prop := fun x lo hi H Q => match x with
  | .str z => z.length ≤ sizeLine ∧ Q (.str (cutS z lo hi)) H
  | .ref a => (∃ xs, SqL K H a xs ∧ ∀ p, H p = none → Q (.ref p) (upd H p (.lst (cutV xs lo hi)))) ∨
      ∃ xs, SqT K H a xs ∧ ¬ (HT.sIx xs.length 0 lo = 0 ∧ HT.sIx xs.length xs.length hi = xs.length) ∧ ∀ p, H p = none → Q (.ref p) (upd H p (.tup (cutV xs lo hi)))
  | _ => False
theorem sl_U : SlR X (rSlU X.K) := by
  intro pins s σ H x v vl vu lo hi sl Q I rx hs pl pu h
  unfold rSlU at h
  split at h
  · rename_i z
    exact sl_str pins s σ H (.str z) v vl vu lo hi sl Q I rx hs pl pu ⟨z, rfl, h⟩
  · rename_i a
    rcases h with ⟨xs, hx, q⟩ | ⟨xs, hx, nw, q⟩
    · exact sl_list pins s σ H (.ref a) v vl vu lo hi sl Q I rx hs pl pu ⟨a, xs, rfl, hx, q⟩
    · exact sl_tup pins s σ H (.ref a) v vl vu lo hi sl Q I rx hs pl pu ⟨a, xs, rfl, hx, nw, q⟩
  · exact h.elim
theorem rSlU_str (K : PySem.W.Frag) (H : Hp) (Q : VK) (z : Str) (lo hi : Option Int) : rSlU K (.str z) lo hi H Q = (z.length ≤ sizeLine ∧ Q (.str (cutS z lo hi)) H) := rfl
theorem rSlU.sq {K : PySem.W.Frag} {H : Hp} {Q : VK} {a : Addr} {xs : List V} {lo hi : Option Int} (e : SqL K H a xs) (h : ∀ p, H p = none → Q (.ref p) (upd H p (.lst (cutV xs lo hi)))) : rSlU K (.ref a) lo hi H Q := .inl ⟨xs, e, h⟩
theorem rSlU.tup {K : PySem.W.Frag} {H : Hp} {Q : VK} {a : Addr} {xs : List V} {lo hi : Option Int} (e : H a = some (.tup xs)) (nw : ¬ (HT.sIx xs.length 0 lo = 0 ∧ HT.sIx xs.length xs.length hi = xs.length)) (h : ∀ p, H p = none → Q (.ref p) (upd H p (.tup (cutV xs lo hi)))) : rSlU K (.ref a) lo hi H Q := .inr ⟨xs, SqT.of e, nw, h⟩
end
end L2
set_option Elab.async false
set_option linter.all false
set_option maxRecDepth 100000
set_option maxHeartbeats 4000000
namespace L2
open PySem PySem.Spec PyProof.Rows
section
variable {X : Cx}
def hasS (z y : Str) : Bool := !(Builtin.Str.occurrences z y 0 z.length 1).isEmpty
def rInU (K : PySem.W.Frag) (neg : Bool) : R2 := fun x y H Q => match x, y with
  | .str i, .str j => Q (.bl (if neg then !hasS j i else hasS j i)) H
  | x, .ref p => ∃ xs, (SqL K H p xs ∨ SqT K H p xs) ∧ flatV x = true ∧ xs.all flatV = true ∧ Q (.bl (if neg then !inV x xs else inV x xs)) H
  | _, _ => False
theorem rInU_str (K : PySem.W.Frag) (neg : Bool) (H : Hp) (Q : VK) (i j : Str) : rInU K neg (.str i) (.str j) H Q = Q (.bl (if neg then !hasS j i else hasS j i)) H := rfl
theorem op_inU {K : PySem.W.Frag} (hK : X.K = K) : OpR X (compareOp .In) (rInU K false) := by
  subst hK
  intro pins s σ H x y v u Q I rx ry h
  unfold rInU at h
  split at h
  · rename_i i j
    exact op_in_str pins s σ H _ _ v u Q I rx ry ⟨i, j, rfl, rfl, h⟩
  · rename_i p
    obtain ⟨xs, h⟩ := h
    exact op_in_seq pins s σ H _ _ v u Q I rx ry ⟨p, xs, rfl, h⟩
  · exact h.elim
theorem rInU.tupS {K : PySem.W.Frag} {neg : Bool} {H : Hp} {Q : VK} {x : V} {p : Addr} {xs : List V} (e : SqT K H p xs) (fx : flatV x = true) (fs : xs.all flatV = true) (q : Q (.bl (if neg then !inV x xs else inV x xs)) H) : rInU K neg x (.ref p) H Q := by
  cases x <;> exact ⟨xs, .inr e, fx, fs, q⟩
end
end L2
set_option Elab.async false
set_option linter.all false
set_option maxRecDepth 100000
set_option maxHeartbeats 4000000
namespace L2
open PySem PySem.Spec PyProof.Rows
theorem upd_D {H : Hp} {D : Addr} {a b : HO} : upd (upd H D a) D b = upd H D b := upd_upd
section
variable {D : Addr} {te : TE} {E : Ends} {r : L2.St} {H : Hp}
theorem comp_tup {K : PySem.W.Frag} {a : Addr} {xs : List V} (f : V → V) (ha : H a = some (.tup xs)) (hD : H D = none) (hz : xs.length ≤ sizeLine) (he : ∀ x ∈ xs, ∀ l Q, Q (f x) (upd H D (.lst l)) → te (some x :: r) (upd H D (.lst l)) Q)
    (hn : ∀ v, E.nx (v :: r) (upd H D (.lst (xs.map f)))) : LoopR (Itt K a) (gName 0) (tEmit D te) E (none :: r) (upd H D (.lst [])) := by
  have ne : a ≠ D := ne_of_none ha hD
  refine loop_tup (xs := xs) (fun i σ H' => ∃ v : Option V, σ = v :: r ∧ H' = upd H D (.lst ((xs.take i).map f))) ⟨none, rfl, rfl⟩ ?_ ?_ ?_
  · rintro i σ H' _ ⟨v, _, rfl⟩
    rw [upd_ne ne]; exact ha
  · rintro i x σ H' hx ⟨v, rfl, rfl⟩
    have hl : i < xs.length := (List.getElem?_eq_some_iff.mp hx).1
    refine he x (List.mem_of_getElem? hx) _ _ ⟨_, by rw [upd_same]; rfl, by simp; omega, some x, rfl, ?_⟩
    rw [upd_D, List.take_succ, hx]
    simp
  · rintro σ H' ⟨v, rfl, rfl⟩
    rw [List.take_of_length_le (Nat.le_refl _)]
    exact hn v
end
end L2
set_option Elab.async false
set_option linter.all false
set_option maxRecDepth 100000
set_option maxHeartbeats 4000000
set_option autoImplicit true
set_option relaxedAutoImplicit true
namespace L2
open PySem PySem.Spec PyProof.Rows
structure QE (X : Cx) (e : Expr) (t : TE) : Prop where
  h : PE X e t
structure QT (X : Cx) (e : Expr) (t : TT) : Prop where
  h : PT X e t
structure QW (X : Cx) (e : Expr) (t : TT) : Prop where
  h : PW X e t
structure QA (X : Cx) (es : List Expr) (t : TA) : Prop where
  h : PA X es t
structure QS (X : Cx) (st : Stmt) (t : TS) : Prop where
  h : PS X st t
structure QSs (X : Cx) (st : List Stmt) (t : TS) : Prop where
  h : PSs X st t
structure QG (X : Cx) (e : Expr) (t : TG) : Prop where
  h : PG X e t
structure QGs (X : Cx) (es : List Expr) (t : TGs) : Prop where
  h : PGs X es t
structure QI (X : Cx) (tg iter : Expr) (wi : TI) : Prop where
  h : PI X tg iter wi
structure QO (X : Cx) (e : Option Expr) (t : TO) : Prop where
  h : PO X e t
structure QC (X : Cx) (op : CmpOp) (a b : Expr) (t : TE) : Prop where
  h : PC X op a b t
theorem qpss_nil : QSs X [] tNext := ⟨pss_nil⟩
theorem qpss_one (h1 : QS X stm t) : QSs X [stm] t := ⟨pss_one h1.h⟩
theorem qpss_cons (h1 : QS X stm t) (h2 : QSs X rst u) : QSs X (stm :: rst) (tSeq t u) := ⟨pss_cons h1.h h2.h⟩
theorem qpv (i : Nat) {x : Str} {pos : Pos} (hN : X.N[i]? = some x := by rfl) (hv : Vis X.env.scope x := by first | exact Or.inl rfl | exact Or.inr (Or.inl rfl) | exact Or.inr (Or.inr rfl))
    (hd : (x == ("__debug__" : Str)) = false := by decide) (hcd : (x == ("__classdict__" : Str)) = false := by decide) : QE X (.Name x pos) (tVar i) := ⟨pv i hN hv hd hcd⟩
theorem qpe_int : QE X (.Constant (.int i) j pos) (tC (.int i)) := ⟨pe_int⟩
theorem qpe_bl : QE X (.Constant (.bool b) j pos) (tC (.bl b)) := ⟨pe_bl⟩
theorem qpe_str : QE X (.Constant (.str x) j pos) (tC (.str x)) := ⟨pe_str⟩
theorem qpe_glob {x : Str} {v : V} {u : Value} {pos : Pos} (hg : Gl X x) (hm : X.mg x = some u) (r : RelV v u) (hd : (x == ("__debug__" : Str)) = false := by decide) : QE X (.Name x pos) (tC v) := ⟨pe_glob hg hm r hd⟩
theorem qpe_bltn {x : Str} {v : V} {u : Value} {pos : Pos} (hg : Gl X x) (hm : X.mg x = none) (hv : bootBuiltins x = some u) (r : RelV v u) (hn : x ≠ "__name__" := by decide) (hd : (x == ("__debug__" : Str)) = false := by decide) :
    QE X (.Name x pos) (tC v) := ⟨pe_bltn hg hm hv r hn hd⟩
theorem qpe_op (ho : OpR X (binaryOp op) r) (ha : QE X a ta) (hb : QE X b tb) : QE X (.BinOp a op b pos) (tOp r ta tb) := ⟨pe_op ho ha.h hb.h⟩
theorem qpe_not (ha : QE X a ta) : QE X (.UnaryOp .Not a pos) (tNotV ta) := ⟨pe_not ha.h⟩
theorem qpe_un (ho : UnR X (unaryOp op) r) (ha : QE X a ta) : QE X (.UnaryOp op a pos) (tUn r ta) := ⟨pe_un ho ha.h⟩
theorem qpe_cmpR (ho : OpR X (compareOp op) r) (ha : QE X a ta) (hb : QE X b tb) (hm : behindInMarks op b = false) : QE X (.Compare a [op] [b] pos) (tOp r ta tb) := ⟨pe_cmpR ho ha.h hb.h hm⟩
theorem qpt_cmpR (ho : OpR X (compareOp op) r) (ha : QE X a ta) (hb : QE X b tb) (hm : behindInMarks op b = false) : QT X (.Compare a [op] [b] pos) (tTest (tOp r ta tb)) := ⟨pt_cmpR ho ha.h hb.h hm⟩
theorem qpe_chain (ho : OpR X (compareOp op) r) (ho' : OpR X (compareOp op') r') (ha : QE X a ta) (hb : QE X b tb) (hc : QE X c tc) (hm : lastMarks [op, op'] [b, c] = false := by with_unfolding_all rfl) :
    QE X (.Compare a [op, op'] [b, c] pos) (tChain r r' ta tb tc) := ⟨pe_chain ho ho' ha.h hb.h hc.h hm⟩
theorem qpt_cmp (h : QC X op a b t) (h1 : behindInMarks op b = false := by first | exact nobehind _ (by decide) (by decide) | rfl) : QT X (.Compare a [op] [b] pos) (tB t) := ⟨pt_cmp h.h h1⟩
theorem qpc_dnotin (hu : X.A.units + 1 < cLine) (hi : QE X i ty) (ho : QE X o td) : QC X .NotIn i o (tDNotIn ty td) := ⟨pc_dnotin hu hi.h ho.h⟩
theorem qpt_not (ha : QT X a tA) : QT X (.UnaryOp .Not a pos) (tNot tA) := ⟨pt_not ha.h⟩
theorem QW.pt (h : QW X e t) : QT X e t := ⟨PW.pt h.h⟩
theorem qpw_and (ha : QT X a tA) (hb : QW X (.BoolOp .And (b :: rst) pos) tB') : QW X (.BoolOp .And (a :: b :: rst) pos) (tAnd tA tB') := ⟨pw_and ha.h hb.h⟩
theorem qpw_or (ha : QT X a tA) (hb : QW X (.BoolOp .Or (b :: rst) pos) tB') : QW X (.BoolOp .Or (a :: b :: rst) pos) (tOr tA tB') := ⟨pw_or ha.h hb.h⟩
theorem qpw_and1 (ha : QT X a tA) : QW X (.BoolOp .And [a] pos) tA := ⟨pw_and1 ha.h⟩
theorem qpw_or1 (ha : QT X a tA) : QW X (.BoolOp .Or [a] pos) tA := ⟨pw_or1 ha.h⟩
theorem qpt_val {e : Expr} (h : QE X e t) (he : ∀ whole, isTrue e X.env whole = (do let v ← whole; standAt e.pos; holding [v] (truthy v)) := by intro _; rfl) : QT X e (tB t) := ⟨pt_val h.h he⟩
theorem qpe_one (h : QE X a t) : QE X (.BoolOp op [a] pos) t := ⟨pe_one h.h⟩
theorem qpe_and (ha : QE X a ta) (hb : QE X (.BoolOp .And (b :: rst) pos) tb) : QE X (.BoolOp .And (a :: b :: rst) pos) (tAndV ta tb) := ⟨pe_and ha.h hb.h⟩
theorem qpe_or (ha : QE X a ta) (hb : QE X (.BoolOp .Or (b :: rst) pos) tb) : QE X (.BoolOp .Or (a :: b :: rst) pos) (tOrV ta tb) := ⟨pe_or ha.h hb.h⟩
theorem qpe_ifExp (hc : QT X c tA) (ha : QE X a ta) (hb : QE X b tb) : QE X (.IfExp c a b pos) (tIf tA ta tb) := ⟨pe_ifExp hc.h ha.h hb.h⟩
theorem qpe_lst (h : QA X es t) : QE X (.List es pos) (tLst t) := ⟨pe_lst h.h⟩
theorem qpe_tup (h : QA X es t) : QE X (.Tuple es x1 pos) (tTup t) := ⟨pe_tup h.h⟩
theorem qpe_slice (hr : SlR X r) (he : QE X e te) (hl : QO X lw tl) (hu : QO X hi th) : QE X (.Subscript e (.Slice lw hi none p2) pos) (tSl r te tl th) := ⟨pe_slice hr he.h hl.h hu.h⟩
theorem qpo_none : QO X none tNoPart := ⟨po_none⟩
theorem qpo_some (h : QE X e te) : QO X (some e) (tPart te) := ⟨po_some h.h⟩
theorem qpe_ix (hr : IxR X r) (ha : QE X a ta) (hb : QE X b tb) (hs : PlainIx b) : QE X (.Subscript a b pos) (tOp r ta tb) := ⟨pe_ix hr ha.h hb.h hs⟩
theorem qpe_comp (hc : X.calm = true) (c : CompOk X scope Nc js) (hi : QI X tg iter wi) (hg : ∀ C s3 H3 fp, QG (X.comp scope C Nc s3 H3 fp) tg g) (he : ∀ C s3 H3 fp, QE (X.comp scope C Nc s3 H3 fp) elt te)
    (hs : ∀ x, foldedSetIterable iter X.env x = pure x := by intro _; rfl) : QE X (.ListComp elt [⟨tg, iter, [], 0⟩] scope pos) (tComp wi g js te) := ⟨pe_comp hc c hi.h (fun C s H f => (hg C s H f).h) (fun C s H f => (he C s H f).h) hs⟩
theorem qpe_call (F : FnOk X.prog X.w X.K X.mg X.base CX k f fd ps sp) (hr : Room k X.A) (hg : Gl X x) (hm : X.mg x = some (.ref f)) (hk : PySem.W.keepIn X.K (.ref f) = true) (hb : Binds X.K fd ps ds) (hd : Vals dvs ds) (hx : Passes CX X E)
    (ha : QA X (e :: es) t) (hdb : (x == ("__debug__" : Str)) = false := by decide) (he : starEach (e :: es) X.env = (false, eval e X.env) :: starEach es X.env := by rfl) (hpl : (backTo pos (starEach es X.env)).any (·.1) = false := by rfl) :
    QE X (.Call (.Name x p) (e :: es) [] pos) (tCall sp dvs E t) := ⟨pe_call F hr hg hm hk hb hd hx ha.h hdb he hpl⟩
theorem qpe_callTy (hc : CallR X (.type T) r) (hg : Gl X x) (hm : X.mg x = none) (hv : bootBuiltins x = some (.type T)) (ha : QA X (e :: es) t) (hn : x ≠ "__name__" := by decide) (hdb : (x == ("__debug__" : Str)) = false := by decide)
    (he : starEach (e :: es) X.env = (false, eval e X.env) :: starEach es X.env := by rfl) (hpl : (backTo pos (starEach es X.env)).any (·.1) = false := by rfl) : QE X (.Call (.Name x p) (e :: es) [] pos) (tCB r t) := ⟨pe_callTy hc hg hm hv ha.h hn hdb he hpl⟩
theorem qpe_callB (hc : CallR X (.builtin idn) r) (hg : Gl X x) (hm : X.mg x = none) (hv : bootBuiltins x = some (.builtin idn)) (ha : QA X (e :: es) t) (hn : x ≠ "__name__" := by decide) (hdb : (x == ("__debug__" : Str)) = false := by decide)
    (he : starEach (e :: es) X.env = (false, eval e X.env) :: starEach es X.env := by rfl) (hpl : (backTo pos (starEach es X.env)).any (·.1) = false := by rfl) : QE X (.Call (.Name x p) (e :: es) [] pos) (tCB r t) := ⟨pe_callB hc hg hm hv ha.h hn hdb he hpl⟩
theorem qpe_bmL (slot : Slot "list" name idn) (hty : typeOf (.builtin idn) = pure (.type "method_descriptor")) (hm : MtM X idn r) (ho : QE X o to) (ha : QA X (e :: es) t) (mono : ∀ σ H Q Q', (∀ v H', Q v H' → Q' v H') → to σ H Q → to σ H Q')
    (hbase : attributeBase o name X.env (eval o X.env) = eval o X.env := by rfl)
    (hfew : ((backTo cpos (starEach (e :: es) X.env)).all (fun x => !x.1) && (backToKw cpos (keywordEach [] X.env)).all (fun x => x.1.isSome)
      && decide ((e :: es).length + ([] : List Keyword).length + (if ([] : List Keyword).isEmpty then 0 else 1) < 30)) = true := by rfl)
    (hline : (apos.endLine == cpos.line) = true := by rfl) (hs : starEach (e :: es) X.env = (false, eval e X.env) :: starEach es X.env := by rfl) (hplain : (backTo cpos (starEach es X.env)).any (·.1) = false := by rfl) :
    QE X (.Call (.Attribute o name apos) (e :: es) [] cpos) (tBML r to t) := ⟨pe_bmL slot hty hm ho.h ha.h mono hbase hfew hline hs hplain⟩
theorem qpe_bmL0 (slot : Slot "list" name idn) (hty : typeOf (.builtin idn) = pure (.type "method_descriptor")) (hm : MtM X idn r) (ho : QE X o to) (mono : ∀ σ H Q Q', (∀ v H', Q v H' → Q' v H') → to σ H Q → to σ H Q')
    (hbase : attributeBase o name X.env (eval o X.env) = eval o X.env := by rfl) (hline : (apos.endLine == cpos.line) = true := by rfl) : QE X (.Call (.Attribute o name apos) [] [] cpos) (tBML0 r to) := ⟨pe_bmL0 slot hty hm ho.h mono hbase hline⟩
theorem qpa_nil : QA X [] tNil := ⟨pa_nil⟩
theorem qpa_cons (ha : QE X e te) (hr : QA X es t) (hs : starEach (e :: es) X.env = (false, eval e X.env) :: starEach es X.env := by rfl) : QA X (e :: es) (tCons te t) := ⟨pa_cons ha.h hr.h hs⟩
theorem qpg_name {i : Nat} {x : Str} (hN : X.N.Nodup) (hi : X.N[i]? = some x) (hx : Loc X.env.scope x) (hf : X.fn x = true ∨ X.env.scope.names.lookup x = some .local := by first | exact .inl rfl | exact .inr rfl | assumption) : QG X (.Name x pos) (gName i) := ⟨pg_name hN hi hx hf⟩
theorem qpg_tup {es : List Expr} {t : TGs} {n : Nat} {K : PySem.W.Frag} (hc : X.calm = true) (h : QGs X es t) (hK : X.K = K) (hn : (assignEach es X.env).length = n := by rfl) (hst : (assignEach es X.env).findIdx? (·.1) = none := by rfl) :
    QG X (.Tuple es k pos) (gTup K n t) := by subst hK; exact ⟨pg_tup hc h.h hn hst⟩
theorem qpgs_nil : QGs X [] gNil := ⟨pgs_nil⟩
theorem qpgs_cons {e : Expr} {es : List Expr} (h1 : QG X e t) (h2 : QGs X es u) (hs : (assignEach (e :: es) X.env).map (·.2) = assign e X.env :: (assignEach es X.env).map (·.2) := by rfl) : QGs X (e :: es) (gCons t u) := ⟨pgs_cons h1.h h2.h hs⟩
theorem qpg_sub {o i : Expr} (ho : QE X o to) (hi : QE X i ti) (hs : PSet X t)
    (ha : ∀ v, assign (.Subscript o i pos) X.env v = (do
      let ov ← holding [v] (eval o X.env)
      let iv ← holding [v, ov] (eval i X.env)
      standAt pos
      holding [v, ov, iv] (setItem ov iv v)
      release [v, ov, iv] []) := by intro _; rfl) : QG X (.Subscript o i pos) (gSub to ti t) := ⟨pg_sub ho.h hi.h hs ha⟩
theorem qps_set {i : Nat} {x : Str} {e : Expr} {te : TE} {pos' : Pos} (hN : X.N.Nodup) (hi : X.N[i]? = some x) (hx : Loc X.env.scope x) (he : QE X e te) (hs : swapsWith e (some (.Name x pos')) pos.line X.env = pure false := by rfl)
    (hf : X.fn x = true ∨ X.env.scope.names.lookup x = some .local := by first | exact .inl rfl | exact .inr rfl | assumption) : QS X (.Assign [.Name x pos'] e pos) (tAsg te (gName i)) := ⟨ps_set hN hi hx he.h hs hf⟩
theorem qps_asg {tg e : Expr} (he : QE X e te) (hg : QG X tg g) (hs : swapsWithSole [tg] e pos.line X.env = pure false := by rfl) (hw : swappedStores [tg] e X.env = pure none := by rfl)
    (h1 : (assignEach [tg] X.env).map (·.2) = [assign tg X.env] := by rfl) : QS X (.Assign [tg] e pos) (tAsg te g) := ⟨ps_asg he.h hg.h hs hw h1⟩
theorem qps_dput (hu : X.A.units + 1 < cLine) (ho : QE X o td) (hi : QE X i ty) (hv : QE X value tv) (hs : swapsWith value (some (.Subscript o i pos')) pos.line X.env = pure false) :
    QS X (.Assign [.Subscript o i pos'] value pos) (sDPut td ty tv) := ⟨ps_dput hu ho.h hi.h hv.h hs⟩
theorem qps_ret (he : QE X e te) : QS X (.Return (some e) pos) (tRet te) := ⟨ps_ret he.h⟩
theorem qps_expr (he : QE X e te) (hs : swapsWith e none pos.line X.env = pure false := by rfl) : QS X (.Expr e pos) (tDrop te) := ⟨ps_expr he.h hs⟩
theorem qps_if (hc : QT X c tc) (ha : QSs X a t) (hb : QSs X b u) : QS X (.If c a b pos) (tIfS tc t u) := ⟨ps_if hc.h ha.h hb.h⟩
theorem qps_for {iter : Expr} (hp : PassesOwn (model X.prog X.w) X.A X.env X.xe) (hc : X.calm = true) (hi : QI X tg iter wi) (hg : QG X tg g) (hb : QSs X body tb) (hs : ∀ x, foldedSetIterable iter X.env x = pure x := by intro _; rfl) :
    QS X (.For tg iter body [] pos) (tFor wi g tb) := ⟨ps_for hp hc hi.h hg.h hb.h hs⟩
theorem qps_while (hp : PassesOwn (model X.prog X.w) X.A X.env X.xe) (hc : QT X c tc) (hb : QSs X body tb) : QS X (.While c body [] pos) (tWhile tc tb) := ⟨ps_while hp hc.h hb.h⟩
theorem qps_continue : QS X (.Continue pos) tCont := ⟨ps_continue⟩
theorem qpi_range1 {a : Expr} {ta : TA} {p pos : Pos} (hg : Gl X "range") (hm : X.mg "range" = none) (ha : QA X [a] ta) (hs : starEach [a] X.env = [(false, eval a X.env)] := by rfl) : QI X tg (.Call (.Name "range" p) [a] [] pos) (iRng1 ta) := ⟨pi_range1 hg hm ha.h hs⟩
theorem qpi_enumerate {a : Expr} {ta : TA} {p pos tpos : Pos} (hg : Gl X "enumerate") (hm : X.mg "enumerate" = none) (ha : QA X [a] ta) (hs : starEach [a] X.env = [(false, eval a X.env)] := by rfl) :
    QI X (.Tuple elts kk tpos) (.Call (.Name "enumerate" p) [a] [] pos) (iEnumS ta) := ⟨pi_enumerate hg hm ha.h hs⟩
theorem qpi_any {K : PySem.W.Frag} (hl : QE X l tl) (hK : X.K = K) : QI X tg l (iAny K tl) := by subst hK; exact ⟨pi_any hl.h⟩
end L2
set_option Elab.async false
set_option linter.all false
set_option maxRecDepth 100000
set_option maxHeartbeats 4000000
namespace L2
open PySem PySem.Spec PyProof.Rows
def tEmitIf (D : Addr) (tt : TT) (te : TE) : TS := fun E σ H => tt σ H fun b H1 => if b = true then tEmit D te E σ H1 else E.nx σ H1
def tCompIf (wi : TI) (g : TG) (js : List (Option Nat)) (tt : TT) (te : TE) : TE := fun σ H Q => wi σ H fun J H1 => ∀ D, H1 D = none →
  LoopR J g (tEmitIf D tt te) { nx := fun _ H' => Q (.ref D) H', rt := fun _ _ => False } (compSt js σ) (upd H1 D (.lst []))
theorem compTurn_if1 (elt target iter cd : Expr) (scope : Scope) (pos : Pos) (it acc : Value) (env : Env) :
    compTurn (.ListComp elt [⟨target, iter, [cd], 0⟩] scope pos) 0 it acc env = (standAt iter.pos >>= fun _ => pyNext it >>= fun r => match r with
      | none => pure (.done .next)
      | some v => letOwnedTupleGo target it v >>= fun _ => assign target env v >>= fun _ =>
        (forIn [cd] true fun c ok => if ok = true then (isTrue c env (eval c env) >>= fun b => pure (ForInStep.yield b)) else pure (ForInStep.yield ok)) >>= fun ok =>
        if ok = true then ((eval elt env >>= fun x => call (.builtin "list.append") [acc, x] >>= fun _ => pure ()) >>= fun _ => again (.compLoop (.ListComp elt [⟨target, iter, [cd], 0⟩] scope pos) 0 it acc env))
        else again (.compLoop (.ListComp elt [⟨target, iter, [cd], 0⟩] scope pos) 0 it acc env)) := by rfl
section
variable {X : Cx} {scope : Scope} {Nc : List Str} {js : List (Option Nat)} {elt tg iter cd : Expr} {pos : Pos} {wi : TI} {g : TG} {te : TE} {tt : TT}
theorem comp_coreIf (hc : X.calm = true) (c : CompOk X scope Nc js) (hi : PI X tg iter wi) (hg : ∀ C s3 H3 fp, PG (X.comp scope C Nc s3 H3 fp) tg g) (ht : ∀ C s3 H3 fp, PT (X.comp scope C Nc s3 H3 fp) cd tt) (he : ∀ C s3 H3 fp, PE (X.comp scope C Nc s3 H3 fp) elt te)
    {pins : List (Addr × Obj)} {s : Shared} {σ : L2.St} {H : Hp} (I : Inv X pins σ H s) {RR : Value → Addr → Result → Shared → Prop} {NX : Addr → Hp → Prop}
    (h : wi σ H fun J H1 => ∀ D, H1 D = none → LoopR J g (tEmitIf D tt te) { nx := fun _ H' => NX D H', rt := fun _ _ => False } (compSt js σ) (upd H1 D (.lst [])))
    (fin : ∀ D H3 s3 fp σ5 H5 s6, Inv X pins σ H3 s3 → (∀ b ∈ fp, FpOk X pins H3 b) → Inv (X.comp scope s3.heap.objs.size Nc s3 H3 fp) [] σ5 H5 s6 → NX D H5 → RR (.ref D) s3.heap.objs.size (.ok .next) s6) :
    wpAny (model X.prog X.w) X.A (eval iter X.env) (fun x s₁ => wpAny (model X.prog X.w) X.A (pyIter x) (fun it s₂ => wpAny (model X.prog X.w) X.A (newList []) (fun acc s₃ =>
      wpAny (model X.prog X.w) X.A (newFunctionEnv scope X.env.globals (clOf X.env scope.names []) [] X.env.qual none .none (some X.env)) (fun cenv s₄ =>
        codeAny (model X.prog X.w) X.A (.compStart (.ListComp elt [⟨tg, iter, [cd], 0⟩] scope pos) 0 it acc { cenv with scope := relabel scope X.env }) (RR acc cenv.locals) s₄) X.xe s₃) X.xe s₂) X.xe s₁) X.xe s := by
  refine thn (hi pins s σ H _ I h) fun v s1 h1 => thn h1 fun itv s2 h2 => ?_
  obtain ⟨it, fp, tn, J, H2, rfl, I2, T, st2, f2, h2⟩ := h2
  -- the list
  refine wpAny_newObj_type ?_ (by show 0 ≤ sizeLine; decide)
  have hD : H2 s2.heap.objs.size = none := I2.hok.fresh (Nat.le_refl _)
  have I3 : Inv X pins σ (upd H2 s2.heap.objs.size (.lst [])) { s2 with heap := s2.heap.push { cls := .type "list", data := .seq ([] : List Value).toArray } } :=
    I2.laid (t' := s2.toks) (fun b u e => Heap.get?_push_of_some _ e) (Nat.le_refl _) ⟨by show 0 ≤ sizeLine; decide, [], 0, .nil, Heap.get?_push_size _ rfl⟩
  have f3 : ∀ b ∈ fp, FpOk X pins (upd H2 s2.heap.objs.size (.lst [])) b := fun b hb => by
    obtain ⟨q0, q⟩ := f2 b hb
    obtain ⟨o, e, _⟩ := T.obj _ _ st2 b hb
    exact ⟨by rw [upd_ne (Nat.ne_of_lt (Heap.lt_size e))]; exact q0, q⟩
  have o3 : ∀ b ∈ fp, ∃ o, (s2.heap.push { cls := .type "list", data := .seq ([] : List Value).toArray }).get? b = some o := fun b hb => by
    obtain ⟨o, e, _⟩ := T.obj _ _ st2 b hb
    exact ⟨o, Heap.get?_push_of_some _ e⟩
  have st3 : tn 0 (s2.heap.push { cls := .type "list", data := .seq ([] : List Value).toArray }) := T.keep _ _ _ st2 fun b _ o e => Heap.get?_push_of_some _ e
  generalize hh3 : s2.heap.push { cls := .type "list", data := .seq ([] : List Value).toArray } = h3 at I3 o3 st3 ⊢
  refine wpAny_newFunctionEnv c.nocell (by intro y hy; simp at hy) (fun h4 hn4 hs4 => ?_) c.kind
  have k4 : ∀ b o, h3.get? b = some o → h4.get? b = some o := fun b o e => (hs4.2 b (Nat.ne_of_lt (Heap.lt_size e))).trans (Heap.get?_push_of_some _ e)
  have I4 := comp_inv (tk := s2.toks + ([] : List (Str × Value)).length) c I3 f3 o3 hn4 k4
  have st4 : tn 0 h4 := T.keep _ _ _ st3 fun b _ o e => k4 b o e
  obtain ⟨W, ⟨m0, w0⟩, turn⟩ := h2 _ hD
  let s3 : Shared := { s2 with heap := h3 }
  let Y : Cx := X.comp scope h3.objs.size Nc s3 (upd H2 s2.heap.objs.size (.lst [])) fp
  have stat : ∀ {H' : Hp}, (∀ b ∈ fp, H' b = none) → ∀ b ∈ fp, FpOk Y [] H' b := fun hn b hb => ⟨hn b hb, (I4.ok.exf b hb).1, I4.ok.exfs b hb, .inl hb, (I4.ok.exf b hb).2, (fun p hp => nomatch hp)⟩
  have loop : codeAny (model X.prog X.w) X.A (.compLoop (.ListComp elt [⟨tg, iter, [cd], 0⟩] scope pos) 0 (.ref it) (.ref s2.heap.objs.size) Y.env)
      (RR (.ref s2.heap.objs.size) h3.objs.size) { s2 with heap := h4, toks := s2.toks + ([] : List (Str × Value)).length } := by
    refine codeAny_loop rfl (fun n s' => ∃ i σ' H', Inv Y [] σ' H' s' ∧ tn i s'.heap ∧ (∀ b ∈ fp, H' b = none) ∧ W i n σ' H') (fun n s5 hI => ?_) m0 ⟨0, _, _, I4, st4, fun b hb => (f3 b hb).1, w0⟩
    obtain ⟨i, σ5, H5, I5, st5, fr5, w5⟩ := hI
    show wpAny _ X.A ((compTurn (.ListComp elt [⟨tg, iter, [cd], 0⟩] scope pos) 0 (.ref it) (.ref s2.heap.objs.size) Y.env).onRaise (fun x => do noteFrame x Y.env; theTreesLotGoes x)) _ _ s5
    refine wpAny_noted (wpAny_mono (E := fun _ _ => False) ?_ (fun _ _ q => q) fun _ _ z => z.elim)
    rw [compTurn_if1]
    refine wpAny_bind (wpAny_standAt (wpAny_bind ?_))
    rcases turn i n σ5 H5 w5 with ⟨stop, qn⟩ | ⟨go, N, hN, step⟩
    · refine thn (T.done Y rfl rfl rfl hc i [] s5 σ5 H5 _ I5 (stat fr5) st5 stop) fun r s6 ⟨hr, I6⟩ => ?_
      subst hr
      refine wpAny_pure ?_
      exact fin _ _ s3 fp σ5 H5 s6 I3 f3 I6 qn
    · refine thn (T.item Y rfl rfl rfl hc i [] s5 σ5 H5 _ I5 (stat fr5) st5 go) fun r s6 ⟨u, hr, h6⟩ => ?_
      subst hr
      refine wpAny_bind (thn h6 fun _ s7 ⟨x, H7, I7, r7, y7, st7, fr7⟩ => ?_)
      have I7' := I7.pinned (stat fr7) (T.obj _ _ st7)
      refine wpAny_bind (thn (hg _ _ _ _ _ s7 σ5 H7 x u _ I7' r7 (step x H7 y7)) fun _ s8 ⟨σ8, H8, I8, q8⟩ => ?_)
      have fin2 : ∀ {H' : Hp} {s' : Shared}, Inv Y ([] ++ pinsAt fp s7.heap) σ8 H' s' → N σ8 H' → ∃ m, m < n ∧ ∃ i σ1 H1, Inv Y [] σ1 H1 s' ∧ tn i s'.heap ∧ (∀ b ∈ fp, H1 b = none) ∧ W i m σ1 H1 := fun {H'} {s'} I10 n10 => by
        obtain ⟨m', hm, w10⟩ := hN σ8 H' n10
        refine ⟨m', hm, i + 1, σ8, H', I10.unpinned, T.keep _ _ _ st7 fun b hb o e => (I10.pin (b, o) (List.mem_append_right _ (List.mem_append_right _ (mem_pinsAt hb e)))).1, fun b hb => ?_, w10⟩
        obtain ⟨o, e, d⟩ := T.obj _ _ st7 b hb
        exact (I10.pin (b, o) (List.mem_append_right _ (List.mem_append_right _ (mem_pinsAt hb e)))).2.1
      rw [List.forIn_cons, if_pos rfl]
      refine wpAny_bind (wpAny_bind (wpAny_bind (thn (ht _ _ _ _ _ s8 σ8 H8 _ I8 q8) fun ok s9 ⟨H9, I9, q9⟩ => wpAny_pure ?_)))
      simp only [List.forIn_nil]
      refine wpAny_pure ?_
      cases ok with
      | false =>
        simp only [Bool.false_eq_true, if_false] at q9 ⊢
        exact wpAny_pure ⟨rfl, fin2 I9 q9⟩
      | true =>
        simp only [if_true] at q9 ⊢
        refine wpAny_bind (wpAny_bind (thn (he _ _ _ _ _ s9 σ8 H9 _ I9 q9) fun v s10 ⟨y, H10, I10, r10, ys, e10, z10, n10⟩ => ?_))
        refine wpAny_bind (thn (mt_append (X := Y) _ s10 σ8 H10 (.ref s2.heap.objs.size) [y] (.ref s2.heap.objs.size) [v] (fun w H' => N σ8 H') I10 rfl (.cons r10 .nil) ⟨_, ys, y, rfl, rfl, of_lstOf e10, z10, n10⟩) fun w s11 ⟨_, H11, I11, _, n11⟩ => ?_)
        exact wpAny_pure (wpAny_pure ⟨rfl, fin2 I11 n11⟩)
  exact codeAny_compStart_list loop (T.self _ 0 _ _ _ st4 loop)
theorem pe_compIf (hc : X.calm = true) (c : CompOk X scope Nc js) (hi : PI X tg iter wi) (hg : ∀ C s3 H3 fp, PG (X.comp scope C Nc s3 H3 fp) tg g) (ht : ∀ C s3 H3 fp, PT (X.comp scope C Nc s3 H3 fp) cd tt) (he : ∀ C s3 H3 fp, PE (X.comp scope C Nc s3 H3 fp) elt te)
    (hs : ∀ x, foldedSetIterable iter X.env x = pure x := by intro _; rfl) : PE X (.ListComp elt [⟨tg, iter, [cd], 0⟩] scope pos) (tCompIf wi g js tt te) := by
  intro pins s σ H Q I h
  rw [eval_ListComp]
  refine wpAny_comprehension_free (use := none) (g := ⟨tg, iter, [cd], 0⟩) (gs := []) rfl hs (closure_of (c.has I)) c.kind c.loc
    (comp_coreIf (RR := fun acc C => compPost (model X.prog X.w) X.A X.xe none (EP X pins σ Q) acc C) (NX := fun D H' => Q (.ref D) H') hc c hi hg ht he I h fun D H3 s3 fp σ5 H5 s6 I3 f3 I6 qn => ?_)
  obtain ⟨m, hn, _⟩ := I6.loc
  exact ⟨m, hn, fun h' hs' => ⟨.ref D, H5, comp_after I3 f3 I6 hs', rfl, qn⟩⟩
theorem ps_setcIf {i : Nat} {y : Str} {py spos : Pos} (hN : X.N.Nodup) (hiN : X.N[i]? = some y) (hy : Loc X.env.scope y) (hc : X.calm = true) (c : CompOk X scope Nc js) (hi : PI X tg iter wi) (hg : ∀ C s3 H3 fp, PG (X.comp scope C Nc s3 H3 fp) tg g)
    (ht : ∀ C s3 H3 fp, PT (X.comp scope C Nc s3 H3 fp) cd tt) (he : ∀ C s3 H3 fp, PE (X.comp scope C Nc s3 H3 fp) elt te) (hsw : swapsWith (.ListComp elt [⟨tg, iter, [cd], 0⟩] scope pos) (some (.Name y py)) spos.line X.env = pure true := by rfl)
    (hs : ∀ x, foldedSetIterable iter X.env x = pure x := by intro _; rfl) (hf : X.fn y = true ∨ X.env.scope.names.lookup y = some .local := by first | exact .inl rfl | exact .inr rfl | assumption) :
    PS X (.Assign [.Name y py] (.ListComp elt [⟨tg, iter, [cd], 0⟩] scope pos) spos) (tAsg (tCompIf wi g js tt te) (gName i)) := by
  intro pins s σ H D I h
  rw [exec_Assign_Name_used _ _ _ _ hsw]
  refine wpAny_bind (wpAny_standAt (wpAny_bind ?_))
  show wpAny _ X.A (do let _ ← comprehension (.ListComp elt [⟨tg, iter, [cd], 0⟩] scope pos) scope X.env _ (newList []) false (eval iter X.env) (some (assign (.Name y py) X.env))) _ _ s
  refine wpAny_bind (wpAny_mono (wpAny_comprehension_free (use := some (assign (.Name y py) X.env)) (g := ⟨tg, iter, [cd], 0⟩) (gs := []) (Q := fun _ s' => SP X pins D .next s') rfl hs (closure_of (c.has I)) c.kind c.loc
    (comp_coreIf (RR := fun acc C => compPost (model X.prog X.w) X.A X.xe (some (assign (.Name y py) X.env)) (fun _ s' => SP X pins D .next s') acc C) (NX := fun Da H' => D.nx (σ.set i (some (.ref Da))) H') hc c hi hg ht he I h fun Da H3 s3 fp σ5 H5 s6 I3 f3 I6 qn => ?_))
    (fun _ s' hq => wpAny_pure (wpAny_pure hq)) fun _ _ e => e)
  obtain ⟨m, hn, _⟩ := id I6.loc
  have I7 : Inv X pins σ H5 s6 := comp_after I3 f3 I6 (.refl ..)
  have hC : H5 s3.heap.objs.size = none := I6.free
  have nL : s3.heap.objs.size ≠ X.env.locals := Nat.ne_of_gt I3.lt
  have nc : ∀ x a, X.env.cells.lookup x = some a → a ≠ s3.heap.objs.size := fun x a e => by
    obtain ⟨v, q⟩ := I3.cell x a e
    exact Nat.ne_of_lt q.lt
  have np : ∀ p ∈ X.pn ++ pins, p.1 ≠ s3.heap.objs.size := fun p hp => Nat.ne_of_lt (Heap.lt_size (I3.pin p hp).1)
  show wpAny _ _ (assign (.Name y py) X.env (.ref Da)) _ _ _
  refine wpAny_assign_Name (store_ok2 (v := .ref Da) I7 hN hiN hy rfl (fun s8 I8 hb => ?_) hf)
  obtain ⟨a, hs8, ha⟩ := hb
  have nCa : s3.heap.objs.size ≠ a := by
    rcases ha with z | z
    · rw [z]; exact nL
    · exact (nc y a z).symm
  refine ⟨m, hn.sameBut hs8 nCa, fun h9 hs9 => ?_⟩
  exact ⟨_, H5, I8.turned (t' := s8.toks) (fun b o hb e => (hs9.2 b hb).trans e) hC nL (.inr (Nat.le_trans I3.sz (Nat.le_refl _))) nc np, qn⟩
end
section
variable {X : Cx} {scope : Scope} {Nc : List Str} {js : List (Option Nat)} {elt tg iter cd : Expr} {pos : Pos} {wi : TI} {g : TG} {te : TE} {tt : TT}
theorem qpe_compIf (hc : X.calm = true) (c : CompOk X scope Nc js) (hi : QI X tg iter wi) (hg : ∀ C s3 H3 fp, QG (X.comp scope C Nc s3 H3 fp) tg g) (ht : ∀ C s3 H3 fp, QT (X.comp scope C Nc s3 H3 fp) cd tt) (he : ∀ C s3 H3 fp, QE (X.comp scope C Nc s3 H3 fp) elt te)
    (hs : ∀ x, foldedSetIterable iter X.env x = pure x := by intro _; rfl) : QE X (.ListComp elt [⟨tg, iter, [cd], 0⟩] scope pos) (tCompIf wi g js tt te) :=
  ⟨pe_compIf hc c hi.h (fun C s H f => (hg C s H f).h) (fun C s H f => (ht C s H f).h) (fun C s H f => (he C s H f).h) hs⟩
theorem qps_setcIf {i : Nat} {y : Str} {py spos : Pos} (hN : X.N.Nodup) (hiN : X.N[i]? = some y) (hy : Loc X.env.scope y) (hc : X.calm = true) (c : CompOk X scope Nc js) (hi : QI X tg iter wi) (hg : ∀ C s3 H3 fp, QG (X.comp scope C Nc s3 H3 fp) tg g)
    (ht : ∀ C s3 H3 fp, QT (X.comp scope C Nc s3 H3 fp) cd tt) (he : ∀ C s3 H3 fp, QE (X.comp scope C Nc s3 H3 fp) elt te) (hsw : swapsWith (.ListComp elt [⟨tg, iter, [cd], 0⟩] scope pos) (some (.Name y py)) spos.line X.env = pure true := by rfl)
    (hs : ∀ x, foldedSetIterable iter X.env x = pure x := by intro _; rfl) (hf : X.fn y = true ∨ X.env.scope.names.lookup y = some .local := by first | exact .inl rfl | exact .inr rfl | assumption) :
    QS X (.Assign [.Name y py] (.ListComp elt [⟨tg, iter, [cd], 0⟩] scope pos) spos) (tAsg (tCompIf wi g js tt te) (gName i)) :=
  ⟨ps_setcIf hN hiN hy hc c hi.h (fun C s H f => (hg C s H f).h) (fun C s H f => (ht C s H f).h) (fun C s H f => (he C s H f).h) hsw hs hf⟩
end
section
variable {D : Addr} {te : TE} {tt : TT} {E : Ends} {r : L2.St} {H : Hp}
theorem filt_step {α : Type} (p : α → Bool) (f : α → V) (xs : List α) (i : Nat) (x : α) (h : xs[i]? = some x) : ((xs.take (i + 1)).filter p).map f = ((xs.take i).filter p).map f ++ (if p x = true then [f x] else []) := by
  rw [List.take_succ, h]
  simp only [Option.toList_some, List.filter_append, List.map_append]
  congr 1
  by_cases q : p x = true
  · simp [q]
  · simp [q]
theorem compIf_list {K : PySem.W.Frag} {a : Addr} {xs : List V} (p : V → Bool) (f : V → V) (ha : H a = some (.lst xs)) (hD : H D = none) (hz : xs.length ≤ sizeLine)
    (ht : ∀ x ∈ xs, ∀ l Q, Q (p x) (upd H D (.lst l)) → tt (some x :: r) (upd H D (.lst l)) Q) (he : ∀ x ∈ xs, p x = true → ∀ l Q, Q (f x) (upd H D (.lst l)) → te (some x :: r) (upd H D (.lst l)) Q)
    (hn : ∀ v, E.nx (v :: r) (upd H D (.lst ((xs.filter p).map f)))) : LoopR (Itl K a) (gName 0) (tEmitIf D tt te) E (none :: r) (upd H D (.lst [])) := by
  have ne : a ≠ D := ne_of_none ha hD
  refine loop_list (xs := xs) (fun i σ H' => ∃ v : Option V, σ = v :: r ∧ H' = upd H D (.lst (((xs.take i).filter p).map f))) ⟨none, rfl, rfl⟩ ?_ ?_ ?_
  · rintro i σ H' _ ⟨v, _, rfl⟩
    rw [upd_ne ne]; exact ha
  · rintro i x σ H' hx ⟨v, rfl, rfl⟩
    have hl : i < xs.length := (List.getElem?_eq_some_iff.mp hx).1
    have hm := List.mem_of_getElem? hx
    have hf : (((xs.take i).filter p).map f).length ≤ i := by
      rw [List.length_map]
      exact Nat.le_trans (List.length_filter_le _ _) (by rw [List.length_take]; omega)
    refine ht x hm _ _ ?_
    by_cases q : p x = true
    · rw [q, if_pos rfl]
      refine he x hm q _ _ ⟨_, by rw [upd_same]; rfl, by omega, some x, rfl, ?_⟩
      rw [upd_D, filt_step p f xs i x hx, if_pos q]
    · rw [if_neg q]
      refine ⟨some x, rfl, ?_⟩
      rw [filt_step p f xs i x hx, if_neg q, List.append_nil]
  · rintro σ H' ⟨v, rfl, rfl⟩
    rw [List.take_of_length_le (Nat.le_refl _)]
    exact hn v
theorem compIf_tup {K : PySem.W.Frag} {a : Addr} {xs : List V} (p : V → Bool) (f : V → V) (ha : H a = some (.tup xs)) (hD : H D = none) (hz : xs.length ≤ sizeLine)
    (ht : ∀ x ∈ xs, ∀ l Q, Q (p x) (upd H D (.lst l)) → tt (some x :: r) (upd H D (.lst l)) Q) (he : ∀ x ∈ xs, p x = true → ∀ l Q, Q (f x) (upd H D (.lst l)) → te (some x :: r) (upd H D (.lst l)) Q)
    (hn : ∀ v, E.nx (v :: r) (upd H D (.lst ((xs.filter p).map f)))) : LoopR (Itt K a) (gName 0) (tEmitIf D tt te) E (none :: r) (upd H D (.lst [])) := by
  have ne : a ≠ D := ne_of_none ha hD
  refine loop_tup (xs := xs) (fun i σ H' => ∃ v : Option V, σ = v :: r ∧ H' = upd H D (.lst (((xs.take i).filter p).map f))) ⟨none, rfl, rfl⟩ ?_ ?_ ?_
  · rintro i σ H' _ ⟨v, _, rfl⟩
    rw [upd_ne ne]; exact ha
  · rintro i x σ H' hx ⟨v, rfl, rfl⟩
    have hl : i < xs.length := (List.getElem?_eq_some_iff.mp hx).1
    have hm := List.mem_of_getElem? hx
    have hf : (((xs.take i).filter p).map f).length ≤ i := by
      rw [List.length_map]
      exact Nat.le_trans (List.length_filter_le _ _) (by rw [List.length_take]; omega)
    refine ht x hm _ _ ?_
    by_cases q : p x = true
    · rw [q, if_pos rfl]
      refine he x hm q _ _ ⟨_, by rw [upd_same]; rfl, by omega, some x, rfl, ?_⟩
      rw [upd_D, filt_step p f xs i x hx, if_pos q]
    · rw [if_neg q]
      refine ⟨some x, rfl, ?_⟩
      rw [filt_step p f xs i x hx, if_neg q, List.append_nil]
  · rintro σ H' ⟨v, rfl, rfl⟩
    rw [List.take_of_length_le (Nat.le_refl _)]
    exact hn v
end
end L2
set_option Elab.async false
set_option linter.all false
set_option maxRecDepth 100000
set_option maxHeartbeats 4000000
namespace L2
open PySem PySem.Spec PyProof.Rows
section
variable {X : Cx}
def rTru (x : V) (H : Hp) (Q : Bool → Hp → Prop) : Prop := match x with
  | .bl b => Q b H
  | .int i => Q (i != 0) H
  | .non => Q false H
  | .str y => y.length ≤ sizeLine ∧ Q ((y.length : Int) != 0) H
  | .ref p => ∃ xs, seqOf (H p) = some xs ∧ Q (!xs.isEmpty) H
  | _ => False
def tTru (ta : TE) : TT := fun σ H Q => ta σ H fun x H1 => rTru x H1 Q
theorem rTru_ref (p : Addr) (H : Hp) (Q : Bool → Hp → Prop) : rTru (.ref p) H Q = (∃ xs, seqOf (H p) = some xs ∧ Q (!xs.isEmpty) H) := rfl
theorem rTru_bl (b : Bool) (H : Hp) (Q : Bool → Hp → Prop) : rTru (.bl b) H Q = Q b H := rfl
theorem rTru_str (y : Str) (H : Hp) (Q : Bool → Hp → Prop) : rTru (.str y) H Q = (y.length ≤ sizeLine ∧ Q ((y.length : Int) != 0) H) := rfl
theorem pt_tru {a : Expr} {ta : TE} (ha : PE X a ta) (he : ∀ whole, isTrue a X.env whole = (do let v ← whole; standAt a.pos; holding [v] (truthy v)) := by intro _; rfl) : PT X a (tTru ta) := by
  intro pins s σ H Q I h
  refine isTrue_plain (thn (ha pins s σ H _ I h) fun v s1 ⟨x, H1, I1, r1, q1⟩ => tru_ok pins s1 σ H1 x v Q I1 r1 ?_) (he _)
  replace q1 : rTru x H1 Q := q1
  unfold rTru at q1
  split at q1
  · exact ⟨_, rfl, q1⟩
  · exact ⟨_, rfl, q1⟩
  · exact ⟨_, rfl, q1⟩
  · exact ⟨_, ⟨q1.1, rfl⟩, q1.2⟩
  · obtain ⟨xs, e, q⟩ := q1
    rcases of_seqOf e with e | e
    · exact ⟨_, .inl ⟨xs, SqL.of e, rfl⟩, q⟩
    · exact ⟨_, .inr (.inl ⟨xs, SqT.of e, rfl⟩), q⟩
  · exact q1.elim
def rPop0U : V → List V → Hp → VK → Prop := fun x vs H Q => match x, vs with
  | .ref l, [] => ∃ xs, lstOf (H l) = some xs ∧ ∃ y, xs[xs.length - 1]? = some y ∧ Q y (upd H l (.lst xs.dropLast))
  | _, _ => False
theorem rPop0U_ref (l : Addr) (H : Hp) (Q : VK) : rPop0U (.ref l) [] H Q = (∃ xs, lstOf (H l) = some xs ∧ ∃ y, xs[xs.length - 1]? = some y ∧ Q y (upd H l (.lst xs.dropLast))) := rfl
theorem mt_pop0U : MtM X "list.pop" rPop0U := by
  intro pins s σ H x vs v us Q I rx rv h
  unfold rPop0U at h
  split at h
  · rename_i l
    obtain ⟨xs, e, y, hy, q⟩ := h
    exact mt_pop pins s σ H _ _ v us Q I rx rv ⟨l, xs, y, rfl, rfl, of_lstOf e, hy, q⟩
  · exact h.elim
end
end L2
set_option Elab.async false
set_option linter.all false
set_option maxRecDepth 100000
set_option maxHeartbeats 4000000
namespace L2
open PySem PySem.Spec PyProof.Rows
section
variable {P : Program} {w : World} {A : Around} {E : Value → Shared → Prop} {s : Shared}
end
section
variable {X : Cx}
end
end L2
set_option Elab.async false
set_option linter.all false
set_option maxRecDepth 100000
set_option maxHeartbeats 4000000
namespace L2
open PySem PySem.Spec PyProof.Rows
section
variable {X : Cx}
end
def tMid (t u : TS) : TS := fun D σ H => ∃ J : L2.St → Hp → Prop, t { D with nx := J } σ H ∧ ∀ σ H, J σ H → u D σ H
theorem pss_mid {X : Cx} {st : Stmt} {rest : List Stmt} {t u : TS} (h1 : PS X st t) (h2 : PSs X rest u) : PSs X (st :: rest) (tMid t u) := by
  intro pins s σ H D I h
  obtain ⟨J, h, hJ⟩ := h
  refine wpAny_execs_cons (thn (h1 pins s σ H { D with nx := J } I h) fun f s1 q => ?_)
  cases f with
  | next =>
    obtain ⟨σ1, H1, I1, q1⟩ := q
    exact h2 pins s1 σ1 H1 D I1 (hJ _ _ q1)
  | ret v => exact q
  | brk => exact q
  | cont => exact q
theorem qpss_mid {X : Cx} {st : Stmt} {rest : List Stmt} {t u : TS} (h1 : QS X st t) (h2 : QSs X rest u) : QSs X (st :: rest) (tMid t u) := ⟨pss_mid h1.h h2.h⟩
section
variable {X : Cx}
theorem qps_never {st : Stmt} : QS X st tNever := ⟨ps_never⟩
theorem qpt_tru {a : Expr} {ta : TE} (ha : QE X a ta) (he : ∀ whole, isTrue a X.env whole = (do let v ← whole; standAt a.pos; holding [v] (truthy v)) := by intro _; rfl) : QT X a (tTru ta) := ⟨pt_tru ha.h he⟩
theorem call_isinstanceK {K : PySem.W.Frag} (hK : X.K = K) : CallR X (.builtin "isinstance") (rIsU K) := by
  subst hK
  exact call_isinstanceU
end
end L2
set_option Elab.async false
set_option linter.all false
set_option maxRecDepth 100000
set_option maxHeartbeats 4000000
namespace L2
open PySem PySem.Spec PyProof.Rows
section
variable {P : Program} {w : World} {A : Around} {R : Result → Shared → Prop} {I : Addr} {fp wr : List Addr} {n : Nat} {Pv : Nat → Value → Prop} {St : Nat → Heap → Prop}
end
section
variable {X : Cx}
end
end L2
set_option Elab.async false
set_option linter.all false
set_option maxRecDepth 100000
set_option maxHeartbeats 4000000
namespace L2
open PySem PySem.Spec PyProof.Rows
section
variable {P : Program} {w : World} {A : Around} {E : Value → Shared → Prop} {s : Shared} {d it : Addr} {o : Obj} {es : Array DictEntry} {ep i : Nat}
end
section
variable {X : Cx} {tg : Expr}
end
end L2
set_option Elab.async false
set_option linter.all false
set_option maxRecDepth 100000
set_option maxHeartbeats 4000000
namespace L2
open PySem PySem.Spec PyProof.Rows
section
variable {D : Addr} {te : TE} {tt : TT} {E : Ends} {r : L2.St} {H : Hp}
def Firm (P : V → Hp → Prop) : Prop := ∀ S x H1 H2, Kp S H1 H2 → P x H1 → P x H2
theorem comp_rangeK {lo : Int} {n : Nat} (P : Nat → V → Hp → Prop) (hP : ∀ i, Firm (P i)) (hD : H D = none) (hz : n ≤ sizeLine)
    (he : ∀ i H1 Q, i < n → Kp [] H H1 → (∀ v H2, Kp [] H1 H2 → P i v H2 → Q v H2) → te (some (.int (lo + (i : Nat))) :: r) H1 Q)
    (hn : ∀ v xs H', Kp [] H H' → H' D = some (.lst xs) → Paired (fun i x => P i x H') (List.range n) xs → E.nx (v :: r) H') : LoopR (Itr lo n) (gName 0) (tEmit D te) E (none :: r) (upd H D (.lst [])) := by
  refine loop_range (fun i σ H' => ∃ (v : Option V) (xs : List V), σ = v :: r ∧ Kp [] H H' ∧ H' D = some (.lst xs) ∧ Paired (fun i x => P i x H') (List.range i) xs) ⟨none, [], rfl, (Kp.refl [] H).new hD, upd_same, .nil⟩ ?_ ?_
  · rintro i σ H' hi ⟨v, xs, rfl, kp, hd, pr⟩
    have hl : xs.length = i := by have := Paired.length pr; simpa using this.symm
    refine he i H' _ hi kp fun y H2 k2 hy => ?_
    have hd2 : H2 D = some (.lst xs) := k2.old _ _ hd List.not_mem_nil
    refine ⟨xs, by rw [hd2]; rfl, by omega, some (.int (lo + (i : Nat))), xs ++ [y], rfl, (kp.trans k2).set hd2 (.inr hD), upd_same, ?_⟩
    have k3 : Kp [D] H2 (upd H2 D (.lst (xs ++ [y]))) := (Kp.refl [D] H2).set hd2 (.inl (.head _))
    rw [List.range_succ]
    exact Paired.snoc (Paired.mapP pr fun j x q => hP j _ x _ _ k3 (hP j _ x _ _ k2 q)) (hP i _ y _ _ k3 hy)
  · rintro σ H' ⟨v, xs, rfl, kp, hd, pr⟩
    exact hn v xs H' kp hd pr
end
theorem Kp.setD {S : List Addr} {H H1 : Hp} (k : Kp S H H1) {b : Addr} {kvs : List (List Key × V)} {o : HO} (hb : H1 b = some (.dT kvs)) (h : b ∈ S ∨ H b = none) : Kp S H (upd H1 b o) :=
  ⟨fun c u e n => by
    have : c ≠ b := by
      rintro rfl
      rcases h with h | h
      · exact n h
      · rw [h] at e; cases e
    rw [upd_ne this]; exact k.old c u e n,
   fun c ys e => by
    have e1 := k.tup c ys e
    rw [upd_ne (ne_of e1 hb (by intro z; cases z))]; exact e1,
   fun c u e => by
    obtain ⟨o', e'⟩ := k.dom c u e
    by_cases q : c = b
    · subst q; exact ⟨o, upd_same⟩
    · exact ⟨o', by rw [upd_ne q]; exact e'⟩⟩
theorem sl_UK {X : Cx} {K : PySem.W.Frag} (hK : X.K = K) : SlR X (rSlU K) := by
  subst hK
  exact sl_U
end L2
namespace L2
open PySem PySem.Spec PyProof.Rows
section
variable {prog : Program} {w : World} {A : Around} {E : Value → Shared → Prop} {s : Shared}
end
section
variable {X : Cx}
end
end L2
set_option Elab.async false
set_option linter.all false
set_option maxRecDepth 100000
set_option maxHeartbeats 4000000
namespace L2
open PySem PySem.Spec PyProof.Rows
section
variable {X : Cx}
end
end L2
set_option Elab.async false
set_option linter.all false
set_option maxRecDepth 100000
set_option maxHeartbeats 4000000
namespace HT
open PySem PyProof.Rows
section
open PySem.SeqAt
open PySem.AutoSeq1 (wpAny_loadPart')
open PySem.MeetsSeq PySem.MeetsSeq2 PySem.MeetsSeq3
end
section
variable {prog : Program} {w : World} {A : Around} {E : Value → Shared → Prop} {s : Shared}
end
end HT
namespace L2
open PySem PySem.Spec PyProof.Rows
section
variable {X : Cx}
end
end L2
set_option Elab.async false
set_option linter.all false
set_option maxRecDepth 100000
set_option maxHeartbeats 4000000
namespace L2
open PySem PySem.Spec PyProof.Rows
section
variable {prog : Program} {w : World} {A : Around} {R : Result → Shared → Prop} {I : Addr} {fp wr : List Addr} {G : Array GenState → Array GenState → Prop} {n : Nat} {P : Nat → Value → Prop} {St : Nat → Shared → Prop}
end
section
variable {prog : Program} {w : World} {A : Around} {E : Value → Shared → Prop} {s : Shared}
end
section
variable {X : Cx}
end
end L2
set_option Elab.async false
set_option linter.all false
set_option maxRecDepth 100000
set_option maxHeartbeats 4000000
namespace L2
open PySem PySem.Spec PyProof.Rows
section
variable {prog : Program} {w : World} {A : Around} {E : Value → Shared → Prop} {h : Heap} {g : Array GenState} {d : Drawn} {t : Nat} {os : OsState}
variable {nm q : Str} {C N : Addr} {bs bm bmB : List Value} {hdct : Bool} {sn : List Str} {sub : List Value} {ab : Bool} {col : Option Bool} {dd : Option Addr} {k0 k1 k2 k3 k5 : Option Value} {B newId initId : String}
end
end L2
set_option Elab.async false
set_option linter.all false
set_option maxRecDepth 100000
set_option maxHeartbeats 4000000
namespace L2
open PySem PySem.Spec PyProof.Rows
open Builtin Builtin.ObjectAttr
section
variable {prog : Program} {w : World} {A : Around} {E : Value → Shared → Prop} {h : Heap} {g : Array GenState} {d : Drawn} {t : Nat} {os : OsState}
variable {nm q : Str} {C D N x : Addr} {bs bmB : List Value} {sn : List Str} {sub : List Value} {ab : Bool} {col : Option Bool} {dd : Option Addr} {k0 k1 k2 k3 k5 : Option Value} {newId name : Str} {nid sa owner B : String} {v : Value}
end
end L2
set_option Elab.async false
set_option linter.all false
set_option maxRecDepth 100000
set_option maxHeartbeats 4000000
namespace L2
open PySem PySem.Spec PyProof.Rows
open Builtin Builtin.ObjectAttr
section
variable {prog : Program} {w : World} {A : Around} {E : Value → Shared → Prop} {h : Heap} {g : Array GenState} {d : Drawn} {t : Nat} {os : OsState}
variable {nm q : Str} {C D N x dx : Addr} {bs bmB : List Value} {sn : List Str} {sub : List Value} {ab : Bool} {col : Option Bool} {dd : Option Addr} {k0 k1 k2 k3 k5 : Option Value} {name : Str} {nid B : String} {v : Value} {mA : Str → Option Value}
end
end L2
set_option Elab.async false
set_option linter.all false
set_option maxRecDepth 100000
set_option maxHeartbeats 4000000
namespace L2
open PySem PySem.Spec PyProof.Rows
section
variable {prog : Program} {w : World} {A : Around} {E : Value → Shared → Prop} {h : Heap} {g : Array GenState} {d : Drawn} {t : Nat} {os : OsState}
variable {nm q : Str} {C N : Addr} {bs bm bmB : List Value} {hdct : Bool} {sn : List Str} {sub : List Value} {ab : Bool} {col : Option Bool} {dd : Option Addr} {k0 k1 k2 k3 k5 : Option Value} {B newId initId : String}
end
end L2
set_option Elab.async false
set_option linter.all false
set_option maxRecDepth 100000
set_option maxHeartbeats 4000000
namespace L2
open PySem PySem.Spec PyProof.Rows
section
variable {X : Cx} {pins : List (Addr × Obj)} {σ : St} {H : Hp} {s : Shared} {C D N : Addr}
end
end L2
set_option Elab.async false
set_option linter.all false
set_option maxRecDepth 100000
set_option maxHeartbeats 4000000
namespace L2
open PySem PySem.Spec PyProof.Rows
open Builtin Builtin.ObjectAttr
section
variable {prog : Program} {w : World} {A : Around} {E : Value → Shared → Prop} {h : Heap} {g : Array GenState} {d : Drawn} {t : Nat} {os : OsState}
variable {nm q : Str} {C D N x : Addr} {bs bmB : List Value} {sn : List Str} {sub : List Value} {ab : Bool} {col : Option Bool} {dd : Option Addr} {k0 k1 k2 k3 k5 : Option Value} {nid : String} {K : PySem.W.Frag}
end
end L2
set_option Elab.async false
set_option linter.all false
set_option maxRecDepth 100000
set_option maxHeartbeats 4000000
namespace L2
open PySem PySem.Spec PyProof.Rows
section
variable {X : Cx}
end
end L2
set_option Elab.async false
set_option linter.all false
set_option maxRecDepth 100000
set_option maxHeartbeats 4000000
namespace L2
open PySem PySem.Spec PyProof.Rows
section
variable {X : Cx}
end
end L2
set_option Elab.async false
set_option linter.all false
set_option maxRecDepth 100000
set_option maxHeartbeats 4000000
set_option autoImplicit true
set_option relaxedAutoImplicit true
namespace L2
open PySem PySem.Spec PyProof.Rows
section
variable {X : Cx} {K : PySem.W.Frag}
end
end L2
set_option Elab.async false
set_option linter.all false
set_option maxRecDepth 100000
set_option maxHeartbeats 4000000
namespace HT
open PySem PyProof.Rows
section
open PySem.AutoSeq1 (wpAny_loadPart')
open PySem.MeetsSeq PySem.MeetsSeq2 PySem.MeetsSeq3
theorem tuple_add0 (l b : Addr) (items2 : Array Value) (n n2 : Nat) (dd dd2 : Option Addr) (sl sl2 : Array (Option Value)) :
    Meets (Builtin.«tuple.__add__» ⟨[.ref l, .ref b], []⟩)
      (fun _ R s => s.heap.get? l = some { cls := .type "tuple", dict := dd, data := .seq #[] n, slots := sl } ∧ s.heap.get? b = some { cls := .type "tuple", dict := dd2, data := .seq items2 n2, slots := sl2 } ∧ R (.ok (.ret (.ref b))) s) :=
  .of_wp fun prog w A R s h => by
    obtain ⟨hp, g, d, tk, os⟩ := s; obtain ⟨hl, hb, h⟩ := h
    have f2 := AutoSeq1.sub_tuple_tuple
    wp_walk using wpAny_loadPart' hl, wpAny_loadPart' hb
    exact ⟨_, rfl, h⟩
end
end HT
namespace L2
open PySem PySem.Spec PyProof.Rows
section
variable {X : Cx}
end
end L2
set_option Elab.async false
set_option linter.all false
set_option maxRecDepth 100000
set_option maxHeartbeats 4000000
set_option autoImplicit true
set_option relaxedAutoImplicit true
namespace L2
open PySem PySem.Spec PyProof.Rows
section
variable {K : PySem.W.Frag} {C C' D N N' : Addr} {nm q nm' q' : Str} {bs bm bs' bm' : List Value} {sn sn' : List Str} {sub sub' : List Value} {ab ab' hd hd' : Bool} {col col' : Option Bool} {dd dd' : Option Addr} {k0 k1 k2 k3 k5 j0 j1 j2 j3 j5 : Option Value} {nid nid' : String}
end
end L2
set_option Elab.async false
set_option linter.all false
set_option maxRecDepth 100000
set_option maxHeartbeats 4000000
namespace L2
open PySem PySem.Spec PyProof.Rows
section
variable {M : Model} {A : Around} {E : Value → Shared → Prop} {s : Shared}
end
end L2
set_option Elab.async false
set_option linter.all false
set_option maxRecDepth 100000
set_option maxHeartbeats 4000000
namespace L2
open PySem PySem.Spec PyProof.Rows
section
variable {X : Cx} {pins : List (Addr × Obj)} {σ : St} {H H' : Hp} {s : Shared} {a C T : Addr} {dx : Option Addr} {fl : Option Value}
end
section
variable {X : Cx} {E : XK}
end
end L2
set_option Elab.async false
set_option linter.all false
set_option maxRecDepth 100000
set_option maxHeartbeats 4000000
namespace L2
open PySem PySem.Spec PyProof.Rows
section
variable {M : Model} {A : Around} {E : Value → Shared → Prop} {s : Shared} {env : Env}
variable {nm q : Str} {C N : Addr} {bs bm : List Value} {hdct : Bool} {sn : List Str} {sub : List Value} {ab : Bool} {col : Option Bool} {dd : Option Addr} {k0 k1 k2 k3 k5 : Option Value} {newId : String}
end
section
variable {X : Cx} {pins : List (Addr × Obj)} {σ : St} {H H' : Hp} {s : Shared} {a C D N : Addr} {dx : Option Addr}
end
end L2
set_option Elab.async false
set_option linter.all false
set_option maxRecDepth 100000
set_option maxHeartbeats 4000000
namespace L2
open PySem PySem.Spec PyProof.Rows
section
variable {X : Cx} {pins : List (Addr × Obj)} {σ : St} {H H' : Hp} {s : Shared} {a C D N : Addr} {dx : Option Addr} {A' : Around}
end
end L2
set_option Elab.async false
set_option linter.all false
set_option maxRecDepth 100000
set_option maxHeartbeats 4000000
namespace L2
open PySem PySem.Spec PyProof.Rows
section
variable {X : Cx}
end
section
variable {P : Program} {w : World} {K : PySem.W.Frag} {mg : Str → Option Value} {base : Heap}
end
section
variable {X : Cx}
end
end L2
set_option Elab.async false
set_option linter.all false
set_option maxRecDepth 100000
set_option maxHeartbeats 4000000
namespace L2
open PySem PySem.Spec PyProof.Rows
section
variable {X : Cx}
theorem tyV_str (K : PySem.W.Frag) (z : Str) (H : Hp) : tyV K "str" (.str z) H = True := by simp [tyV]
end
end L2
set_option Elab.async false
set_option linter.all false
set_option maxRecDepth 100000
set_option maxHeartbeats 4000000
namespace L2
open PySem PySem.Spec PyProof.Rows
section
variable {prog : Program} {w : World} {A : Around} {E : Value → Shared → Prop} {s : Shared}
theorem tupNext_item {h : Heap} {g : Array GenState} {d : Drawn} {t : Nat} {os : OsState} {it a : Addr} {i : Nat} {vs : Array Value} {u : Value} {Q : Value → Shared → Prop} (hi : h.IsTupleIter it a i) (ha : h.IsTuple a vs) (hu : vs[i]? = some u)
    (q : ∀ h', h'.IsTupleIter it a (i + 1) → Heap.SameBut it h h' → Q u ⟨h', g, d, t, os⟩) : wpAny (model prog w) A (Builtin.SmallTypes.nextOf (.ref it)) Q E ⟨h, g, d, t, os⟩ := by
  obtain ⟨⟨ci, di, dti, si⟩, e1, c1, d1⟩ := id hi
  obtain ⟨⟨ca, da, dta, sa⟩, e2, c2, n2, d2⟩ := ha
  dsimp only at c1 d1 c2 d2
  subst c1 d1 c2 d2
  have sl := PySem.F.slot_tuple_iterator_next
  have hT : (⟨h, g, d, t, os⟩ : Shared).TypeIs (.ref it) "tuple_iterator" := hi.typeIs
  have fin := q _ ⟨_, Heap.get?_update_self (Obj.mapFields (·.setIfInBounds 1 (rawInt (i + 1)))) e1 rfl, rfl, by simp [Obj.mapFields, rawInt]⟩ (.update ..)
  refine wpAny_bind (wpAny_callSpecial?_slot hT sl (wpAny_call_entry sl hT PySem.F.entry_tuple_iterator_next ?_ (PySem.F.args_tuple_iterator_next_1 _)))
  unfold Builtin.«tuple_iterator.__next__»
  repeat (any_goals (first | assumption | with_reducible refine wpAny_loadPart_at e1 ?_ | with_reducible refine wpAny_loadPart_at e2 ?_ | wp_step))
  have e3 : vs[((i : Nat) : Int).toNat]? = some u := hu
  rw [e3]
  exact wpAny_bind (wpAny_setField e1 rfl (by simp) (wpAny_pure ⟨u, rfl, wpAny_pure fin⟩))
theorem tupNext_end {h : Heap} {g : Array GenState} {d : Drawn} {t : Nat} {os : OsState} {it a : Addr} {i : Nat} {vs : Array Value} {Q : Value → Shared → Prop} (hh : A.handled = none) (hi : h.IsTupleIter it a i) (ha : h.IsTuple a vs) (hu : vs[i]? = none)
    (q : ∀ h' e, Heap.ExtBut it h h' → (∃ o, h'.get? e = some o ∧ o.cls = .type "StopIteration") → E (.ref e) ⟨h', g, d, t, os⟩) : wpAny (model prog w) A (Builtin.SmallTypes.nextOf (.ref it)) Q E ⟨h, g, d, t, os⟩ := by
  obtain ⟨⟨ci, di, dti, si⟩, e1, c1, d1⟩ := id hi
  obtain ⟨⟨ca, da, dta, sa⟩, e2, c2, n2, d2⟩ := ha
  dsimp only at c1 d1 c2 d2
  subst c1 d1 c2 d2
  have sl := PySem.F.slot_tuple_iterator_next
  have hT : (⟨h, g, d, t, os⟩ : Shared).TypeIs (.ref it) "tuple_iterator" := hi.typeIs
  have h1 : A.in1.handled = none := hh
  refine wpAny_bind (wpAny_callSpecial?_slot hT sl (wpAny_call_entry sl hT PySem.F.entry_tuple_iterator_next ?_ (PySem.F.args_tuple_iterator_next_1 _)))
  unfold Builtin.«tuple_iterator.__next__»
  repeat (any_goals (first | assumption | with_reducible refine wpAny_loadPart_at e1 ?_ | with_reducible refine wpAny_loadPart_at e2 ?_ | wp_step))
  have e3 : vs[((i : Nat) : Int).toNat]? = none := hu
  rw [e3]
  refine wpAny_bind (wpAny_rule (wpAny_bind (wpAny_setField e1 rfl (by simp) ?_)))
  unfold Builtin.SmallTypes.stopIteration
  have fm : firstArgMember (.type "StopIteration") [] = pure .none := rfl
  unfold newExc
  repeat (any_goals (first | assumption | rw [fm] | wp_step))
  exact wpAny_raiseNew_none h1 (q _ _ (((Heap.SameBut.update ..).extBut.push _).push _) ⟨_, Heap.get?_push_size _ rfl, rfl⟩)
theorem dr_tup (hh : A.handled = none) (it a : Addr) (ne : a ≠ it) (vs : Array Value) : Draws prog w A it [it, a] vs.size (fun i v => vs[i]? = some v) (fun i h => h.IsTupleIter it a i ∧ h.IsTuple a vs) where
  live := fun _ _ st => let ⟨o, ho, _⟩ := st.1; ⟨o, ho⟩
  frame := fun _ _ _ st hk => by
    obtain ⟨⟨o, ho, r⟩, ⟨o2, ho2, r2⟩⟩ := st
    exact ⟨⟨o, hk it (by simp) o ho, r⟩, ⟨o2, hk a (by simp) o2 ho2, r2⟩⟩
  item := fun i s Q E hi st hQ => by
    obtain ⟨hp, g, d, t, os⟩ := s
    obtain ⟨o2, ho2, r2⟩ := st.2
    exact tupNext_item st.1 st.2 (u := vs[i]) (by simp [hi]) fun h' hit' hs' => hQ _ h' t (by simp [hi]) ⟨hit', ⟨o2, (hs'.2 a ne).trans ho2, r2⟩⟩ hs'
  done := fun s Q E st hE => by
    obtain ⟨hp, g, d, t, os⟩ := s
    exact tupNext_end hh st.1 st.2 (by simp) hE
open AutoSeq1 (wpAny_loadPart') in
theorem enumT_new (a : Addr) (vs : Array Value) (n : Nat) (dct : Option Addr) (sl : Array (Option Value)) :
    Meets (Builtin.«enumerate.__new__» ⟨[.type "enumerate", .ref a], []⟩) (fun _ R s => s.heap.get? a = some ⟨.type "tuple", dct, .seq vs n, sl⟩ ∧
      R (.ok (.ret (.ref (s.heap.push { cls := .type "tuple_iterator", data := .fields #[.ref a, .int 0 0] }).objs.size)))
        { s with heap := (s.heap.push { cls := .type "tuple_iterator", data := .fields #[.ref a, .int 0 0] }).push { cls := .type "enumerate", data := .fields #[.none, .bool false, .ref s.heap.objs.size, rawInt 0, .none, .none] } }) :=
  .of_wp fun prog w A R s h => by
    obtain ⟨hp, g, d, tk, os⟩ := s; obtain ⟨ha, h⟩ := h
    have hsb := sub_enumerate
    have hT : Heap.IsTuple (Shared.heap ⟨hp, g, d, tk, os⟩) a vs := ⟨_, ha, rfl, n, rfl⟩
    wp_walk using wpAny_loadPart' ha
    refine wpAny_stack_any fun k => wpAny_pure ?_
    split <;> (try (rename_i c _ _ _ _ _; generalize (c == Value.type "enumerate") = b; cases b)) <;> (wp_walk using wpAny_loadPart' ha, wpAny_pyIter_tuple hT) <;> exact ⟨_, rfl, h⟩
theorem call_enumT {a : Addr} {vs : Array Value} {Q : Value → Shared → Prop} (ht : s.heap.IsTuple a vs)
    (q : ∀ h', IsEnum h' (s.heap.objs.size + 1) s.heap.objs.size 0 .none → h'.IsTupleIter s.heap.objs.size a 0 → (∀ b o, s.heap.get? b = some o → h'.get? b = some o) → Q (.ref (s.heap.objs.size + 1)) { s with heap := h' }) :
    wpAny (model prog w) A (call (.type "enumerate") [.ref a]) Q E s := by
  obtain ⟨⟨c, dct, dt, sl⟩, ha, hc, n, hd⟩ := ht
  dsimp only at hc hd
  subst hc hd
  refine callType_new PySem.F.called_enumerate (by decide) (PySem.F.typeCall_enumerate_1 _) (PySem.F.newCall_enumerate_1 _) (fun obj => PySem.F.args_object_init_2 obj _) PySem.F.entry_enumerate_new (enumT_new a vs n dct sl) ⟨ha, ?_⟩
  have hz : (s.heap.push { cls := .type "tuple_iterator", data := .fields #[.ref a, .int 0 0] }).objs.size = s.heap.objs.size + 1 := Heap.size_push ..
  have he : IsEnum ((s.heap.push { cls := .type "tuple_iterator", data := .fields #[.ref a, .int 0 0] }).push { cls := .type "enumerate", data := .fields #[.none, .bool false, .ref s.heap.objs.size, rawInt 0, .none, .none] }) (s.heap.objs.size + 1) s.heap.objs.size 0 .none := by
    have e := Heap.get?_push_size (s.heap.push { cls := .type "tuple_iterator", data := .fields #[.ref a, .int 0 0] }) (o := { cls := .type "enumerate", data := .fields #[.none, .bool false, .ref s.heap.objs.size, rawInt 0, .none, .none] }) rfl
    rw [hz] at e; exact e
  show _ ∧ _
  rw [hz]
  exact ⟨⟨_, he, rfl⟩, q _ he ⟨_, Heap.get?_push_of_some _ (Heap.get?_push_size _ rfl), rfl, rfl⟩ fun b o x => Heap.get?_push_of_some _ (Heap.get?_push_of_some _ x)⟩
end
def ItE (K : PySem.W.Frag) (a : Addr) : It := ⟨fun i H => ∃ xs x, SqT K H a xs ∧ xs[i]? = some x, fun i H x H' => ∃ T y, H T = none ∧ x = .ref T ∧ (∀ xs, SqT K H a xs → xs[i]? = some y) ∧ H' = upd H T (.tup [.int (i : Int), y]), fun i H => ∃ xs, SqT K H a xs ∧ xs.length = i⟩
theorem turn_enumT {P : Program} {w : World} {K : PySem.W.Frag} {elts : List Expr} {kk : Nat} {pos : Pos} (a e it : Addr) (ne : e ≠ it) : Turn P w K (.Tuple elts kk pos) (ItE K a) [e, it] e (fun i h => (∃ old, IsEnum h e it i old) ∧ h.IsTupleIter it a i) where
  mem := by simp
  obj := fun i h st b hb => by
    obtain ⟨⟨old, he⟩, ⟨o, ho, hc, hd⟩⟩ := st
    rcases List.mem_cons.mp hb with rfl | hb
    · exact ⟨_, he, fun v z => by cases z⟩
    · rw [List.mem_singleton.mp hb]
      exact ⟨o, ho, fun v z => by rw [hd] at z; cases z⟩
  keep := fun i h h' st k => by
    obtain ⟨⟨old, he⟩, ⟨o, ho, r⟩⟩ := st
    exact ⟨⟨old, k e (by simp) _ he⟩, ⟨o, k it (by simp) o ho, r⟩⟩
  item := by
    intro X hP hw hK hc i pins s σ H E I hf st hg
    subst hP hw hK
    obtain ⟨xs, x, hq, hx⟩ := hg
    obtain ⟨its, rv, p, hz⟩ := I.tuple hq
    obtain ⟨u, hu, ru⟩ := rv.get hx
    have fr : ∀ b ∈ [e, it], b ≠ a := fun b hb z => by
      subst z
      obtain ⟨o, eo, hcl⟩ : ∃ o, s.heap.get? b = some o ∧ o.cls ≠ .type "tuple" := by
        obtain ⟨⟨old, he⟩, ⟨o, ho, hc', hd⟩⟩ := st
        rcases List.mem_cons.mp hb with rfl | hb
        · exact ⟨_, he, by simp⟩
        · rw [List.mem_singleton.mp hb]
          exact ⟨o, ho, by rw [hc']; simp⟩
      obtain ⟨o2, ho2, hc2, _⟩ := p
      rw [eo] at ho2
      cases ho2
      exact hcl hc2
    have WA := WalksT.enumerateD (dr_tup (prog := X.prog) (w := X.w) (A := X.A.in1) (show X.A.in1.handled = none from I.ok.hd hc) it a (fr it (by simp)).symm its.toArray) e ne (by simp [ne, fr e (by simp)]) (by simp)
    have hlt : i < its.toArray.size := by
      rw [List.size_toArray]
      exact (List.getElem?_eq_some_iff.mp hu).1
    refine WA.item i s _ _ hlt ⟨st.1, st.2, p⟩ fun T vs h' tk hp hT htup mid kk' => ⟨_, rfl, ?_⟩
    have nTw := WA.apart _ _ _ mid
    refine WA.go _ _ _ i T { s with heap := h', toks := tk } _ _ mid fun h'' st'' k'' => ?_
    have tup' : IsTup h'' T vs := by
      obtain ⟨o, eo, r⟩ := htup
      exact ⟨o, k'' T o nTw eo, r⟩
    have hv : Vals [V.int (i : Int), x] vs.toList := by
      obtain ⟨t', u', hu', rfl⟩ := hp
      rw [show its.toArray[i]? = some u from by simpa using hu] at hu'
      cases hu'
      exact .cons ⟨t', rfl⟩ (.cons ru .nil)
    refine ⟨.ref T, upd H T (.tup [.int (i : Int), x]), ?_, rfl, ⟨T, x, I.hok.fresh hT, rfl, fun ys hy => by rw [I.tuple_inj hy hq]; exact hx, rfl⟩, ⟨st''.1, st''.2.1⟩, fun b hb => ?_⟩
    · refine I.turnedNew (fp := [e, it]) (wr := [e, it]) hf (fun b o hb eo => k'' b o hb (kk' b o hb eo)) hT (by simpa using tup') hv (by show 2 ≤ sizeLine; decide) fun b hb => ?_
      obtain ⟨⟨old, he⟩, ⟨⟨o, ho, _⟩, _⟩⟩ := st''
      rcases List.mem_cons.mp hb with rfl | hb
      · exact ⟨_, he⟩
      · rw [List.mem_singleton.mp hb]; exact ⟨o, ho⟩
    · have hlt : b < s.heap.objs.size := by
        obtain ⟨⟨old, he⟩, ⟨o, ho, _⟩⟩ := st
        rcases List.mem_cons.mp hb with rfl | hb
        · exact Heap.lt_size he
        · rw [List.mem_singleton.mp hb]; exact Heap.lt_size ho
      rw [upd_ne (Nat.ne_of_lt (Nat.lt_of_lt_of_le hlt hT))]
      exact (hf b hb).1
  done := by
    intro X hP hw hK hc i pins s σ H E I hf st hg
    subst hP hw hK
    obtain ⟨xs, hq, hi⟩ := hg
    obtain ⟨its, rv, p, hz⟩ := I.tuple hq
    have fr : ∀ b ∈ [e, it], b ≠ a := fun b hb z => by
      subst z
      obtain ⟨o, eo, hcl⟩ : ∃ o, s.heap.get? b = some o ∧ o.cls ≠ .type "tuple" := by
        obtain ⟨⟨old, he⟩, ⟨o, ho, hc', hd⟩⟩ := st
        rcases List.mem_cons.mp hb with rfl | hb
        · exact ⟨_, he, by simp⟩
        · rw [List.mem_singleton.mp hb]
          exact ⟨o, ho, by rw [hc']; simp⟩
      obtain ⟨o2, ho2, hc2, _⟩ := p
      rw [eo] at ho2
      cases ho2
      exact hcl hc2
    have WA := WalksT.enumerateD (dr_tup (prog := X.prog) (w := X.w) (A := X.A.in1) (show X.A.in1.handled = none from I.ok.hd hc) it a (fr it (by simp)).symm its.toArray) e ne (by simp [ne, fr e (by simp)]) (by simp)
    have hn : its.toArray.size = i := by rw [List.size_toArray, ← rv.length]; exact hi
    refine WA.done s _ _ (by rw [hn]; exact ⟨st.1, st.2, p⟩) fun h' tk kk' => ⟨rfl, ?_⟩
    have nw : ∀ b u, H b = some u → b ∉ [e, it] := fun b u eo hb => by rw [(hf b hb).1] at eo; cases eo
    refine I.step (g' := s.gens) (d' := s.drawn) (ch := [e, it]) (fun b hb => ?_) (fun b o _ _ hc e _ => kk' b o hc e) (fun b o _ _ hc e _ => ⟨o.slots, kk' b o hc e⟩) (fun b o hc e n => n) (fun b o hc e => ⟨o, kk' b o hc e⟩)
      (fun _ _ e => e) (fun _ _ _ e => e) (fun b ps e => ⟨#[], by rw [e]; simp⟩) (fun m hm => ?_) (fun b u e => ?_) I.bare
    · obtain ⟨_, f1, _, f3, f4, f5⟩ := hf b hb
      exact ⟨f3, f1, f4, f5⟩
    · obtain ⟨o, es, ep, ho, rr⟩ := hm
      exact ⟨o, es, ep, kk' _ o (fun z => (hf _ z).2.1 rfl) ho, rr⟩
    · refine (I.hok b u e).stay (fun d v hd q => kk' d v ?_ q) (fun _ q => q) fun _ _ q => q
      rcases hd with rfl | hd
      · exact nw _ _ e
      · exact nw _ _ hd
  self := fun A i s Q E st q => by
    obtain ⟨⟨old, he⟩, _⟩ := st
    exact wpAny_pyIter_enum he q
section
variable {X : Cx}
def iEnumT (K : PySem.W.Frag) (ta : TA) : TI := fun σ H R => ta σ H fun vs H1 => ∃ a, vs = [.ref a] ∧ (∃ xs, SqT K H1 a xs) ∧ R (ItE K a) H1
theorem pi_enumT {K : PySem.W.Frag} {a : Expr} {ta : TA} {p pos tpos : Pos} {elts : List Expr} {kk : Nat} (hK : X.K = K) (hg : Gl X "enumerate") (hm : X.mg "enumerate" = none) (ha : PA X [a] ta) (hs : starEach [a] X.env = [(false, eval a X.env)] := by rfl) :
    PI X (.Tuple elts kk tpos) (.Call (.Name "enumerate" p) [a] [] pos) (iEnumT K ta) := by
  subst hK
  intro pins s σ H R I h
  refine Call_ (ld_blt I hg hm bt_enumerate (PyProof.Rows.callWith_type1 (thn (ha pos pins s σ H _ I h) fun us s1 ⟨vs, H1, I1, r1, q1⟩ => ?_) hs rfl))
  obtain ⟨ad, e, ⟨xs, hx⟩, q⟩ := q1
  subst e
  obtain ⟨u, rfl, ru⟩ := vals1 r1
  cases ru
  obtain ⟨its, rv, pt, hz⟩ := I1.tuple hx
  refine call_enumT (vs := its.toArray) pt fun h' he hi hk => ?_
  have I2 : Inv X pins σ H1 { s1 with heap := h' } := I1.kept (t' := s1.toks) hk
  refine wpAny_pyIter_enum he ⟨s1.heap.objs.size + 1, [s1.heap.objs.size + 1, s1.heap.objs.size], _, _, H1, rfl, I2, turn_enumT ad (s1.heap.objs.size + 1) s1.heap.objs.size (Nat.succ_ne_self _), ⟨⟨.none, he⟩, hi⟩, fun b hb => ?_, q⟩
  have hb' : s1.heap.objs.size ≤ b := by
    rcases List.mem_cons.mp hb with rfl | hb
    · omega
    · rw [List.mem_singleton.mp hb]; exact Nat.le_refl _
  exact I1.fpOk (H' := H1) hb' (I1.hok.fresh hb')
theorem qpi_enumT {K : PySem.W.Frag} {a : Expr} {ta : TA} {p pos tpos : Pos} {elts : List Expr} {kk : Nat} (hK : X.K = K) (hg : Gl X "enumerate") (hm : X.mg "enumerate" = none) (ha : QA X [a] ta) (hs : starEach [a] X.env = [(false, eval a X.env)] := by rfl) :
    QI X (.Tuple elts kk tpos) (.Call (.Name "enumerate" p) [a] [] pos) (iEnumT K ta) := ⟨pi_enumT hK hg hm ha.h hs⟩
end
end L2
set_option Elab.async false
set_option linter.all false
set_option maxRecDepth 100000
set_option maxHeartbeats 4000000
namespace L2
open PySem PySem.Spec PyProof.Rows
section
variable {X : Cx}
def rAddX : R2 := fun x y H Q => ∃ a b xs ys, x = .ref a ∧ y = .ref b ∧ H a = some (.tup xs) ∧ H b = some (.tup ys) ∧ xs.length + ys.length ≤ sizeLine ∧ ∀ p H', Kp [] H H' → H' p = some (.tup (xs ++ ys)) → Q (.ref p) H'
theorem op_addX : OpR X (binaryOp .Add) rAddX := by
  intro pins s σ H x y v u Q I rx ry h
  obtain ⟨a, b, xs, ys, rfl, rfl, ha, hb, hz, q⟩ := h
  by_cases hx : xs = []
  · subst hx
    cases rx
    cases ry
    obtain ⟨its, r1, p1, _⟩ := I.tuple (SqT.of ha)
    obtain ⟨its2, r2, p2, _⟩ := I.tuple (SqT.of hb)
    cases r1
    obtain ⟨⟨cls, dd, data, sl⟩, ho, hc, n, hd⟩ := id p1
    obtain ⟨⟨cls2, dd2, data2, sl2⟩, ho2, hc2, n2, hd2⟩ := id p2
    simp only at hc hd hc2 hd2
    subst hc hd hc2 hd2
    exact concat_meets ⟨_, ho, rfl⟩ ⟨_, ho2, rfl⟩ noFill_tuple_add seq_tuple_add PySem.F.slot_tuple_add PySem.F.entry_tuple_add (PySem.F.args_tuple_add_2 _ _)
      (HT.tuple_add0 a b its2.toArray n n2 dd dd2 sl sl2) ⟨ho, ho2, .ref b, H, I, rfl, q b H (Kp.refl _ _) (by simpa using hb)⟩
  · exact op_catT pins s σ H _ _ v u Q I rx ry ⟨a, b, xs, ys, rfl, rfl, SqT.of ha, SqT.of hb, hx, hz, fun e => q a H (Kp.refl _ _) (by rw [e, List.append_nil]; exact ha), fun e p hp => q p _ ((Kp.refl [] H).new hp) upd_same⟩
end
end L2
set_option Elab.async false
set_option linter.all false
set_option maxRecDepth 100000
set_option maxHeartbeats 4000000
namespace L2
open PySem PySem.Spec PyProof.Rows
section
variable {prog : Program} {w : World} {A : Around} {E : Value → Shared → Prop} {s : Shared} {i1 i2 : Addr} {f1 f2 : List Addr} {n1 n2 : Nat} {P1 P2 : Nat → Value → Prop} {S1 S2 : Nat → Heap → Prop}
end
section
variable {X : Cx}
end
end L2
set_option Elab.async false
set_option linter.all false
set_option maxRecDepth 100000
set_option maxHeartbeats 4000000
namespace L2
open PySem PySem.Spec PyProof.Rows
section
variable {prog : Program} {w : World} {A : Around} {E : Value → Shared → Prop} {s : Shared} {i1 i2 : Addr} {f1 f2 : List Addr} {n1 n2 : Nat} {P1 P2 : Nat → Value → Prop} {S1 S2 : Nat → Heap → Prop}
end
section
end
section
variable {P : Program} {w : World} {K : PySem.W.Frag}
end
section
variable {X : Cx}
end
end L2
set_option Elab.async false
set_option linter.all false
set_option maxRecDepth 100000
set_option maxHeartbeats 4000000
namespace L2
open PySem PySem.Spec PyProof.Rows
section
variable {X : Cx}
def nmS (i : Int) : Str := Str.ofString (toString i)
theorem log_small {i : Int} (h0 : 0 ≤ i) (h : i < 1000000) : i.natAbs.log2 < 1920 := by
  by_cases z : i.natAbs = 0
  · rw [z]; decide
  · have b : (1000000 : Nat) < 2 ^ 20 := by decide
    have hb : i.natAbs < 2 ^ 20 := by omega
    have := (Nat.log2_lt (k := 20) z).mpr hb
    omega
end
end L2
set_option Elab.async false
set_option linter.all false
set_option maxRecDepth 100000
set_option maxHeartbeats 4000000
namespace L2
open PySem PySem.Spec PyProof.Rows
section
variable {X : Cx}
end
end L2
set_option Elab.async false
set_option linter.all false
set_option maxRecDepth 100000
set_option maxHeartbeats 4000000
namespace L2
open PySem PySem.Spec PyProof.Rows
section
variable {P : Program} {w : World} {A : Around} {R : Result → Shared → Prop} {I : Addr} {fp wr : List Addr} {n : Nat} {Pv : Nat → Value → Prop} {St : Nat → Heap → Prop}
end
section
variable {X : Cx}
end
end L2
set_option Elab.async false
set_option linter.all false
set_option maxRecDepth 100000
set_option maxHeartbeats 4000000
namespace L2
open PySem PySem.Spec PyProof.Rows
section
end
section
variable {P : Program} {w : World} {K : PySem.W.Frag}
end
section
variable {X : Cx}
def rIndexD : V → List V → Hp → VK → Prop := fun x vs H Q => match x, vs with
  | .ref l, [y] => ∃ (xs : List V) (ds : List PyData) (d : PyData) (j : Nat), H l = some (.lst xs) ∧ Reps H xs ds ∧ Rep H y d ∧ PyData.canLayAll0 ds = true ∧ d.canLay0 = true ∧ PyData.depthAll ds ≤ 40 ∧ (∃ e, ds[j]? = some e ∧ PyData.eqv e d = true) ∧
      (∀ m e, m < j → ds[m]? = some e → PyData.eqv e d = false) ∧ Q (.int (j : Int)) H
  | _, _ => False
theorem mt_indexD (hu : X.A.units + 64 < cLine) : MtM X "list.index" rIndexD := by
  intro pins s σ H x vs v us Q I rx rv h
  unfold rIndexD at h
  split at h
  · rename_i l y
    obtain ⟨xs, ds, d, j, e, hr, hy, hcs, hcd, hdp, ⟨ej, hj, hit⟩, hno, q⟩ := h
    cases rx
    obtain ⟨u, rfl, ru⟩ := rv.one
    obtain ⟨z, its, n, r, hl, eo⟩ := I.lstM e
    obtain ⟨as, ra⟩ := hr.reads I r
    obtain ⟨bs, rb⟩ := hy.reads I ru
    have hm := SeqAt.readsAll_map ds its as hcs ra
    have hlen : its.length = ds.length := by rw [← hm, List.length_map]
    have hjl : j < ds.length := (List.getElem?_eq_some_iff.mp hj).1
    have at' : ∀ m (hm' : m < its.toArray.size), ds[m]? = some (SeqAt.readOf s.heap its.toArray[m]) := fun m hm' => by
      rw [← hm, List.getElem?_map]
      have : its[m]? = some its.toArray[m] := by simp
      rw [this]
      rfl
    have hs : sizeLine = 16777216 := sizeLine_eq
    have hjs : j < its.toArray.size := by rw [List.size_toArray]; omega
    have hxl : xs.length = its.length := r.length
    have hz : xs.length ≤ sizeLine := z
    refine call_meets F.slot_list_index ⟨_, eo, rfl⟩ F.entry_list_index (F.args_list_index_2 _ _) (SeqAt.list_indexAt l its.toArray n none #[] u (fun y => PyData.eqv (SeqAt.readOf s.heap y) d) j hjs (by omega) ?_ ?_) ⟨eo, ?_, ?_⟩
    · have := at' j hjs
      rw [hj] at this
      rw [← Option.some.inj this]
      exact hit
    · intro m hm' hlt
      exact hno m _ hlt (at' m hm')
    · refine SeqAt.items_eqAt (by simpa using ra) rb hcs hcd ?_
      omega
    · exact ⟨.int (j : Int), H, I.tok _, ⟨_, rfl⟩, q⟩
  · exact h.elim
end
end L2
set_option Elab.async false
set_option linter.all false
set_option maxRecDepth 100000
set_option maxHeartbeats 4000000
namespace L2
open PySem PySem.Spec PyProof.Rows
end L2
set_option Elab.async false
set_option linter.all false
set_option maxRecDepth 100000
set_option maxHeartbeats 4000000
namespace L2
open PySem PySem.Spec PyProof.Rows
section
variable {X : Cx} {pins : List (Addr × Obj)} {σ : L2.St} {H : Hp} {s : Shared} {scope : Scope} {Nc : List Str} {js : List (Option Nat)} {fp : List Addr}
end
section
variable {X : Cx} {scope : Scope} {Nc : List Str} {js : List (Option Nat)} {elt tg iter : Expr} {pos : Pos} {wi : TI} {g : TG} {te : TE}
end
end L2
set_option Elab.async false
set_option linter.all false
set_option maxRecDepth 100000
set_option maxHeartbeats 4000000
namespace L2
open PySem PySem.Spec PyProof.Rows
section
variable {X : Cx} {scope : Scope} {Nc : List Str} {js : List (Option Nat)} {elt tg iter : Expr} {pos : Pos} {wi : TI} {g : TG} {te : TE}
end
end L2
set_option Elab.async false
set_option linter.all false
set_option maxRecDepth 100000
set_option maxHeartbeats 4000000
namespace L2
open PySem PySem.Spec PyProof.Rows
section
variable {prog : Program} {w : World} {A : Around} {E : Value → Shared → Prop} {s : Shared}
end
end L2
set_option Elab.async false
set_option linter.all false
set_option maxRecDepth 100000
set_option maxHeartbeats 4000000
namespace L2
open PySem PySem.Spec PyProof.Rows
section
variable {prog : Program} {w : World} {A : Around} {R : Result → Shared → Prop} {I : Addr} {fp wr : List Addr} {G : Array GenState → Array GenState → Prop} {n : Nat} {P : Nat → Value → Prop} {St : Nat → Shared → Prop}
end
section
variable {prog : Program} {w : World} {A : Around} {E : Value → Shared → Prop} {s : Shared}
end
end L2
set_option Elab.async false
set_option linter.all false
set_option maxRecDepth 100000
set_option maxHeartbeats 4000000
namespace L2
open PySem PySem.Spec PyProof.Rows
section
variable {prog : Program} {w : World} {A : Around} {E : Value → Shared → Prop} {s : Shared}
end
end L2
set_option Elab.async false
set_option linter.all false
set_option maxRecDepth 100000
set_option maxHeartbeats 4000000
namespace L2
open PySem PySem.Spec PyProof.Rows
section
variable {prog : Program} {w : World} {A : Around} {E : Value → Shared → Prop} {s : Shared}
end
end L2
set_option Elab.async false
set_option linter.all false
set_option maxRecDepth 100000
set_option maxHeartbeats 4000000
namespace L2
open PySem PySem.Spec PyProof.Rows
section
variable {prog : Program} {w : World} {A : Around} {E : Value → Shared → Prop} {s : Shared}
end
end L2
set_option Elab.async false
set_option linter.all false
set_option maxRecDepth 100000
set_option maxHeartbeats 4000000
namespace L2
open PySem PySem.Spec PyProof.Rows
section
variable {X : Cx} {pins : List (Addr × Obj)} {σ : L2.St} {H : Hp} {s : Shared}
end
end L2
set_option Elab.async false
set_option linter.all false
set_option maxRecDepth 100000
set_option maxHeartbeats 4000000
namespace L2
open PySem PySem.Spec PyProof.Rows
end L2
set_option Elab.async false
set_option linter.all false
set_option maxRecDepth 100000
set_option maxHeartbeats 4000000
namespace L2
open PySem PySem.Spec PyProof.Rows
end L2
set_option Elab.async false
set_option linter.all false
set_option maxRecDepth 100000
set_option maxHeartbeats 4000000
namespace L2
open PySem PySem.Spec PyProof.Rows
end L2
set_option Elab.async false
set_option linter.all false
set_option maxRecDepth 100000
set_option maxHeartbeats 4000000
namespace L2
open PySem PySem.Spec PyProof.Rows
end L2
set_option Elab.async false
set_option linter.all false
set_option maxRecDepth 100000
set_option maxHeartbeats 4000000
namespace L2
open PySem PySem.Spec PyProof.Rows
end L2
set_option Elab.async false
set_option linter.all false
set_option maxRecDepth 100000
set_option maxHeartbeats 4000000
namespace L2
open PySem PySem.Spec PyProof.Rows
section
variable {prog : Program} {w : World} {A : Around} {E : Value → Shared → Prop} {s : Shared}
end
end L2
set_option Elab.async false
set_option linter.all false
set_option maxRecDepth 100000
set_option maxHeartbeats 4000000
namespace L2
open PySem PySem.Spec PyProof.Rows
section
variable {prog : Program} {w : World} {A : Around} {E : Value → Shared → Prop} {s : Shared}
variable {kf : Addr → List Int} {bd : Nat} {a : Addr} {led : Bool} {ks : List (List Int)} {o : Obj} {es : Array (Int × Value)} {ep : Nat} {t : SetTable} {L : List (Nat × (Int × Value))}
end
end L2
set_option Elab.async false
set_option linter.all false
set_option maxRecDepth 100000
set_option maxHeartbeats 4000000
namespace L2
open PySem PySem.Spec PyProof.Rows
section
variable {prog : Program} {w : World} {A : Around} {E : Value → Shared → Prop} {s : Shared}
variable {kf : Addr → List Int} {bd : Nat} {a : Addr} {led : Bool} {ks : List (List Int)} {o : Obj} {es : Array (Int × Value)} {ep : Nat} {t : SetTable} {L : List (Nat × (Int × Value))}
end
end L2
set_option Elab.async false
set_option linter.all false
set_option maxRecDepth 100000
set_option maxHeartbeats 4000000
namespace L2
open PySem PySem.Spec PyProof.Rows
section
variable {N : Nat} {r : Array Nat} (hN : 0 < N) (hr : ∀ x ∈ r.toList, x < N)
include hN hr
omit hN hr in
end
section
variable {prog : Program} {w : World} {A : Around} {E : Value → Shared → Prop} {s : Shared}
end
end L2
set_option Elab.async false
set_option linter.all false
set_option maxRecDepth 100000
set_option maxHeartbeats 4000000
namespace L2
open PySem PySem.Spec PyProof.Rows
section
variable {prog : Program} {w : World} {A : Around} {E : Value → Shared → Prop} {s : Shared}
end
end L2
set_option Elab.async false
set_option linter.all false
set_option maxRecDepth 100000
set_option maxHeartbeats 4000000
namespace L2
open PySem PySem.Spec PyProof.Rows
section
variable {prog : Program} {w : World} {A : Around} {R : Result → Shared → Prop} {I S : Addr} {fp wr : List Addr} {n : Nat} {P : Nat → Value → Prop} {St : Nat → Heap → Prop}
end
section
variable {prog : Program} {w : World} {A : Around} {E : Value → Shared → Prop} {s : Shared}
end
end L2
set_option Elab.async false
set_option linter.all false
set_option maxRecDepth 100000
set_option maxHeartbeats 4000000
namespace L2
open PySem PySem.Spec PyProof.Rows
section
variable {prog : Program} {w : World} {A : Around} {E : Value → Shared → Prop} {s : Shared}
end
end L2
set_option Elab.async false
set_option linter.all false
set_option maxRecDepth 100000
set_option maxHeartbeats 4000000
namespace L2
open PySem PySem.Spec PyProof.Rows
section
variable {prog : Program} {w : World} {A : Around} {E : Value → Shared → Prop} {s : Shared}
variable {I a : Addr} {o : Obj} {es : Array (Int × Value)} {ep : Nat} {t : SetTable}
end
end L2
set_option Elab.async false
set_option linter.all false
set_option maxRecDepth 100000
set_option maxHeartbeats 4000000
namespace L2
open PySem PySem.Spec PyProof.Rows
section
variable {prog : Program} {w : World} {A : Around} {E : Value → Shared → Prop} {s : Shared}
variable {a : Addr} {o : Obj} {es : Array (Int × Value)} {ep : Nat} {t : SetTable}
end
end L2
set_option Elab.async false
set_option linter.all false
set_option maxRecDepth 100000
set_option maxHeartbeats 4000000
namespace L2
open PySem PySem.Spec PyProof.Rows
section
variable {X : Cx} {pins : List (Addr × Obj)} {σ : L2.St} {H : Hp} {s : Shared}
end
end L2
set_option Elab.async false
set_option linter.all false
set_option maxRecDepth 100000
set_option maxHeartbeats 4000000
namespace L2
open PySem PySem.Spec PyProof.Rows
end L2
set_option Elab.async false
set_option linter.all false
set_option maxRecDepth 100000
set_option maxHeartbeats 4000000
namespace L2
open PySem PySem.Spec PyProof.Rows
section
variable {prog : Program} {w : World} {A : Around} {E : Value → Shared → Prop} {R : Result → Shared → Prop} {I : Addr} {fp wr : List Addr} {n : Nat} {P : Nat → Value → Prop} {St : Nat → Heap → Prop} {s : Shared}
end
section
variable {X : Cx}
end
end L2
set_option Elab.async false
set_option linter.all false
set_option maxRecDepth 100000
set_option maxHeartbeats 4000000
namespace L2
open PySem PySem.Spec PyProof.Rows
section
variable {X : Cx}
end
end L2
set_option Elab.async false
set_option linter.all false
set_option maxRecDepth 100000
set_option maxHeartbeats 4000000
namespace L2
open PySem PySem.Spec PyProof.Rows
section
variable {P : Program} {w : World} {H H' : Hp} {h h' : Heap} {a : Addr} {o : Obj} {cs : List Addr}
end
section
variable {P : Program} {w : World} {K : PySem.W.Frag} {mg : Str → Option Value} {base : Heap} {k : Nat} {f c' : Addr} {name qual : Str} {params : Arguments} {body : Expr} {scope : Scope} {pm ct : Value} {ps fs : List Str} {cl : List (Str × Addr)} {sp : Sp}
end
end L2
set_option Elab.async false
set_option linter.all false
set_option maxRecDepth 100000
set_option maxHeartbeats 4000000
namespace L2
open PySem PySem.Spec PyProof.Rows
section
variable {X : Cx}
variable {pins : List (Addr × Obj)} {σ : St} {H : Hp} {s : Shared}
end
end L2
set_option Elab.async false
set_option linter.all false
set_option maxRecDepth 100000
set_option maxHeartbeats 4000000
namespace L2
open PySem PySem.Spec PyProof.Rows
section
variable {X : Cx}
end
end L2
set_option Elab.async false
set_option linter.all false
set_option maxRecDepth 100000
set_option maxHeartbeats 4000000
namespace L2
open PySem PySem.Spec PyProof.Rows
end L2
set_option Elab.async false
set_option linter.all false
set_option maxRecDepth 100000
set_option maxHeartbeats 4000000
namespace L2
open PySem PySem.Spec PyProof.Rows
def KDict (P : Program) (w : World) (K : PySem.W.Frag) (a : Addr) (kvs : List (Key × V)) : Prop := ∀ h : Heap, K.In h → ∃ vs, KV kvs vs ∧ h.DictOf (mixKind P w) a vs
abbrev entS (w : World) (p : Str × Tok × Value) : DictEntry := { hash := PyData.keyHash w.params p.1, key := .str p.1 p.2.1, val := p.2.2 }
theorem KDict.of {P : Program} {w : World} {K : PySem.W.Frag} {a : Addr} {kvs : List (Key × V)} {l : List (Str × Tok × Value)} {es : Array DictEntry} {ep : Nat} (lk : K.lookup a = some { cls := .type "dict", data := .dict es ep }) (he : es.toList = l.map (entS w))
    (hv : KV kvs (l.map fun p => ((Sum.inr p.1 : Key), p.2.2))) (nd : (kvs.map Prod.fst).Nodup) : KDict P w K a kvs := fun h hK => by
  refine ⟨l.map fun p => ((Sum.inr p.1 : Key), p.2.2), hv, _, es, ep, hK _ _ lk, ⟨rfl, rfl, rfl⟩, rfl, fun e hm => ?_, ?_, ?_⟩
  · have : e ∈ es.toList := Array.mem_toList_iff.mpr hm
    rw [he] at this
    obtain ⟨p, _, rfl⟩ := List.mem_map.mp this
    exact ⟨.inr p.1, by simp [mixKind, keyIs, Value.isStrOf], rfl⟩
  · rw [he]
    clear he hv nd lk
    induction l with
    | nil => exact .nil
    | cons p l ih => exact .cons (by simp [mixKind, keyIs, Value.isStrOf]) rfl ih
  · have : ∀ {kvs : List (Key × V)} {vs : List (Key × Value)}, KV kvs vs → vs.map Prod.fst = kvs.map Prod.fst := fun {kvs vs} r => by
      induction r with
      | nil => rfl
      | cons h _ ih => rw [List.map_cons, List.map_cons, ih, h.1]
    have e2 := this hv
    rw [show (List.map (fun x => x.1) (List.map (fun p : Str × Tok × Value => ((Sum.inr p.1 : Key), p.2.2)) l)) = _ from e2]
    exact nd
section
variable {X : Cx} {o i : Expr} {td ty : TE} {pos : Pos}
def tDGetK (P : Program) (w : World) (K : PySem.W.Frag) (td ty : TE) : TE := fun σ H Q => td σ H fun x H1 => ty σ H1 fun y H2 => ∃ a kvs k v, x = .ref a ∧ KDict P w K a kvs ∧ y = kV k ∧ valV kvs k = some v ∧ Q v H2
theorem pe_dgetK {P : Program} {w : World} {K : PySem.W.Frag} (hP : X.prog = P) (hw : X.w = w) (hK : X.K = K) (ho : PE X o td) (hi : PE X i ty) (hs : NoSl i) : PE X (.Subscript o i pos) (tDGetK P w K td ty) := by
  subst hP; subst hw; subst hK
  intro pins s σ H Q I h
  refine subD_of PySem.F.slot_dict_getitem.lookup hs (thn (ho pins s σ H _ I h) fun u s1 ⟨x, H1, I1, rx, q1⟩ => thn (hi pins s1 σ H1 _ I1 q1) fun iv s2 ⟨y, H2, I2, ry, a, kvs, k, v, ex, D, ey, l, q2⟩ => ?_)
  subst ex
  subst ey
  obtain rfl : u = Value.ref a := rx
  obtain ⟨vs, rel, dd⟩ := D _ I2.kIn
  obtain ⟨w', hw, rw'⟩ := RelO.some_of (v := v) (o := valueAt vs k) (by rw [← l]; exact rel.val k)
  exact ⟨dd.typeIs, wpAny_getItem_of (kV_is ry) dd.mapOf hw ⟨v, H2, I2.tok _, rw', q2⟩⟩
theorem qpe_dgetK {P : Program} {w : World} {K : PySem.W.Frag} (hP : X.prog = P) (hw : X.w = w) (hK : X.K = K) (ho : QE X o td) (hi : QE X i ty) (hs : NoSl i) : QE X (.Subscript o i pos) (tDGetK P w K td ty) := ⟨pe_dgetK hP hw hK ho.h hi.h hs⟩
theorem qpe_dget2 {e f : Expr} {apos cpos : Pos} {tx : TE} (hu : X.A.units + 1 < cLine) (ho : QE X o td) (he : QE X e ty) (hf : QE X f tx) (m : M2 X o "get" apos e f cpos) : QE X (.Call (.Attribute o "get" apos) [e, f] [] cpos) (tDGet2 td ty tx) := ⟨pe_dget2 hu ho.h he.h hf.h m⟩
structure QPP (X : Cx) (pos : Pos) (keys : List (Option Expr)) (values : List Expr) (trs : List (TE × TE)) : Prop where
  h : PPs X pos keys values trs
theorem qpps_nil {pos : Pos} : QPP X pos [] [] [] := ⟨pps_nil⟩
theorem qpps_cons {pos : Pos} {k v : Expr} {ks : List (Option Expr)} {vs : List Expr} {tk tv : TE} {trs : List (TE × TE)} (hk : QE X k tk) (hv : QE X v tv) (hr : QPP X pos ks vs trs) : QPP X pos (some k :: ks) (v :: vs) ((tk, tv) :: trs) := ⟨pps_cons hk.h hv.h hr.h⟩
theorem qpe_disp {pos : Pos} {keys : List (Option Expr)} {values : List Expr} {trs : List (TE × TE)} (h : QPP X pos keys values trs) (hall : keys.all (·.isSome) = true := by rfl) (hl : keys.length = values.length := by rfl) (h0 : keys ≠ [] := by nofun) (h15 : keys.length ≤ 15 := by decide) : QE X (.Dict keys values pos) (tDisp trs) := ⟨pe_disp h.h hall hl h0 h15⟩
end
end L2
set_option Elab.async false
set_option linter.all false
set_option maxRecDepth 100000
set_option maxHeartbeats 4000000
namespace L2
open PySem PySem.Spec PyProof.Rows
section
variable {X : Cx} {tg : Expr}
end
end L2
set_option Elab.async false
set_option linter.all false
set_option maxRecDepth 100000
set_option maxHeartbeats 4000000
namespace L2
open PySem PySem.Spec PyProof.Rows
section
variable {X : Cx}
end
section
variable {P : Program} {w : World} {K : PySem.W.Frag}
end
section
variable {X : Cx}
end
end L2
set_option Elab.async false
set_option linter.all false
namespace L2
open PySem PySem.Spec PyProof.Rows
section
variable {env : Env} {es : List Expr}
end
end L2
set_option Elab.async false
set_option linter.all false
set_option maxRecDepth 100000
set_option maxHeartbeats 4000000
namespace L2
open PySem PySem.Spec PyProof.Rows
section
variable {X : Cx} {o e f : Expr} {apos cpos : Pos} {td ty tx : TE}
def tDisp0 : TE := fun _ H Q => ∀ p, H p = none → Q (.ref p) (upd H p (.dK []))
theorem pe_disp0 {pos : Pos} : PE X (.Dict [] [] pos) tDisp0 := by
  intro pins s σ H Q I q
  have hn := I.hok.fresh (Nat.le_refl s.heap.objs.size)
  have I1 := I.laid (a := s.heap.objs.size) (o := .dK []) (h' := s.heap.push { cls := .type "dict", data := .dict #[] }) (t' := s.toks) (fun _ _ q => Heap.get?_push_of_some _ q) (Nat.le_refl _) (dk_empty s.heap I.big)
  exact wpAny_Dict_empty ⟨.ref s.heap.objs.size, _, I1, rfl, q _ hn⟩
theorem qpe_disp0 {pos : Pos} : QE X (.Dict [] [] pos) tDisp0 := ⟨pe_disp0⟩
end
end L2
set_option Elab.async false
set_option linter.all false
set_option maxRecDepth 100000
set_option maxHeartbeats 4000000
namespace L2
open PySem PySem.Spec PyProof.Rows
section
variable {X : Cx} {pins : List (Addr × Obj)} {σ : St} {H : Hp} {s : Shared}
end
end L2
set_option Elab.async false
set_option linter.all false
set_option maxRecDepth 100000
set_option maxHeartbeats 4000000
namespace L2
open PySem PySem.Spec PyProof.Rows
section
variable {P : Program} {w : World} {K : PySem.W.Frag} {mg : Str → Option Value} {base : Heap} {x qual : Str} {st : Stmt} {f td : Addr} {fd : FuncData} {N ps : List Str} {k : Nat} {sp : Sp}
end
end L2
set_option Elab.async false
set_option linter.all false
set_option maxRecDepth 100000
set_option maxHeartbeats 4000000
namespace L2
open PySem PySem.Spec PyProof.Rows
section
variable {X : Cx} {o e : Expr} {apos cpos : Pos} {td ty : TE}
end
end L2
set_option Elab.async false
set_option linter.all false
set_option maxRecDepth 100000
set_option maxHeartbeats 4000000
namespace L2
open PySem PySem.Spec PyProof.Rows
section
variable {P : Program} {w : World} {K : PySem.W.Frag}
end
section
variable {X : Cx}
end
end L2
set_option Elab.async false
set_option linter.all false
set_option maxRecDepth 100000
set_option maxHeartbeats 4000000
namespace L2
open PySem PySem.Spec PyProof.Rows
section
variable {prog : Program} {w : World} {J : Type} [DecidableEq J] {knd : HeapKind prog w J} {A : Around} {E : Value → Shared → Prop} {s : Shared} {d a : Addr} {k : J} {xs : List (J × Addr × Value)} {x : Value}
theorem more_dictOfH {h : Heap} {o : Obj} {es : Array DictEntry} {ep : Nat} (ho : h.get? d = some o) (hc : o.ExactDict) (hd : o.data = .dict es ep) (he : es.toList = xs.map (entryOfKey knd)) (his : ∀ x ∈ xs, knd.is h x.1 x.2.1) (hn : (xs.map (·.1)).Nodup)
    (hk : knd.is h k a) (no : ∀ (j : Nat) (p : Addr × Value), xs[j]? ≠ some (k, p)) : (h.update d (Obj.mapDictKeys fun es => es.push ⟨knd.hash k, .ref a, x⟩)).DictOfH knd d (xs ++ [(k, a, x)]) := by
  have kp : ∀ {k' a'}, knd.is h k' a' → knd.is (h.update d (Obj.mapDictKeys fun es => es.push ⟨knd.hash k, .ref a, x⟩)) k' a' := fun q => knd.keeps q ho hd (Heap.SameBut.update ..)
  refine ⟨_, _, ep + 1, Heap.get?_update_self _ ho (Obj.isFreed_of_dict (Obj.data_mapDictKeys hd _)), hc.mapDictKeys _, Obj.data_mapDictKeys hd _, ?_, fun y hy => ?_, ?_⟩
  · simp [he, entryOfKey]
  · rcases List.mem_append.mp hy with q | q
    · exact kp (his y q)
    · cases List.mem_singleton.mp q; exact kp hk
  · have q : k ∉ xs.map (·.1) := not_mem_keys_of_get no
    rw [List.map_append]
    exact List.nodup_append.mpr ⟨hn, by simp, fun u hu v hv e => q (by simp at hv; rw [← hv, ← e]; exact hu)⟩
theorem dsd_heap {Q : Value → Shared → Prop} (hu : knd.room A) (hk : knd.is s.heap k a) (hm : s.heap.DictOfH knd d xs) (hz : xs.length ≤ sizeLine) (h1 : ∀ p, atKey xs k = some p → Q p.2 { s with toks := s.toks + knd.draws k })
    (h2 : atKey xs k = none → ∀ h', h'.DictOfH knd d (xs ++ [(k, a, x)]) → Heap.SameBut d s.heap h' → Q x { s with heap := h', toks := s.toks + knd.draws k }) : wpAny (model prog w) A (dictSetDefault d (.ref a) x) Q E s := by
  obtain ⟨o, es, ep, ho, hc, hd, he, his, hn⟩ := hm
  unfold dictSetDefault
  try with_reducible refine wpAny_holding ?_
  refine wpAny_bind (knd.pyHash hu hk (wpAny_bind (wpAny_dictFind_heap (s := { s with toks := s.toks + knd.draws k }) hu hk ho hd he his hn (fun no => ?_) fun j p hj => ?_)))
  · refine wpAny_bind (wpAny_rule (wpAny_bind (wpAny_updateDictKeys (hz := by rw [size_of_entries he]; exact hz) (s := { s with toks := s.toks + knd.draws k }) ho hd (wpAny_pure (h2 (atKey_none_of_get no) _ (more_dictOfH ho hc hd he his hn hk no) (Heap.SameBut.update ..))))))
  · refine wpAny_bind (wpAny_dictEntries (s := { s with toks := s.toks + knd.draws k }) ho hd ?_)
    rw [entry_at he j, hj]
    exact wpAny_bind (wpAny_rule (wpAny_pure (h1 p (atKey_of_get hn hj))))
theorem meets_sdH (hd : (d == sysModules) = false) : MeetsIn prog w (Builtin.«dict.setdefault» ⟨[.ref d, .ref a, x], []⟩) fun A R s => knd.room A.in1 ∧ ∃ (k : J) (xs : List (J × Addr × Value)), knd.is s.heap k a ∧ s.heap.DictOfH knd d xs ∧ xs.length ≤ sizeLine ∧
    (∀ p, atKey xs k = some p → R (.ok (.ret p.2)) { s with toks := s.toks + knd.draws k }) ∧ (atKey xs k = none → ∀ h', h'.DictOfH knd d (xs ++ [(k, a, x)]) → Heap.SameBut d s.heap h' → R (.ok (.ret x)) { s with heap := h', toks := s.toks + knd.draws k }) := by
  refine .of_wp fun A R s ⟨hu, k, xs, hk, hm, hz, h1, h2⟩ => ?_
  show wpAny _ _ (Builtin.Dict.keyAndDefault _ _ >>= _) _ _ s
  refine wpAny_bind ?_
  unfold Builtin.Dict.keyAndDefault
  refine wpAny_bind (wpAny_notOrdered_dict hm.typeIs (wpAny_pure ?_))
  show wpAny _ _ (if (d == sysModules) = true then _ else _) _ _ _
  rw [hd, if_neg (by decide)]
  exact wpAny_bind (dsd_heap hu hk hm hz (fun p hp => wpAny_pure ⟨_, rfl, h1 p hp⟩) fun hn h' dd hs => wpAny_pure ⟨_, rfl, h2 hn h' dd hs⟩)
end
section
variable {X : Cx} {o e f : Expr} {apos cpos : Pos} {td ty tx : TE}
def tDSetT (td ty tx : TE) : TE := fun σ H Q => td σ H fun x H1 => ∃ a, x = .ref a ∧ IsD H1 a ∧ ty σ H1 fun y H2 => tx σ H2 fun z H3 => ∃ kvs k b, H3 a = some (.dT kvs) ∧ y = .ref b ∧ H3 b = some (.tup (k.map kV)) ∧ kvs.length < sizeLine ∧
  (∀ v, valV kvs k = some v → Q v H3) ∧ (valV kvs k = none → Q z (upd H3 a (.dT (putK kvs k z))))
theorem pe_dsetT (hu : X.A.units + 1 < cLine) (ho : PE X o td) (he : PE X e ty) (hf : PE X f tx) (m : M2 X o "setdefault" apos e f cpos) : PE X (.Call (.Attribute o "setdefault" apos) [e, f] [] cpos) (tDSetT td ty tx) := by
  intro pins s σ H Q I h
  refine wpAny_Call_method m.base m.few m.line PySem.F.plainAttrs_dict PySem.F.slot_dict_setdefault PySem.F.type_dict_setdefault (thn (ho pins s σ H _ I h) fun u s1 ⟨x, H1, I1, rx, a, ex, d, q1⟩ => ?_)
  subst ex
  obtain rfl : u = Value.ref a := rx
  obtain ⟨t1, t2, _⟩ := isD_at I1 d
  refine ⟨t1, t2, ?_⟩
  rw [m.trees]
  refine Calls.callWith_builtin rfl (Calls.evalArgs_plain (Calls.spliced_cons (thn (he pins s1 σ H1 _ I1 q1) fun iv s2 ⟨y, H2, I2, ry, q2⟩ =>
    Calls.spliced_cons (thn (hf pins s2 σ H2 _ I2 q2) fun fv s3 ⟨z, H3, I3, rz, kvs, k, b, ea, ey, eb, hl, q3, q4⟩ => Calls.spliced_nil ?_))))
  subst ey
  cases (show iv = Value.ref b from ry)
  obtain ⟨zz, hd, xs, rel, dd⟩ := dt_of I3.hok ea
  have hz : xs.length ≤ sizeLine := by rw [← Paired.length rel]; exact zz
  have va : RelO (valV kvs k) ((atKey xs k).map (·.2)) := rel.val k
  refine call_meetsIn PySem.F.slot_dict_setdefault dd.typeIs PySem.F.entry_dict_setdefault (PySem.F.args_dict_setdefault_3 _ _ _) (meets_sdH (knd := tupleKind (mixKind X.prog X.w)) hd) ⟨tupleKind_room_in1 hu, k, xs, key_of I3.hok eb, dd, hz, fun p hp => ?_, fun hn h' dd' hs => ?_⟩
  · rw [hp] at va
    cases l : valV kvs k with
    | none => rw [l] at va; cases va
    | some v' =>
      rw [l] at va
      obtain ⟨w', hw, rw'⟩ := RelO.some_of va
      cases hw
      exact ⟨v', H3, I3.tok _, rw', q3 v' l⟩
  · rw [hn] at va
    have ln : valV kvs k = none := by
      cases l : valV kvs k with
      | none => rfl
      | some v' => rw [l] at va; obtain ⟨w', hw, _⟩ := RelO.some_of va; cases hw
    have hlp : (putK kvs k z).length ≤ sizeLine := by have := length_putK kvs k z; omega
    have rel' := rel.put k eb rz
    rw [storedH_new hn] at rel'
    obtain ⟨q, es, ep, hq, g2, g3, g4, _, g5⟩ := dd'
    refine ⟨z, _, d_write (ob := .dT (putK kvs k z)) I3 (by rw [ea]; exact True.intro) hs ⟨q, hq⟩ ⟨hlp, hd, _, rel'.keeps fun c ys ec => ?_, q, es, ep, hq, g2, g3, g4, g5⟩, rz, q4 ln⟩
    rw [upd_ne (ne_of ec ea fun z => nomatch z)]
    exact ec
theorem qpe_dsetT (hu : X.A.units + 1 < cLine) (ho : QE X o td) (he : QE X e ty) (hf : QE X f tx) (m : M2 X o "setdefault" apos e f cpos) : QE X (.Call (.Attribute o "setdefault" apos) [e, f] [] cpos) (tDSetT td ty tx) := ⟨pe_dsetT hu ho.h he.h hf.h m⟩
theorem qpe_dnewT {pos : Pos} : QE X (.Dict [] [] pos) tDNewT := ⟨pe_dnewT⟩
end
end L2
set_option Elab.async false
set_option linter.all false
set_option maxRecDepth 100000
set_option maxHeartbeats 4000000
namespace L2
open PySem PySem.Spec PyProof.Rows
section
variable {X : Cx}
def rIxD : R2 := fun x y H Q => ∃ a v, x = .ref a ∧ DGet H a y (some v) ∧ Q v H
theorem ix_D (hu : X.A.units + 1 < cLine) : IxR X rIxD := by
  intro value slice pins s σ H x y v u Q I rx ry h hs
  obtain ⟨a, z, rfl, g, q⟩ := h
  cases rx
  exact tail_any (dict_typeIs I g) PySem.F.slot_dict_getitem.lookup (d_getItem hu I g ry fun w' s3 I3 rw' => ⟨z, H, I3, rw', q⟩) hs
theorem ix_UD (hu : X.A.units + 1 < cLine) : IxR X (fun x y H Q => rIxU x y H Q ∨ rIxD x y H Q) := IxR.or ix_U (ix_D hu)
def FzT (H : Hp) (a : Addr) (xs : List V) : Prop := ∃ o : Obj, o.dict = none ∧ H a = some (.frz o (.tup xs))
theorem FzT.sq {K : PySem.W.Frag} {H : Hp} {a : Addr} {xs : List V} (h : FzT H a xs) : SqT K H a xs := let ⟨o, _, e⟩ := h; .inl (.inr ⟨o, e⟩)
theorem FzT.kp {S : List Addr} {H H' : Hp} {a : Addr} {xs : List V} (h : FzT H a xs) (k : Kp S H H') (n : a ∉ S) : FzT H' a xs := let ⟨o, d, e⟩ := h; ⟨o, d, k.old _ _ e n⟩
theorem FzT.at_ {pins : List (Addr × Obj)} {σ : St} {H : Hp} {s : Shared} {a : Addr} {xs : List V} (h : FzT H a xs) (I : Inv X pins σ H s) : ∃ (o : Obj) (its : List Value), s.heap.get? a = some o ∧ o.dict = none ∧ o.cls = .type "tuple" ∧ Vals xs its ∧ IsTup s.heap a its.toArray := by
  obtain ⟨o, d, e⟩ := h
  obtain ⟨g, _, its, r, o', g', c, n, dd⟩ := (show ObjOk X.prog X.w H s.heap a (.frz o (.tup xs)) from I.hok a _ e)
  rw [g] at g'
  cases g'
  exact ⟨o, its, g, d, c, r, o, g, c, n, dd⟩
def rTupleF : List V → Hp → VK → Prop := fun xs H Q => ∃ p ys, xs = [.ref p] ∧ H p = some (.lst ys) ∧ ∀ l H', H l = none → FzT H' l ys → Kp [] H H' → Q (.ref l) H'
theorem call_tupleF : CallR X (.type "tuple") rTupleF := by
  intro pins s σ H xs us Q I r h
  obtain ⟨p, ys, rfl, e, q⟩ := h
  obtain ⟨u, rfl, rx⟩ := vals1 r
  cases rx
  obtain ⟨its, r', pl, hz⟩ := I.list (SqL.of e)
  have hlen := r'.length
  refine call_tuple_list pl.isList (fun h' kp => ?_) (by simp only [List.size_toArray] <;> omega)
  have I1 : Inv X pins σ H { s with heap := h' } := I.kept (t' := s.toks) kp
  have I2 := I1.laid (t' := s.toks) (o := .frz { cls := .type "tuple", data := .seq its.toArray } (.tup ys)) (h' := h'.push { cls := .type "tuple", data := .seq its.toArray }) (fun b o e => Heap.get?_push_of_some _ e) (Nat.le_refl _)
    (show ObjOk X.prog X.w _ _ _ (.frz _ (.tup ys)) from ⟨Heap.get?_push_size _ rfl, hz, its, r', IsTup.new _ _⟩)
  have hf := I1.hok.fresh (Nat.le_refl h'.objs.size)
  exact ⟨.ref h'.objs.size, _, I2, rfl, q _ _ hf ⟨_, rfl, upd_same⟩ ((Kp.refl [] H).new hf)⟩
def rIsF (K : PySem.W.Frag) : List V → Hp → VK → Prop := fun xs H Q => ∃ a ys c b, xs = [.ref a, .ty c] ∧ FzT H a ys ∧ PySem.W.kitOne K (.type "tuple") (.type c) = some b ∧ Q (.bl b) H
theorem call_isF {K : PySem.W.Frag} (hK : X.K = K) : CallR X (.builtin "isinstance") (rIsF K) := by
  subst hK
  intro pins s σ H xs us Q I r h
  obtain ⟨a, ys, c, b, rfl, f, e, q⟩ := h
  obtain ⟨o, its, g, _, oc, _⟩ := f.at_ I
  obtain ⟨u, w', rfl, rx, rc⟩ := vals2 r
  cases rc
  cases rx
  exact PySem.W.kia_one PySem.W.kitx_tuple I.kIn ⟨o, g, oc⟩ e (fun z => nomatch z) fun tk => ⟨.bl b, H, I.tok tk, rfl, q⟩
theorem sq_reads {pins : List (Addr × Obj)} {σ : St} {H : Hp} {s : Shared} {a : Addr} {xs : List V} {ds : List PyData} (I : Inv X pins σ H s) (h : SqT X.K H a xs) (r : Reps H xs ds) : ∃ as, Reads s.heap (.ref a) (.tuple ds) as := by
  obtain ⟨its, rv, ⟨o, e1, e2, n, e4⟩, hz⟩ := I.tuple h
  obtain ⟨as, q⟩ := Reps.reads I r rv
  exact ⟨_, reads_tuple_at e1 e2 e4 (by simpa using q)⟩
def rEqT (K : PySem.W.Frag) : R2 := fun x y H Q => ∃ a b xs ys ds es, x = .ref a ∧ y = .ref b ∧ SqT K H a xs ∧ SqT K H b ys ∧ Reps H xs ds ∧ Reps H ys es ∧ SeqAt.shaped (.tuple ds) = true ∧ SeqAt.shaped (.tuple es) = true ∧ Q (.bl (PyData.eqvAll ds es)) H
theorem op_eqT {K : PySem.W.Frag} (hK : X.K = K) (hu : X.A.units + 64 < cLine) : OpR X (compareOp .Eq) (rEqT K) := by
  subst hK
  intro pins s σ H x y v u Q I rx ry h
  obtain ⟨a, b, xs, ys, ds, es, rfl, rfl, h1, h2, r1, r2, s1, s2, q⟩ := h
  cases rx
  cases ry
  obtain ⟨as, r1⟩ := sq_reads I h1 r1
  obtain ⟨bs, r2⟩ := sq_reads I h2 r2
  exact eq_dataH r1 r2 s1 s2 hu ⟨.bl _, H, I, rfl, by simpa [PyData.eqv] using q⟩
theorem qpi_tup {K : PySem.W.Frag} {tg l : Expr} {tl : TE} (hl : QE X l tl) (hK : X.K = K) : QI X tg l (iTup K tl) := by subst hK; exact ⟨pi_tup hl.h⟩
end
theorem loop_ETs {K : PySem.W.Frag} {a : Addr} {xs : List V} {g : TG} {tb : TS} {D : Ends} {σ : L2.St} {H : Hp} (Pv : Nat → L2.St → Hp → Prop) (h0 : Pv 0 σ H) (hl : ∀ i σ H, i ≤ xs.length → Pv i σ H → SqT K H a xs)
    (hs : ∀ i x σ H T, xs[i]? = some x → Pv i σ H → H T = none → g (.ref T) σ (upd H T (.tup [.int (i : Int), x])) fun σ2 H2 => tb { D with nx := Pv (i + 1), ct := Pv (i + 1), bk := D.nx } σ2 H2) (hd : ∀ σ H, Pv xs.length σ H → D.nx σ H) : LoopR (ItE K a) g tb D σ H := by
  refine ⟨fun i m σ H => m = xs.length - i ∧ i ≤ xs.length ∧ Pv i σ H, ⟨xs.length, by simp, Nat.zero_le _, h0⟩, ?_⟩
  rintro i m σ H ⟨rfl, hi, p⟩
  have q := hl i σ H hi p
  rcases Nat.lt_or_ge i xs.length with hlt | hge
  · refine .inr ⟨⟨xs, xs[i], q, by simp [hlt]⟩, Pv (i + 1), fun σ' H' p' => ⟨xs.length - (i + 1), by omega, rfl, hlt, p'⟩, fun x H' y => ?_⟩
    obtain ⟨T, y', hT, e1, hy, e2⟩ := y
    subst e1 e2
    exact hs i y' σ H T (hy xs q) p hT
  · obtain rfl : i = xs.length := by omega
    exact .inl ⟨⟨xs, q, rfl⟩, hd σ H p⟩
theorem loop_tups {K : PySem.W.Frag} {a : Addr} {xs : List V} {g : TG} {tb : TS} {D : Ends} {σ : L2.St} {H : Hp} (Pv : Nat → L2.St → Hp → Prop) (h0 : Pv 0 σ H) (hl : ∀ i σ H, i ≤ xs.length → Pv i σ H → SqT K H a xs)
    (hs : ∀ i x σ H, xs[i]? = some x → Pv i σ H → g x σ H fun σ2 H2 => tb { D with nx := Pv (i + 1), ct := Pv (i + 1), bk := D.nx } σ2 H2) (hd : ∀ σ H, Pv xs.length σ H → D.nx σ H) : LoopR (Itt K a) g tb D σ H := for_tup Pv h0 hl hs hd
end L2
set_option Elab.async false
set_option linter.all false
set_option maxRecDepth 100000
set_option maxHeartbeats 4000000
namespace L2
open PySem PySem.Spec PyProof.Rows
section
variable {X : Cx} {pins : List (Addr × Obj)} {σ : St} {H : Hp} {s : Shared}
end
section
variable {X : Cx} {tg : Expr}
end
section
variable {H : Hp} {D : Addr} {r : L2.St} {tt : TT} {te : TE} {E : Ends}
end
end L2
set_option Elab.async false
set_option linter.all false
set_option maxRecDepth 100000
set_option maxHeartbeats 4000000
namespace L2
open PySem PySem.Spec PyProof.Rows
section
variable {X : Cx}
def Mono (t : TE) : Prop := ∀ σ H (Q Q' : VK), (∀ v H', Q v H' → Q' v H') → t σ H Q → t σ H Q'
theorem mono_v (i : Nat) : Mono (tVar i) := mono_var
end
end L2
set_option Elab.async false
set_option linter.all false
set_option maxRecDepth 100000
set_option maxHeartbeats 4000000
namespace L2
open PySem PySem.Spec PyProof.Rows
section
variable {X : Cx} {pins : List (Addr × Obj)} {σ : St} {H : Hp} {s : Shared}
end
end L2
set_option Elab.async false
set_option linter.all false
set_option maxRecDepth 100000
set_option maxHeartbeats 4000000
namespace L2
open PySem PySem.Spec PyProof.Rows
section
variable {X : Cx}
end
end L2
set_option Elab.async false
set_option linter.all false
set_option maxRecDepth 100000
set_option maxHeartbeats 4000000
namespace L2
open PySem PySem.Spec PyProof.Rows
section
variable {X : Cx}
def rNotInL : R2 := fun x y H Q => ∃ (a : Addr) (ys : List V) (ds : List PyData) (d : PyData), y = .ref a ∧ H a = some (.lst ys) ∧ Reps H ys ds ∧ Rep H x d ∧ PyData.canLayAll0 ds = true ∧ d.canLay0 = true ∧ PyData.depthAll ds ≤ 40 ∧ Q (.bl (!ds.any fun e => PyData.eqv e d)) H
theorem op_notinL (hu : X.A.units + 64 < cLine) : OpR X (compareOp .NotIn) rNotInL := by
  intro pins s σ H x y v u Q I rx ry h
  obtain ⟨a, ys, ds, d, rfl, e, hl, hp, c1, c2, c3, q⟩ := h
  have hy : Rep H (.ref a) (.list ds) := by
    simp only [Rep]
    exact ⟨a, ys, rfl, e, hl⟩
  obtain ⟨as, r1⟩ := hp.reads I rx
  obtain ⟨bs, r2⟩ := hy.reads I ry
  exact SeqAt.notIn_list_reads r2 r1 c1 c2 (by omega) ⟨.bl _, H, I, rfl, q⟩
end
end L2
set_option Elab.async false
set_option linter.all false
set_option maxRecDepth 100000
set_option maxHeartbeats 4000000
namespace L2
open PySem PySem.Spec PyProof.Rows
section
variable {X : Cx} {K : PySem.W.Frag} {o e value : Expr} {f : Str} {pos pos' tpos : Pos} {ta tv : TE}
theorem qpe_fldK (hK : X.K = K) (he : QE X e ta) (hb : attributeBase e f X.env (eval e X.env) = eval e X.env := by rfl) : QE X (.Attribute e f pos) (tFld K ta f) := by subst hK; exact ⟨pe_fld he.h hb⟩
theorem qps_fld (hK : X.K = K) (ha : QE X o ta) (hv : QE X value tv) (hs : swapsWith value (some (.Attribute o f pos')) pos.line X.env = pure false := by rfl) : QS X (.Assign [.Attribute o f pos'] value pos) (sFld K ta tv f) := by subst hK; exact ⟨ps_fld ha.h hv.h hs⟩
theorem qps_fldaug {op : Operator} {rd : V → V → Hp → VK → Prop} (hK : X.K = K) (ha : QE X o ta) (hv : QE X value tv) (hop : InOp X op rd) : QS X (.AugAssign (.Attribute o f tpos) op value pos) (sFldAug K ta tv rd f) := by subst hK; exact ⟨ps_fldaug ha.h hv.h hop⟩
end
section
variable {X : Cx} {CX : CXT} {k : Nat} {f C : Addr} {fd : FuncData} {ps : List Str} {sp : Sp} {dvs : List V} {ds : List Value} {E : XK} {x m : Str} {p pos apos : Pos} {e o : Expr} {es : List Expr} {ta : TE} {t : TA}
theorem qpe_meth {pl : Sem Bool} (he : QE X o ta) (c : Cls X.K C) (hm : Meth X.K C m f) (F : FnOk X.prog X.w X.K X.mg X.base CX k f fd ps sp) (hr : Room k X.A) (hb : Binds X.K fd ps ds) (hd : Vals dvs ds) (hx : Passes CX X E) (ha : QA X (e :: es) t)
    (hst : starEach (e :: es) X.env = (false, eval e X.env) :: starEach es X.env := by rfl) (hpl : (backTo pos (starEach es X.env)).any (·.1) = false := by rfl)
    (ht : eval (.Call (.Attribute o m apos) (e :: es) [] pos) X.env = (do
      let ov ← eval o X.env
      standAt apos.atName
      let (f, first) ← holding [ov] (getMethod ov m pl)
      callWith pos f first (backTo pos (starEach (e :: es) X.env)) (backToKw pos (keywordEach [] X.env))) := by rfl) :
    QE X (.Call (.Attribute o m apos) (e :: es) [] pos) (tMeth C m sp dvs E ta t) := ⟨pe_meth he.h c hm F hr hb hd hx ha.h hst hpl ht⟩
theorem qpe_make0 (M : Mk X.K C f) (F : FnOk X.prog X.w X.K X.mg X.base CX k f fd ps sp) (hr : Room (k + 1) X.A) (hg : Gl X x) (hm : X.mg x = some (.ref C)) (hb : Binds X.K fd ps ds) (hd : Vals dvs ds) (hx : Passes CX X E)
    (hdb : (x == ("__debug__" : Str)) = false := by decide) : QE X (.Call (.Name x p) [] [] pos) (tMake C sp dvs E tNil) := ⟨pe_make0 M F hr hg hm hb hd hx hdb⟩
end
theorem mono_fld {K : PySem.W.Frag} {a : TE} {f : Str} (ha : Mono a) : Mono (tFld K a f) := fun σ H Q Q' h q => ha σ H _ _ (fun x H1 ⟨a, C, dx, fs, v, e1, e2, e3, e4, e5, q1⟩ => ⟨a, C, dx, fs, v, e1, e2, e3, e4, e5, h _ _ q1⟩) q
section
variable {X : Cx}
def tDInK (P : Program) (w : World) (K : PySem.W.Frag) (ty td : TE) : TE := fun σ H Q => ty σ H fun y H1 => td σ H1 fun x H2 => ∃ a kvs k, x = .ref a ∧ KDict P w K a kvs ∧ (a == sysModules) = false ∧ y = kV k ∧ Q (.bl ((valV kvs k).isSome)) H2
theorem qpc_dinK {P : Program} {w : World} {K : PySem.W.Frag} (hP : X.prog = P) (hw : X.w = w) (hK : X.K = K) {i o : Expr} {ty td : TE} (hi : QE X i ty) (ho : QE X o td) : QC X .In i o (tDInK P w K ty td) := by
  subst hP; subst hw; subst hK
  refine ⟨fun pins s σ H Q I h => ?_⟩
  refine thn (hi.h pins s σ H _ I h) fun iv s1 ⟨y, H1, I1, ry, q1⟩ => thn (ho.h pins s1 σ H1 _ I1 q1) fun u s2 ⟨x, H2, I2, rx, a, kvs, k, ex, D, hs, ey, q2⟩ => ?_
  subst ex
  subst ey
  obtain rfl : u = Value.ref a := rx
  obtain ⟨vs, rel, dd⟩ := D _ I2.kIn
  refine wpAny_in_of (kV_is ry) hs dd.mapOf ?_
  rw [← (rel.val k).isSome_eq]
  exact ⟨.bl _, H2, I2.tok _, rfl, q2⟩
end
end L2
set_option Elab.async false
set_option linter.all false
set_option maxRecDepth 100000
set_option maxHeartbeats 4000000
namespace L2
open PySem PySem.Spec PyProof.Rows
section
variable {X : Cx}
def rStrB : List V → Hp → VK → Prop := fun xs H Q => match xs with
  | [.int i] => 0 ≤ i ∧ i < 1000000 ∧ Q (.str (nmS i)) H
  | [.str z] => Q (.str z) H
  | _ => False
theorem call_strB : CallR X (.type "str") rStrB := by
  intro pins s σ H xs us Q I r h
  unfold rStrB at h
  split at h
  · rename_i i
    obtain ⟨h0, h1, q⟩ := h
    obtain ⟨u, rfl, t, rfl⟩ := vals1 r
    exact PySem.P.str_of_int (log_small h0 h1) ⟨.str _, H, I.tok _, ⟨_, rfl⟩, q⟩
  · rename_i z
    obtain ⟨u, rfl, t, rfl⟩ := vals1 r
    exact PySem.P.str_of_str ⟨.str z, H, I, ⟨t, rfl⟩, h⟩
  · exact h.elim
def repC (c n : Nat) : Str := ⟨(List.replicate n c).toArray⟩
theorem fold_rep (c : Nat) : ∀ (n : Nat) (acc : Array Nat), (List.replicate n #[c]).foldl (· ++ ·) acc = acc ++ (List.replicate n c).toArray
  | 0, acc => by simp
  | n + 1, acc => by
    rw [List.replicate_succ, List.foldl_cons, fold_rep c n, List.replicate_succ]
    apply Array.toList_inj.mp
    simp only [Array.toList_append, List.append_assoc, List.singleton_append]
def rMulC : R2 := fun x y H Q => ∃ c n : Nat, x = .str ⟨#[c]⟩ ∧ y = .int (n : Int) ∧ n ≤ 1000 ∧ Q (.str (repC c n)) H
theorem op_mulC : OpR X (binaryOp .Mult) rMulC := by
  intro pins s σ H x y v u Q I rx ry h
  obtain ⟨c, n, rfl, rfl, n9, q⟩ := h
  obtain ⟨t, rfl⟩ := rx
  obtain ⟨t', rfl⟩ := ry
  have l1 : Str.length ⟨#[c]⟩ = 1 := rfl
  refine PySem.P.mul_str (by simp; omega) (fun h1 _ => ?_) (fun _ _ => ?_) ?_
  · rw [l1]
    have : (1 : Int) ≤ (2 ^ 63 - 1) / (n : Int) := (Int.le_ediv_iff_mul_le (by omega)).mpr (by omega)
    omega
  · unfold Builtin.Str.tooLong
    have hz : 1000000 ≤ sizeLine := by decide
    rw [l1]
    simp
    omega
  · by_cases c0 : n = 0
    · subst c0
      rw [if_pos (by decide)]
      exact ⟨by decide, ⟨.str (repC c 0), H, I.tok _, ⟨_, rfl⟩, q⟩⟩
    rw [if_neg (by omega)]
    by_cases c1 : n = 1
    · subst c1
      rw [if_pos (by rfl)]
      exact ⟨.str (repC c 1), H, I, ⟨_, rfl⟩, q⟩
    rw [if_neg (by simp [l1]; omega)]
    have e : (⟨(List.replicate (n : Int).toNat (⟨#[c]⟩ : Str).cps).foldl (· ++ ·) #[]⟩ : Str) = repC c n := by
      unfold repC
      rw [Int.toNat_natCast, fold_rep]; simp
    rw [e]
    refine ⟨?_, ⟨.str (repC c n), H, I.tok _, ⟨_, rfl⟩, q⟩⟩
    have hz : 1000000 ≤ sizeLine := by decide
    have : (repC c n).length = n := by simp [repC, Str.length]
    omega
def rNeT (K : PySem.W.Frag) : R2 := fun x y H Q => ∃ a b xs ys ds es, x = .ref a ∧ y = .ref b ∧ SqT K H a xs ∧ SqT K H b ys ∧ Reps H xs ds ∧ Reps H ys es ∧ SeqAt.shaped (.tuple ds) = true ∧ SeqAt.shaped (.tuple es) = true ∧ Q (.bl (!PyData.eqvAll ds es)) H
theorem op_neT {K : PySem.W.Frag} (hK : X.K = K) (hu : X.A.units + 64 < cLine) : OpR X (compareOp .NotEq) (rNeT K) := by
  subst hK
  intro pins s σ H x y v u Q I rx ry h
  obtain ⟨a, b, xs, ys, ds, es, rfl, rfl, h1, h2, r1, r2, s1, s2, q⟩ := h
  cases rx
  cases ry
  obtain ⟨as, r1⟩ := sq_reads I h1 r1
  obtain ⟨bs, r2⟩ := sq_reads I h2 r2
  exact ne_dataH r1 r2 s1 s2 hu ⟨.bl _, H, I, rfl, by simpa [PyData.eqv] using q⟩
def rIs2 (K : PySem.W.Frag) : List V → Hp → VK → Prop := fun xs H Q => ∃ (x : V) (p : Addr) (b : Bool), xs = [x, .ref p] ∧ H p = some (.tup [.ty "int", .ty "str"]) ∧ ((∃ i, x = .int i ∧ PySem.W.kitAny K (.type "int") [.type "int", .type "str"] = some b) ∨ ∃ z, x = .str z ∧ PySem.W.kitAny K (.type "str") [.type "int", .type "str"] = some b) ∧ Q (.bl b) H
theorem call_is2 {K : PySem.W.Frag} (hK : X.K = K) : CallR X (.builtin "isinstance") (rIs2 K) := by
  subst hK
  intro pins s σ H xs us Q I r h
  obtain ⟨x, p, b, rfl, hp, hx, q⟩ := h
  obtain ⟨u, w', rfl, rx, rc⟩ := vals2 r
  cases rc
  obtain ⟨its, r1, p1, _⟩ := I.tuple (SqT.of hp)
  obtain ⟨⟨cl, dd, data, sl⟩, ho, hc, n', hd⟩ := id p1
  simp only at hc hd
  subst hc hd
  obtain ⟨u1, u2, e1, t1, t2⟩ := vals2 r1
  subst e1
  cases t1
  cases t2
  rcases hx with ⟨i, rfl, e⟩ | ⟨z, rfl, e⟩
  · obtain ⟨t, rfl⟩ := rx
    exact PySem.W.kia_tup PySem.W.kitx_int I.kIn trivial ho e (fun z => nomatch z) fun tk => ⟨.bl b, H, I.tok tk, rfl, q⟩
  · obtain ⟨t, rfl⟩ := rx
    exact PySem.W.kia_tup PySem.W.kitx_str I.kIn trivial ho e (fun z => nomatch z) fun tk => ⟨.bl b, H, I.tok tk, rfl, q⟩
end
end L2
set_option linter.all false
namespace My
open PySem
def toS (l : List Nat) : Str := ⟨l.toArray⟩
theorem toS_app (l : List Nat) (c : Nat) : toS l ++ (⟨#[c]⟩ : Str) = toS (l ++ [c]) := by
  show (⟨l.toArray ++ #[c]⟩ : Str) = ⟨(l ++ [c]).toArray⟩
  simp
theorem toS_len (l : List Nat) : (toS l).length = l.length := by simp [toS, Str.length]
end My
set_option Elab.async false
set_option linter.all false
set_option maxRecDepth 100000
set_option maxHeartbeats 4000000
namespace My
open PySem L2 PyProof.Rows
def sg (z : Str) : List Nat := z.cps.toList
theorem last_of {α : Type} {xs : List α} {x : α} (h : xs[xs.length - 1]? = some x) : xs = xs.dropLast ++ [x] := by
  have hne : xs ≠ [] := by rintro rfl; simp at h
  have e := List.dropLast_concat_getLast hne
  have e2 : xs.getLast hne = x := by
    rw [List.getLast_eq_getElem hne]
    have := (List.getElem?_eq_some_iff.mp h).2
    exact this
  rw [← e2, e]
theorem atI_m1 {α : Type} {xs : List α} {v : α} (h : xs[xs.length - 1]? = some v) : atI xs (-1) = some v := by
  rw [last_of h]
  exact atI_last _ _
end My
set_option Elab.async false
set_option linter.all false
set_option maxRecDepth 100000
set_option maxHeartbeats 4000000
namespace My
open PySem L2 PyProof.Rows
inductive BW where
  | or | and | beh
inductive RE where
  | nothing | blank | letter (a : Str) | no (i : Nat) | bin (w : BW) (i j : Nat)
def ew : BW → Str
  | .or => "or"
  | .and => "and"
  | .beh => "behind"
def erowV : RE → List V
  | .nothing => [.str "nothing"]
  | .blank => [.str "blank"]
  | .letter a => [.str "letter", .str a]
  | .no i => [.str "not", .int (i : Int)]
  | .bin w i j => [.str (ew w), .int (i : Int), .int (j : Int)]
def RE.ok (k : Nat) : RE → Prop
  | .nothing => True
  | .blank => True
  | .letter a => a.length = 1
  | .no i => i < k
  | .bin _ i j => i < k ∧ j < k
end My
set_option Elab.async false
set_option linter.all false
namespace My
open PySem L2
abbrev Row := List L2.Key
def mapR (g : Nat → Nat) : L2.Key → L2.Key
  | .inl i => .inl (g i.toNat : Nat)
  | .inr s => .inr s
def ptK : L2.Key → Option Nat
  | .inl i => some i.toNat
  | .inr _ => none
def wpR (g : Nat → Nat) (r : Row) : Row := r.map (mapR g)
def ptR (r : Row) : List Nat := r.filterMap ptK
def RowOk (k : Nat) (r : Row) : Prop := ∀ i : Int, (Sum.inl i : L2.Key) ∈ r → 0 ≤ i ∧ i < k
theorem ptR_wp (g : Nat → Nat) : ∀ r, ptR (wpR g r) = (ptR r).map g
  | [] => rfl
  | .inl i :: r => by
    have := ptR_wp g r
    simp only [ptR, wpR, List.map_cons, List.filterMap_cons, mapR, ptK] at this ⊢
    rw [this]; simp
  | .inr s :: r => by
    have := ptR_wp g r
    simp only [ptR, wpR, List.map_cons, List.filterMap_cons, mapR, ptK] at this ⊢
    rw [this]
theorem mem_ptR {k : Nat} {r : Row} (h : RowOk k r) {p : Nat} (hp : p ∈ ptR r) : p < k := by
  obtain ⟨x, hx, e⟩ := List.mem_filterMap.mp hp
  cases x with
  | inl i => simp [ptK] at e; have := h i hx; omega
  | inr s => simp [ptK] at e
theorem ptR_mem {r : Row} {i : Int} (h : (Sum.inl i : L2.Key) ∈ r) : i.toNat ∈ ptR r := List.mem_filterMap.mpr ⟨_, h, rfl⟩
theorem wpR_congr {g g' : Nat → Nat} {r : Row} (h : ∀ p ∈ ptR r, g p = g' p) : wpR g r = wpR g' r := by
  refine List.map_congr_left fun x hx => ?_
  cases x with
  | inl i => simp only [mapR]; rw [h _ (ptR_mem hx)]
  | inr s => rfl
theorem wpR_comp (g g' : Nat → Nat) (r : Row) : wpR g (wpR g' r) = wpR (fun x => g (g' x)) r := by
  unfold wpR
  rw [List.map_map]
  refine List.map_congr_left fun x _ => ?_
  cases x <;> simp [mapR]
theorem wpR_id {k : Nat} {r : Row} {g : Nat → Nat} (ok : RowOk k r) (h : ∀ p ∈ ptR r, g p = p) : wpR g r = r := by
  unfold wpR
  have : ∀ x ∈ r, mapR g x = x := fun x hx => by
    cases x with
    | inl i => simp only [mapR]; rw [h _ (ptR_mem hx)]; congr 1; have := ok i hx; omega
    | inr s => rfl
  rw [List.map_congr_left this, List.map_id']
def wkF (C : Nat → List Nat) : Nat → Nat → List Nat → List Nat
  | 0, v, cm => cm ++ [v]
  | f + 1, v, cm => (C v).foldl (fun cm p => if p ∈ cm then cm else wkF C f p cm) cm ++ [v]
def wk (C : Nat → List Nat) (v : Nat) (cm : List Nat) : List Nat := wkF C v v cm
def Dn (C : Nat → List Nat) (n : Nat) : Prop := ∀ v, v < n → ∀ p ∈ C v, p < v
def stp (C : Nat → List Nat) (cm : List Nat) (p : Nat) : List Nat := if p ∈ cm then cm else wk C p cm
theorem wkF_same {C : Nat → List Nat} {n : Nat} (d : Dn C n) : ∀ (f f' v : Nat) (cm : List Nat), v < n → v ≤ f → v ≤ f' → wkF C f v cm = wkF C f' v cm := by
  have z : ∀ f cm, 0 < n → wkF C f 0 cm = cm ++ [0] := fun f cm hn => by
    cases f with
    | zero => rfl
    | succ f =>
      have : C 0 = [] := by
        cases h : C 0 with
        | nil => rfl
        | cons p t => exact absurd (d 0 hn p (by rw [h]; exact .head _)) (by omega)
      simp [wkF, this]
  intro f
  induction f with
  | zero => intro f' v cm h1 h2 _; obtain rfl : v = 0 := by omega
            rw [z _ _ h1, z _ _ h1]
  | succ f ih =>
    intro f' v cm h1 h2 h3
    cases f' with
    | zero => obtain rfl : v = 0 := by omega
              rw [z _ _ h1, z _ _ h1]
    | succ f' =>
      simp only [wkF]
      congr 1
      have go : ∀ ps : List Nat, (∀ p ∈ ps, p < v) → ∀ cm, ps.foldl (fun cm p => if p ∈ cm then cm else wkF C f p cm) cm = ps.foldl (fun cm p => if p ∈ cm then cm else wkF C f' p cm) cm := by
        intro ps
        induction ps with
        | nil => intro _ _; rfl
        | cons p ps ihp =>
          intro hp cm
          have := hp p (.head _)
          rw [List.foldl_cons, List.foldl_cons, ih f' p cm (by omega) (by omega) (by omega)]
          exact ihp (fun q hq => hp q (.tail _ hq)) _
      exact go _ (d v h1) cm
theorem wk_eq {C : Nat → List Nat} {n : Nat} (d : Dn C n) {v : Nat} (hv : v < n) (cm : List Nat) : wk C v cm = (C v).foldl (stp C) cm ++ [v] := by
  have e : wk C v cm = wkF C (v + 1) v cm := wkF_same d _ _ _ _ hv (Nat.le_refl _) (by omega)
  rw [e]
  simp only [wkF]
  congr 1
  have go : ∀ ps : List Nat, (∀ p ∈ ps, p < v) → ∀ cm, ps.foldl (fun cm p => if p ∈ cm then cm else wkF C v p cm) cm = ps.foldl (stp C) cm := by
    intro ps
    induction ps with
    | nil => intro _ _; rfl
    | cons p ps ihp =>
      intro hp cm
      have := hp p (.head _)
      rw [List.foldl_cons, List.foldl_cons]
      have : (if p ∈ cm then cm else wkF C v p cm) = stp C cm p := by
        unfold stp wk
        rw [wkF_same d v p p cm (by omega) (by omega) (Nat.le_refl _)]
      rw [this]
      exact ihp (fun q hq => hp q (.tail _ hq)) _
  exact go _ (d v hv) cm
theorem fold_ind {C : Nat → List Nat} {P : List Nat → Prop} : ∀ {ps : List Nat} {cm : List Nat}, P cm → (∀ p ∈ ps, ∀ cm, P cm → p ∉ cm → P (wk C p cm)) → P (ps.foldl (stp C) cm)
  | [], _, h, _ => h
  | p :: ps, cm, h, st => by
    rw [List.foldl_cons]
    refine fold_ind ?_ fun q hq => st q (.tail _ hq)
    unfold stp
    split
    · exact h
    · exact st p (.head _) cm h (by assumption)
theorem wk_pre {C : Nat → List Nat} {n : Nat} (d : Dn C n) : ∀ (v : Nat), v < n → ∀ cm, ∃ t, wk C v cm = cm ++ t ++ [v] := by
  intro v
  induction v using Nat.strongRecOn with
  | _ v ih =>
    intro hv cm
    rw [wk_eq d hv]
    obtain ⟨t, e⟩ : ∃ t, (C v).foldl (stp C) cm = cm ++ t := by
      refine fold_ind (P := fun l => ∃ t, l = cm ++ t) ⟨[], by simp⟩ fun p hp l ⟨t, e⟩ _ => ?_
      have := d v hv p hp
      obtain ⟨t', e'⟩ := ih p this (by omega) l
      exact ⟨t ++ t' ++ [p], by rw [e', e]; simp⟩
    exact ⟨t, by rw [e]⟩
theorem wk_mono {C : Nat → List Nat} {n : Nat} (d : Dn C n) {v : Nat} (hv : v < n) {cm : List Nat} {x : Nat} (h : x ∈ cm) : x ∈ wk C v cm := by
  obtain ⟨t, e⟩ := wk_pre d v hv cm
  rw [e]; simp [h]
theorem wk_self {C : Nat → List Nat} {n : Nat} (d : Dn C n) {v : Nat} (hv : v < n) (cm : List Nat) : v ∈ wk C v cm := by
  obtain ⟨t, e⟩ := wk_pre d v hv cm
  rw [e]; simp
theorem wk_le {C : Nat → List Nat} {n : Nat} (d : Dn C n) : ∀ (v : Nat), v < n → ∀ cm, ∀ x ∈ wk C v cm, x ∈ cm ∨ x ≤ v := by
  intro v
  induction v using Nat.strongRecOn with
  | _ v ih =>
    intro hv cm x hx
    rw [wk_eq d hv] at hx
    rcases List.mem_append.mp hx with h | h
    · have : ∀ x ∈ (C v).foldl (stp C) cm, x ∈ cm ∨ x ≤ v := by
        refine fold_ind (P := fun l => ∀ x ∈ l, x ∈ cm ∨ x ≤ v) (fun x hx => .inl hx) fun p hp l hl _ x hx => ?_
        have hp' := d v hv p hp
        rcases ih p hp' (by omega) l x hx with h | h
        · exact hl x h
        · exact .inr (by omega)
      exact this x h
    · exact .inr (by simp at h; omega)
theorem wk_nodup {C : Nat → List Nat} {n : Nat} (d : Dn C n) : ∀ (v : Nat), v < n → ∀ cm, cm.Nodup → v ∉ cm → (wk C v cm).Nodup := by
  intro v
  induction v using Nat.strongRecOn with
  | _ v ih =>
    intro hv cm nd nv
    rw [wk_eq d hv]
    have : ((C v).foldl (stp C) cm).Nodup ∧ v ∉ (C v).foldl (stp C) cm := by
      refine fold_ind (P := fun l => l.Nodup ∧ v ∉ l) ⟨nd, nv⟩ fun p hp l ⟨h1, h2⟩ np => ?_
      have hp' := d v hv p hp
      refine ⟨ih p hp' (by omega) l h1 np, fun h => ?_⟩
      rcases wk_le d p (by omega) l v h with h | h
      · exact h2 h
      · omega
    rw [List.nodup_append]
    exact ⟨this.1, by simp, fun a ha b hb e => this.2 ((e.trans (List.mem_singleton.mp hb)) ▸ ha)⟩
theorem fold_mem {C : Nat → List Nat} {n : Nat} (d : Dn C n) : ∀ {ps : List Nat} (cm : List Nat), (∀ p ∈ ps, p < n) → ∀ x, x ∈ cm ∨ x ∈ ps → x ∈ ps.foldl (stp C) cm
  | [], cm, _, x, h => by simpa using h
  | p :: ps, cm, hp, x, h => by
    rw [List.foldl_cons]
    refine fold_mem d _ (fun q hq => hp q (.tail _ hq)) x ?_
    have pn := hp p (.head _)
    have m : ∀ y, y ∈ cm ∨ y = p → y ∈ stp C cm p := fun y hy => by
      unfold stp
      split
      · rcases hy with h | rfl <;> assumption
      · rcases hy with h | rfl
        · exact wk_mono d pn h
        · exact wk_self d pn cm
    rcases h with h | h
    · exact .inl (m x (.inl h))
    · rcases List.mem_cons.mp h with rfl | h
      · exact .inl (m x (.inr rfl))
      · exact .inr h
def Cl (C : Nat → List Nat) (l : List Nat) : Prop := ∀ (i x : Nat), l[i]? = some x → ∀ p ∈ C x, p ∈ l.take i
theorem Cl.snoc {C : Nat → List Nat} {l : List Nat} {v : Nat} (h : Cl C l) (hv : ∀ p ∈ C v, p ∈ l) : Cl C (l ++ [v]) := fun i x e p hp => by
  rcases Nat.lt_trichotomy i l.length with hi | hi | hi
  · rw [List.getElem?_append_left hi] at e
    rw [List.take_append_of_le_length (by omega)]
    exact h i x e p hp
  · subst hi
    simp at e
    subst e
    rw [List.take_append_of_le_length (Nat.le_refl _), List.take_length]
    exact hv p hp
  · rw [List.getElem?_eq_none (by simp; omega)] at e
    cases e
theorem wk_cl {C : Nat → List Nat} {n : Nat} (d : Dn C n) : ∀ (v : Nat), v < n → ∀ cm, Cl C cm → Cl C (wk C v cm) := by
  intro v
  induction v using Nat.strongRecOn with
  | _ v ih =>
    intro hv cm cl
    rw [wk_eq d hv]
    refine Cl.snoc ?_ fun p hp => fold_mem d cm (fun q hq => by have := d v hv q hq; omega) p (.inr hp)
    exact fold_ind (P := Cl C) cl fun p hp l hl _ => by
      have hp' := d v hv p hp
      exact ih p hp' (by omega) l hl
inductive Rch (C : Nat → List Nat) (v : Nat) : Nat → Prop
  | refl : Rch C v v
  | step {x p : Nat} : Rch C v x → p ∈ C x → Rch C v p
theorem Rch.trans {C : Nat → List Nat} {v x y : Nat} (h : Rch C v x) (h' : Rch C x y) : Rch C v y := by
  induction h' with
  | refl => exact h
  | step _ hp ih => exact .step ih hp
theorem wk_rch {C : Nat → List Nat} {n : Nat} (d : Dn C n) : ∀ (v : Nat), v < n → ∀ cm, ∀ x ∈ wk C v cm, x ∈ cm ∨ Rch C v x := by
  intro v
  induction v using Nat.strongRecOn with
  | _ v ih =>
    intro hv cm x hx
    rw [wk_eq d hv] at hx
    rcases List.mem_append.mp hx with h | h
    · have : ∀ x ∈ (C v).foldl (stp C) cm, x ∈ cm ∨ Rch C v x := by
        refine fold_ind (P := fun l => ∀ x ∈ l, x ∈ cm ∨ Rch C v x) (fun x hx => .inl hx) fun p hp l hl _ x hx => ?_
        have hp' := d v hv p hp
        rcases ih p hp' (by omega) l x hx with h | h
        · exact hl x h
        · exact .inr (Rch.trans (.step .refl hp) h)
      exact this x h
    · simp at h; subst h; exact .inr .refl
theorem fold_lack {C : Nat → List Nat} {n : Nat} (d : Dn C n) {p : Nat} : ∀ {ps rest : List Nat} {cm : List Nat}, (∀ q ∈ ps, q < n) → ps.filter (fun q => !decide (q ∈ cm)) = p :: rest → ps.foldl (stp C) (wk C p cm) = ps.foldl (stp C) cm
  | [], _, _, _, h => by simp at h
  | q :: ps, rest, cm, hp, h => by
    rw [List.filter_cons] at h
    by_cases hq : q ∈ cm
    · simp [hq] at h
      have pn : p < n := hp p (.tail _ (List.mem_filter.mp (show p ∈ ps.filter (fun q => !decide (q ∈ cm)) by rw [show ps.filter (fun q => !decide (q ∈ cm)) = p :: rest by simpa using h]; exact .head _)).1)
      rw [List.foldl_cons, List.foldl_cons]
      have e1 : stp C cm q = cm := if_pos hq
      have e2 : stp C (wk C p cm) q = wk C p cm := if_pos (wk_mono d pn hq)
      rw [e1, e2]
      exact fold_lack d (fun r hr => hp r (.tail _ hr)) (by simpa using h)
    · simp [hq] at h
      obtain ⟨rfl, _⟩ := h
      have pn : q < n := hp q (.head _)
      rw [List.foldl_cons, List.foldl_cons]
      have e1 : stp C cm q = wk C q cm := if_neg hq
      have e2 : stp C (wk C q cm) q = wk C q cm := if_pos (wk_self d pn cm)
      rw [e1, e2]
theorem fold_none {C : Nat → List Nat} : ∀ {ps : List Nat} {cm : List Nat}, ps.filter (fun q => !decide (q ∈ cm)) = [] → ps.foldl (stp C) cm = cm
  | [], _, _ => rfl
  | q :: ps, cm, h => by
    rw [List.filter_cons] at h
    by_cases hq : q ∈ cm
    · simp [hq] at h
      rw [List.foldl_cons, show stp C cm q = cm from if_pos hq]
      exact fold_none (by simpa using h)
    · simp [hq] at h
theorem wk_lack {C : Nat → List Nat} {n : Nat} (d : Dn C n) {v p : Nat} {rest cm : List Nat} (hv : v < n) (h : (C v).filter (fun q => !decide (q ∈ cm)) = p :: rest) : wk C v (wk C p cm) = wk C v cm := by
  rw [wk_eq d hv, wk_eq d hv, fold_lack d (fun q hq => by have := d v hv q hq; omega) h]
theorem wk_none {C : Nat → List Nat} {n : Nat} (d : Dn C n) {v : Nat} {cm : List Nat} (hv : v < n) (h : (C v).filter (fun q => !decide (q ∈ cm)) = []) : wk C v cm = cm ++ [v] := by
  rw [wk_eq d hv, fold_none h]
theorem wk_map {C C' : Nat → List Nat} {n n' : Nat} (d : Dn C n) (d' : Dn C' n') {g : Nat → Nat} {S : Nat → Prop} (inj : ∀ x y, S x → S y → g x = g y → x = y) (hS : ∀ x, S x → x < n ∧ g x < n' ∧ C' (g x) = (C x).map g ∧ ∀ p ∈ C x, S p) :
    ∀ (v : Nat), S v → ∀ cm, (∀ x ∈ cm, S x) → wk C' (g v) (cm.map g) = (wk C v cm).map g ∧ ∀ x ∈ wk C v cm, S x := by
  intro v
  induction v using Nat.strongRecOn with
  | _ v ih =>
    intro sv cm sc
    obtain ⟨vn, gn, ce, cs⟩ := hS v sv
    rw [wk_eq d vn, wk_eq d' gn, ce]
    have go : ∀ ps : List Nat, (∀ p ∈ ps, p < v ∧ S p) → ∀ cm, (∀ x ∈ cm, S x) → (ps.map g).foldl (stp C') (cm.map g) = (ps.foldl (stp C) cm).map g ∧ ∀ x ∈ ps.foldl (stp C) cm, S x := by
      intro ps
      induction ps with
      | nil => intro _ cm sc; exact ⟨rfl, sc⟩
      | cons p ps ihp =>
        intro hp cm sc
        obtain ⟨h1, h2⟩ := hp p (.head _)
        have st : stp C' (cm.map g) (g p) = (stp C cm p).map g ∧ ∀ x ∈ stp C cm p, S x := by
          unfold stp
          by_cases hm : p ∈ cm
          · rw [if_pos hm, if_pos (List.mem_map.mpr ⟨p, hm, rfl⟩)]
            exact ⟨rfl, sc⟩
          · rw [if_neg hm, if_neg (fun h => by
              obtain ⟨q, hq, e⟩ := List.mem_map.mp h
              exact hm (inj q p (sc q hq) h2 e ▸ hq))]
            exact ih p h1 h2 cm sc
        rw [List.map_cons, List.foldl_cons, List.foldl_cons, st.1]
        exact ihp (fun q hq => hp q (.tail _ hq)) _ st.2
    obtain ⟨e, f⟩ := go (C v) (fun p hp => ⟨d v vn p hp, cs p hp⟩) cm sc
    rw [e]
    refine ⟨by simp, fun x hx => ?_⟩
    rcases List.mem_append.mp hx with h | h
    · exact f x h
    · simp at h; subst h; exact sv
end My
set_option Elab.async false
set_option linter.all false
namespace My
open PySem L2
theorem ix_mem {l : List Nat} {x : Nat} (h : x ∈ l) : l[l.idxOf x]? = some x := by
  rw [List.getElem?_eq_getElem (List.idxOf_lt_length_of_mem h), List.getElem_idxOf]
theorem nd_ix {α : Type} {l : List α} (nd : l.Nodup) {i j : Nat} {x : α} (hi : l[i]? = some x) (hj : l[j]? = some x) : i = j := by
  have h1 := (List.getElem?_eq_some_iff.mp hi).1
  exact (List.getElem?_inj h1 nd).mp (hi.trans hj.symm)
theorem ix_at {l : List Nat} (nd : l.Nodup) {i x : Nat} (h : l[i]? = some x) : l.idxOf x = i := nd_ix nd (ix_mem (List.mem_of_getElem? h)) h
theorem ix_inj {l : List Nat} {x y : Nat} (hx : x ∈ l) (hy : y ∈ l) (e : l.idxOf x = l.idxOf y) : x = y := by
  have a := ix_mem hx
  rw [e, ix_mem hy] at a
  exact (Option.some.inj a).symm
theorem ix_app {l m : List Nat} {x : Nat} (h : x ∈ l) : (l ++ m).idxOf x = l.idxOf x := by
  rw [List.idxOf_append, if_pos h]
theorem wk_congr {C C' : Nat → List Nat} {n : Nat} (d : Dn C n) (e : ∀ v, v < n → C v = C' v) : ∀ v, v < n → ∀ cm, wk C v cm = wk C' v cm := by
  have d' : Dn C' n := fun v hv p hp => d v hv p (by rw [e v hv]; exact hp)
  intro v
  induction v using Nat.strongRecOn with
  | _ v ih =>
    intro hv cm
    rw [wk_eq d hv, wk_eq d' hv, ← e v hv]
    congr 1
    have go : ∀ ps : List Nat, (∀ p ∈ ps, p < v) → ∀ cm, ps.foldl (stp C) cm = ps.foldl (stp C') cm := by
      intro ps
      induction ps with
      | nil => intro _ _; rfl
      | cons p ps ihp =>
        intro hp cm
        have h := hp p (.head _)
        rw [List.foldl_cons, List.foldl_cons, show stp C cm p = stp C' cm p by unfold stp; rw [ih p h (by omega)]]
        exact ihp (fun q hq => hp q (.tail _ hq)) _
    exact go _ (d v hv) cm
def RwA (R : List Row) (h : Nat → Nat) (i : Nat) : Row := wpR h (R.getD i [])
def OkR (R : List Row) : Prop := ∀ k r, R[k]? = some r → RowOk k r
theorem OkR.d {R : List Row} (ok : OkR R) {i : Nat} (hi : i < R.length) : RowOk i (R.getD i []) := ok i _ (by rw [List.getD_eq_getElem?_getD, List.getElem?_eq_getElem hi]; rfl)
structure Hd (R : List Row) (h : Nat → Nat) : Prop where
  le : ∀ i, i < R.length → h i ≤ i
  same : ∀ i, i < R.length → RwA R h (h i) = RwA R h i
  first : ∀ i, i < R.length → ∀ j, j < h i → RwA R h j ≠ RwA R h i
theorem Hd.of {R : List Row} {h : Nat → Nat} (H : Hd R h) {i j : Nat} (hi : i < R.length) (hj : j < R.length) (e : RwA R h i = RwA R h j) : h i = h j := by
  rcases Nat.lt_trichotomy (h i) (h j) with l | l | l
  · exact absurd ((H.same i hi).trans e) (H.first j hj _ l)
  · exact l
  · exact absurd ((H.same j hj).trans e.symm) (H.first i hi _ l)
theorem Hd.idem {R : List Row} {h : Nat → Nat} (H : Hd R h) {i : Nat} (hi : i < R.length) : h (h i) = h i := H.of (by have := H.le i hi; omega) hi (H.same i hi)
def chd (R : List Row) (h : Nat → Nat) (i : Nat) : List Nat := ptR (RwA R h i)
theorem chd_eq (R : List Row) (h : Nat → Nat) (i : Nat) : chd R h i = (ptR (R.getD i [])).map h := ptR_wp h _
theorem chd_dn {R : List Row} {h : Nat → Nat} (ok : OkR R) (H : Hd R h) : Dn (chd R h) R.length := fun v hv p hp => by
  rw [chd_eq] at hp
  obtain ⟨q, hq, rfl⟩ := List.mem_map.mp hp
  have h1 := mem_ptR (ok.d hv) hq
  have := H.le q (by omega)
  omega
def own (R : List Row) (i : Nat) : List Nat := ptR (R.getD i [])
theorem own_dn {R : List Row} (ok : OkR R) : Dn (own R) R.length := fun v hv p hp => mem_ptR (ok.d hv) hp
def ordR (R : List Row) (h : Nat → Nat) : List Nat := wk (chd R h) (h (R.length - 1)) []
def tidR (R : List Row) (h : Nat → Nat) : List Row := (ordR R h).map fun v => wpR (fun x => (ordR R h).idxOf x) (RwA R h v)
structure Ord (R : List Row) (h : Nat → Nat) (dn : List Nat) : Prop where
  nd : dn.Nodup
  cl : Cl (chd R h) dn
  lt : ∀ x ∈ dn, x < R.length
  hd : ∀ x ∈ dn, h x = x
  la : ∃ t, dn = t ++ [h (R.length - 1)]
theorem ord_ok {R : List Row} {h : Nat → Nat} (ok : OkR R) (H : Hd R h) (n1 : 1 ≤ R.length) : Ord R h (ordR R h) := by
  have d := chd_dn ok H
  have hr : h (R.length - 1) < R.length := by have := H.le (R.length - 1) (by omega); omega
  refine ⟨wk_nodup d _ hr [] List.nodup_nil (by simp), wk_cl d _ hr [] (fun i x e => by simp at e), fun x hx => ?_, fun x hx => ?_, ?_⟩
  · rcases wk_le d _ hr [] x hx with h | h
    · simp at h
    · omega
  · rcases wk_rch d _ hr [] x hx with h' | h'
    · simp at h'
    · cases h' with
      | refl => exact H.idem (by omega)
      | step r hp =>
        rename_i y
        rw [chd_eq] at hp
        obtain ⟨q, hq, rfl⟩ := List.mem_map.mp hp
        have yl : y < R.length := by
          clear hp hq hx
          induction r with
          | refl => exact hr
          | step _ hp ih => have := d _ ih _ hp; omega
        exact H.idem (by have := mem_ptR (ok.d yl) hq; omega)
  · obtain ⟨t, e⟩ := wk_pre d _ hr []
    exact ⟨t, by unfold ordR; rw [e]; simp⟩
def TidP (R F : List Row) : Prop := ∃ h, Hd R h ∧ F = tidR R h
section
variable {R : List Row} {h : Nat → Nat}
theorem tid_len (R : List Row) (h : Nat → Nat) : (tidR R h).length = (ordR R h).length := by simp [tidR]
theorem tid_at {i v : Nat} (e : (ordR R h)[i]? = some v) : (tidR R h)[i]? = some (wpR (fun x => (ordR R h).idxOf x) (RwA R h v)) := by simp [tidR, e]
theorem nonneg_wp (g : Nat → Nat) (r : Row) : ∀ i : Int, (Sum.inl i : L2.Key) ∈ wpR g r → 0 ≤ i := fun i hi => by
  obtain ⟨x, _, e⟩ := List.mem_map.mp hi
  cases x with
  | inl j => simp only [mapR, Sum.inl.injEq] at e; omega
  | inr s => simp [mapR] at e
theorem tid_id (ok : OkR R) (n1 : 1 ≤ R.length) (H : Hd R h) (dj : ∀ (i j : Nat) (r : Row), R[i]? = some r → R[j]? = some r → i = j) (cm : wk (own R) (R.length - 1) [] = List.range R.length) : tidR R h = R := by
  have sm : ∀ i, i < R.length → (∀ j, j < i → h j = j) → RwA R h i = R.getD i [] := fun i hi hj => wpR_id (ok.d hi) fun p hp => hj p (mem_ptR (ok.d hi) hp)
  have gt : ∀ i, i < R.length → R[i]? = some (R.getD i []) := fun i hi => by rw [List.getD_eq_getElem?_getD, List.getElem?_eq_getElem hi]; rfl
  have hid : ∀ i, i < R.length → h i = i := by
    intro i
    induction i using Nat.strongRecOn with
    | _ i ih =>
      intro hi
      have l := H.le i hi
      have e := H.same i hi
      have ih' : ∀ j, j < i → h j = j := fun j hj => ih j hj (by omega)
      rw [sm i hi ih', sm (h i) (by omega) (fun j hj => ih' j (by omega))] at e
      exact dj (h i) i _ (gt _ (by omega)) (by rw [e]; exact gt i hi)
  have rw' : ∀ i, i < R.length → RwA R h i = R.getD i [] := fun i hi => sm i hi fun j hj => hid j (by omega)
  have eo : ordR R h = List.range R.length := by
    unfold ordR
    rw [hid _ (by omega), ← cm]
    exact wk_congr (chd_dn ok H) (fun v hv => by unfold chd own; rw [rw' v hv]) _ (by omega) []
  apply List.ext_getElem?
  intro i
  by_cases hi : i < R.length
  · have ei : (ordR R h)[i]? = some i := by rw [eo, List.getElem?_range hi]
    rw [tid_at ei, gt i hi, rw' i hi]
    congr 1
    refine wpR_id (ok.d hi) fun p hp => ?_
    have pl := mem_ptR (ok.d hi) hp
    rw [eo]
    exact ix_at List.nodup_range (List.getElem?_range (by omega))
  · rw [List.getElem?_eq_none (by rw [tid_len, eo]; simp; omega), List.getElem?_eq_none (by omega)]
end
end My
set_option Elab.async false
set_option linter.all false
namespace My
open PySem L2
theorem wpR_two {g k : Nat → Nat} : ∀ {r r' : Row}, wpR g r = wpR g r' → (∀ p ∈ ptR r, ∀ q ∈ ptR r', g p = g q → k p = k q) → wpR k r = wpR k r'
  | [], [], _, _ => rfl
  | [], _ :: _, h, _ => by simp [wpR] at h
  | _ :: _, [], h, _ => by simp [wpR] at h
  | x :: r, y :: r', h, hk => by
    simp only [wpR, List.map_cons, List.cons.injEq] at h ⊢
    have ih : wpR k r = wpR k r' := wpR_two (g := g) h.2 fun p hp q hq => by
      refine hk p ?_ q ?_
      · simp only [ptR, List.filterMap_cons] at hp ⊢; cases ptK x <;> simp [hp]
      · simp only [ptR, List.filterMap_cons] at hq ⊢; cases ptK y <;> simp [hq]
    refine ⟨?_, ih⟩
    cases x with
    | inl i =>
      cases y with
      | inl j =>
        have e : ((g i.toNat : Nat) : Int) = (g j.toNat : Nat) := Sum.inl.inj h.1
        have := hk i.toNat (by simp [ptR, ptK]) j.toNat (by simp [ptR, ptK]) (by omega)
        simp only [mapR, this]
      | inr s => cases h.1
    | inr s =>
      cases y with
      | inl j => cases h.1
      | inr t => cases h.1; rfl
structure Hom (R' R : List Row) (φ : Nat → Nat) : Prop where
  lt : ∀ x, x < R'.length → φ x < R.length
  row : ∀ x, x < R'.length → wpR φ (R'.getD x []) = R.getD (φ x) []
section
variable {R' R : List Row} {φ h' h : Nat → Nat}
theorem Hom.rwa (m : Hom R' R φ) {x : Nat} (hx : x < R'.length) : RwA R h (φ x) = wpR (fun y => h (φ y)) (R'.getD x []) := by
  unfold RwA; rw [← m.row x hx, wpR_comp]
theorem Hom.iff (m : Hom R' R φ) (ok' : OkR R') (H' : Hd R' h') (H : Hd R h) : ∀ n x y, x < n → y < n → x < R'.length → y < R'.length → (h' x = h' y ↔ h (φ x) = h (φ y)) := by
  intro n
  induction n with
  | zero => intro x y hx; omega
  | succ n ih =>
    intro x y hx hy lx ly
    have px : ∀ p ∈ ptR (R'.getD x []), p < x := fun p hp => mem_ptR (ok'.d lx) hp
    have py : ∀ p ∈ ptR (R'.getD y []), p < y := fun p hp => mem_ptR (ok'.d ly) hp
    constructor
    · intro e
      have e1 : RwA R' h' x = RwA R' h' y := by rw [← H'.same x lx, ← H'.same y ly, e]
      refine H.of (m.lt x lx) (m.lt y ly) ?_
      rw [m.rwa lx, m.rwa ly]
      exact wpR_two (g := h') e1 fun p hp q hq e => (ih p q (by have := px p hp; omega) (by have := py q hq; omega) (by have := px p hp; omega) (by have := py q hq; omega)).mp e
    · intro e
      have e1 : RwA R h (φ x) = RwA R h (φ y) := by rw [← H.same _ (m.lt x lx), ← H.same _ (m.lt y ly), e]
      rw [m.rwa lx, m.rwa ly] at e1
      refine H'.of lx ly ?_
      exact wpR_two (g := fun y => h (φ y)) e1 fun p hp q hq e => (ih p q (by have := px p hp; omega) (by have := py q hq; omega) (by have := px p hp; omega) (by have := py q hq; omega)).mpr e
theorem ix_mapg {g : Nat → Nat} {S : Nat → Prop} (inj : ∀ x y, S x → S y → g x = g y → x = y) : ∀ {l : List Nat} {x : Nat}, (∀ y ∈ l, S y) → S x → (l.map g).idxOf (g x) = l.idxOf x
  | [], _, _, _ => rfl
  | y :: l, x, hs, sx => by
    have ih := ix_mapg inj (l := l) (fun z hz => hs z (.tail _ hz)) sx
    rw [List.map_cons, List.idxOf_cons, List.idxOf_cons, ih]
    by_cases c : y = x
    · subst c; simp
    · have c2 : g y ≠ g x := fun e => c (inj y x (hs y (.head _)) sx e)
      rw [show (y == x) = false by simpa using c, show (g y == g x) = false by simpa using c2]
theorem Hom.tid (m : Hom R' R φ) (ok' : OkR R') (ok : OkR R) (H' : Hd R' h') (H : Hd R h) (n1 : 1 ≤ R'.length) (n2 : 1 ≤ R.length) (la : φ (R'.length - 1) = R.length - 1) : tidR R' h' = tidR R h := by
  have I : ∀ x y, x < R'.length → y < R'.length → (h' x = h' y ↔ h (φ x) = h (φ y)) := fun x y lx ly => m.iff ok' H' H R'.length x y lx ly lx ly
  have back : ∀ x, x < R'.length → h (φ (h' x)) = h (φ x) := fun x lx => by
    have := H'.le x lx
    exact (I _ _ (by omega) lx).mp (H'.idem lx)
  let S : Nat → Prop := fun x => x < R'.length ∧ h' x = x
  have inj : ∀ x y, S x → S y → h (φ x) = h (φ y) → x = y := fun x y sx sy e => by
    rw [← sx.2, ← sy.2]; exact (I x y sx.1 sy.1).mpr e
  have row : ∀ x, x < R'.length → RwA R h (h (φ x)) = wpR (fun y => h (φ y)) (RwA R' h' x) := fun x lx => by
    rw [H.same _ (m.lt x lx), m.rwa lx]
    unfold RwA
    rw [wpR_comp]
    exact wpR_congr fun p hp => (back p (by have := mem_ptR (ok'.d lx) hp; omega)).symm
  have hS : ∀ x, S x → x < R'.length ∧ h (φ x) < R.length ∧ chd R h (h (φ x)) = (chd R' h' x).map (fun y => h (φ y)) ∧ ∀ p ∈ chd R' h' x, S p := fun x sx => by
    refine ⟨sx.1, ?_, ?_, fun p hp => ?_⟩
    · have := m.lt x sx.1
      have := H.le _ this
      omega
    · unfold chd
      rw [row x sx.1, ptR_wp]
    · rw [chd_eq] at hp
      obtain ⟨q, hq, rfl⟩ := List.mem_map.mp hp
      have ql := mem_ptR (ok'.d sx.1) hq
      have q2 := sx.1
      have := H'.le q (by omega)
      exact ⟨by omega, H'.idem (by omega)⟩
  have l0 : R'.length - 1 < R'.length := by omega
  have sl : S (h' (R'.length - 1)) := ⟨by have := H'.le _ l0; omega, H'.idem l0⟩
  have w := wk_map (chd_dn ok' H') (chd_dn ok H) (g := fun y => h (φ y)) inj hS _ sl [] (fun x hx => nomatch hx)
  have e : ordR R h = (ordR R' h').map fun y => h (φ y) := by
    unfold ordR
    rw [← la, ← back _ l0]
    exact w.1
  unfold tidR
  rw [e, List.map_map]
  refine List.map_congr_left fun x hx => ?_
  have sx := w.2 x hx
  show _ = wpR (fun y => ((ordR R' h').map fun y => h (φ y)).idxOf y) (RwA R h (h (φ x)))
  rw [row x sx.1, wpR_comp]
  refine wpR_congr fun p hp => ?_
  exact (ix_mapg inj w.2 ((hS x sx).2.2.2 p hp)).symm
end
def layL (R : List Row) (h : Nat → Nat) (cm : List Nat) : List Row := cm.map fun v => wpR (fun x => cm.idxOf x) (RwA R h v)
structure Lay (R : List Row) (h : Nat → Nat) (cm : List Nat) : Prop where
  nd : cm.Nodup
  cl : ∀ x ∈ cm, ∀ p ∈ chd R h x, p ∈ cm
  lt : ∀ x ∈ cm, x < R.length
  hd : ∀ x ∈ cm, h x = x
section
variable {R : List Row} {h : Nat → Nat}
theorem Lay.nil : Lay R h [] := ⟨List.nodup_nil, nofun, nofun, nofun⟩
theorem Lay.snoc {cm : List Nat} {v : Nat} (L : Lay R h cm) (nv : v ∉ cm) (vl : v < R.length) (hv : h v = v) (ch : ∀ p ∈ chd R h v, p ∈ cm) : Lay R h (cm ++ [v]) := by
  refine ⟨?_, fun x hx p hp => ?_, fun x hx => ?_, fun x hx => ?_⟩
  · rw [List.nodup_append]
    exact ⟨L.nd, by simp, fun x hx y hy e => nv ((e.trans (List.mem_singleton.mp hy)) ▸ hx)⟩
  · rcases List.mem_append.mp hx with hx | hx
    · exact List.mem_append_left _ (L.cl x hx p hp)
    · cases List.mem_singleton.mp hx; exact List.mem_append_left _ (ch p hp)
  · rcases List.mem_append.mp hx with hx | hx
    · exact L.lt x hx
    · cases List.mem_singleton.mp hx; exact vl
  · rcases List.mem_append.mp hx with hx | hx
    · exact L.hd x hx
    · cases List.mem_singleton.mp hx; exact hv
theorem layL_snoc {cm : List Nat} {v : Nat} (L : Lay R h cm) (ch : ∀ p ∈ chd R h v, p ∈ cm) : layL R h (cm ++ [v]) = layL R h cm ++ [wpR (fun x => cm.idxOf x) (RwA R h v)] := by
  unfold layL
  rw [List.map_append]
  congr 1
  · exact List.map_congr_left fun x hx => wpR_congr fun p hp => ix_app (L.cl x hx p hp)
  · rw [List.map_cons, List.map_nil]
    exact congrArg (· :: []) (wpR_congr fun p hp => ix_app (ch p hp))
theorem ix_injm {l : List Nat} {x y : Nat} (hx : x ∈ l) (hy : y ∈ l) (e : l.idxOf x = l.idxOf y) : x = y := ix_inj hx hy e
theorem lay_row {cm : List Nat} (L : Lay R h cm) (H : Hd R h) {u v : Nat} (vl : v < R.length) (hv : h v = v) (ch : ∀ p ∈ chd R h v, p ∈ cm) (um : u ∈ cm) (e : wpR (fun x => cm.idxOf x) (RwA R h u) = wpR (fun x => cm.idxOf x) (RwA R h v)) : u = v := by
  have e2 : RwA R h u = RwA R h v := by
    have := wpR_two (k := fun x => x) e fun p hp q hq e => ix_injm (L.cl u um p hp) (ch q hq) e
    have id : ∀ {r : Row} (x : Nat), r = RwA R h x → wpR (fun x => x) r = r := fun {r} x er => by
      subst er
      unfold RwA
      rw [wpR_comp]
    rw [id u rfl, id v rfl] at this
    exact this
  rw [← L.hd u um, ← hv]
  exact H.of (L.lt u um) vl e2
theorem layL_nd {cm : List Nat} (L : Lay R h cm) (H : Hd R h) : (layL R h cm).Nodup := by
  unfold layL
  refine List.pairwise_map.mpr (L.nd.imp_of_mem fun {x y} hx hy n e => n ?_)
  exact lay_row L H (L.lt y hy) (L.hd y hy) (L.cl y hy) hx e
theorem layL_mem {cm : List Nat} (L : Lay R h cm) (H : Hd R h) {v : Nat} (vl : v < R.length) (hv : h v = v) (ch : ∀ p ∈ chd R h v, p ∈ cm) : wpR (fun x => cm.idxOf x) (RwA R h v) ∈ layL R h cm ↔ v ∈ cm := by
  refine ⟨fun m => ?_, fun m => List.mem_map.mpr ⟨v, m, rfl⟩⟩
  obtain ⟨u, um, e⟩ := List.mem_map.mp m
  exact lay_row L H vl hv ch um e ▸ um
theorem layL_at {cm : List Nat} {v : Nat} (m : v ∈ cm) : (layL R h cm)[cm.idxOf v]? = some (wpR (fun x => cm.idxOf x) (RwA R h v)) := by
  unfold layL
  rw [List.getElem?_map, ix_mem m]; rfl
theorem lay_wk (ok : OkR R) (H : Hd R h) : ∀ (v : Nat), v < R.length → h v = v → ∀ cm, Lay R h cm → v ∉ cm → Lay R h (wk (chd R h) v cm) ∧ (chd R h v).foldl (stp (chd R h)) cm ++ [v] = wk (chd R h) v cm ∧ Lay R h ((chd R h v).foldl (stp (chd R h)) cm) ∧ v ∉ (chd R h v).foldl (stp (chd R h)) cm ∧ ∀ p ∈ chd R h v, p ∈ (chd R h v).foldl (stp (chd R h)) cm := by
  have d := chd_dn ok H
  intro v
  induction v using Nat.strongRecOn with
  | _ v ih =>
    intro vl hv cm L nv
    have hp : ∀ p ∈ chd R h v, p < v ∧ h p = p := fun p hp => by
      refine ⟨d v vl p hp, ?_⟩
      rw [chd_eq] at hp
      obtain ⟨q, hq, rfl⟩ := List.mem_map.mp hp
      exact H.idem (by have := mem_ptR (ok.d vl) hq; omega)
    have L1 : Lay R h ((chd R h v).foldl (stp (chd R h)) cm) := fold_ind (P := Lay R h) L fun p hp' cm L n => (ih p (hp p hp').1 (by have := (hp p hp').1; omega) (hp p hp').2 cm L n).1
    have n1 : v ∉ (chd R h v).foldl (stp (chd R h)) cm := fold_ind (P := fun cm => v ∉ cm) nv fun p hp' cm n _ m => by
      rcases wk_le d p (by have := (hp p hp').1; omega) cm v m with m | m
      · exact n m
      · have := (hp p hp').1; omega
    have c1 : ∀ p ∈ chd R h v, p ∈ (chd R h v).foldl (stp (chd R h)) cm := fun p hp' => fold_mem d cm (fun q hq => by have := (hp q hq).1; omega) p (.inr hp')
    have e := wk_eq d vl cm
    exact ⟨by rw [e]; exact L1.snoc n1 vl hv c1, e.symm, L1, n1, c1⟩
theorem lay_stp (ok : OkR R) (H : Hd R h) {i : Nat} (il : i < R.length) {cm : List Nat} (L : Lay R h cm) :
    Lay R h (stp (chd R h) cm (h i)) ∧ Lay R h ((chd R h (h i)).foldl (stp (chd R h)) cm) ∧ (∀ p ∈ chd R h (h i), p ∈ (chd R h (h i)).foldl (stp (chd R h)) cm) ∧
    stp (chd R h) cm (h i) = (if h i ∈ (chd R h (h i)).foldl (stp (chd R h)) cm then (chd R h (h i)).foldl (stp (chd R h)) cm else (chd R h (h i)).foldl (stp (chd R h)) cm ++ [h i]) := by
  have vl : h i < R.length := by have := H.le i il; omega
  have hv := H.idem il
  by_cases c : h i ∈ cm
  · have e : (chd R h (h i)).foldl (stp (chd R h)) cm = cm := fold_none (List.filter_eq_nil_iff.mpr fun p hp => by simp [L.cl _ c p hp])
    have es : stp (chd R h) cm (h i) = cm := if_pos c
    rw [e, es, if_pos c]
    exact ⟨L, L, L.cl _ c, rfl⟩
  · obtain ⟨q1, q2, q3, q4, q5⟩ := lay_wk ok H (h i) vl hv cm L c
    have es : stp (chd R h) cm (h i) = wk (chd R h) (h i) cm := if_neg c
    rw [es, if_neg q4]
    exact ⟨q1, q3, q5, q2.symm⟩
theorem chd_head (H : Hd R h) {i : Nat} (il : i < R.length) : chd R h (h i) = (own R i).map h := by
  unfold chd own
  rw [H.same i il]
  exact ptR_wp h _
theorem lay_tid (ok : OkR R) (H : Hd R h) (n1 : 1 ≤ R.length) : layL R h (stp (chd R h) [] (h (R.length - 1))) = tidR R h := by
  rw [show stp (chd R h) [] (h (R.length - 1)) = ordR R h from if_neg (by simp)]
  rfl
end
end My
set_option Elab.async false
set_option linter.all false
set_option maxRecDepth 100000
set_option maxHeartbeats 4000000
namespace My
open PySem L2 PyProof.Rows
end My
set_option Elab.async false
set_option linter.all false
set_option maxRecDepth 100000
set_option maxHeartbeats 4000000
namespace My
open PySem L2
local macro_rules
  | `(tactic| simp!) => `(tactic| simp only [tSeq, tIfS, tTest, tOp, tVar, tC, tAsg, gName, gSub, tRet, tNext, tCont, tDrop, tAnd, tOr, tNot, tAndV, tOrV, tNotV, tB, tIf, tChain, tCall, rI0, rI, rAddW_int, rAddW_str, rMulW_int, rMulW_ref, rLtU_int, rLtU_str, rLeU_int, rLeU_str, rIxU_str, rIxU_ref, rLenU_str, rLenU_ref, rMaxU_int, rIntU_int, rIntU_bl, rListU_str, rListU_ref, rPopU_ref, rAppendU_ref, rEqU_int, rEqU_bl, rEqU_str, rEqU_ref, rNeU_int, rNeU_bl, rNeU_str, rNeU_ref, rIsU_ty, rSetU_ref, isL_ref, lstOf_lst, tupOf_tup, seqOf_lst, seqOf_tup, Option.isSome_some, tBML, tBML0, tCB, tCons, tNil, tLst, tTup, tSl, tPart, tNoPart, rSlU_str, iAny, iRng1, iEnumS, iEnumT, tDNotIn, sDPut, tFor_eq, tComp, tCompIf, compSt, tUn, rU, tTru, rTru_ref, rTru_bl, rTru_str, rPop0U_ref, rInU_str, tBM0, tBM, tyV_str, Option.bind_some, Option.bind_none, Option.getD_some, L2.start, List.map_cons, List.map_nil, List.length_cons, List.length_nil, List.cons_append, List.nil_append, List.append_nil, List.cons.injEq, List.replicate, List.getElem?_cons_zero, List.getElem?_cons_succ, List.set_cons_zero, List.set_cons_succ, Nat.reduceSub, Nat.reduceAdd, Nat.reduceLeDiff, Option.some.injEq, V.int.injEq, V.bl.injEq, V.str.injEq, V.ref.injEq, HO.lst.injEq, HO.tup.injEq, exists_eq_left', exists_eq_left, exists_and_left, true_and, and_true, upd_same, upd_upd, atI_0, atI_1, atI_2, Bool.not_true, Bool.not_false, decide_eq_true_eq, Bool.false_eq_true, if_false, if_true, reduceIte, reduceCtorEq, tDisp0, tDNewT, tDSetT, iTup, tTru, rTru_ref, tMeth, tMake, tDInK, tDGetK, tDisp, tPairs, tDGet2, rAdd, rSub])
  | `(tactic| simp! [$ls,*]) => `(tactic| simp only [tSeq, tIfS, tTest, tOp, tVar, tC, tAsg, gName, gSub, tRet, tNext, tCont, tDrop, tAnd, tOr, tNot, tAndV, tOrV, tNotV, tB, tIf, tChain, tCall, rI0, rI, rAddW_int, rAddW_str, rMulW_int, rMulW_ref, rLtU_int, rLtU_str, rLeU_int, rLeU_str, rIxU_str, rIxU_ref, rLenU_str, rLenU_ref, rMaxU_int, rIntU_int, rIntU_bl, rListU_str, rListU_ref, rPopU_ref, rAppendU_ref, rEqU_int, rEqU_bl, rEqU_str, rEqU_ref, rNeU_int, rNeU_bl, rNeU_str, rNeU_ref, rIsU_ty, rSetU_ref, isL_ref, lstOf_lst, tupOf_tup, seqOf_lst, seqOf_tup, Option.isSome_some, tBML, tBML0, tCB, tCons, tNil, tLst, tTup, tSl, tPart, tNoPart, rSlU_str, iAny, iRng1, iEnumS, iEnumT, tDNotIn, sDPut, tFor_eq, tComp, tCompIf, compSt, tUn, rU, tTru, rTru_ref, rTru_bl, rTru_str, rPop0U_ref, rInU_str, tBM0, tBM, tyV_str, Option.bind_some, Option.bind_none, Option.getD_some, L2.start, List.map_cons, List.map_nil, List.length_cons, List.length_nil, List.cons_append, List.nil_append, List.append_nil, List.cons.injEq, List.replicate, List.getElem?_cons_zero, List.getElem?_cons_succ, List.set_cons_zero, List.set_cons_succ, Nat.reduceSub, Nat.reduceAdd, Nat.reduceLeDiff, Option.some.injEq, V.int.injEq, V.bl.injEq, V.str.injEq, V.ref.injEq, HO.lst.injEq, HO.tup.injEq, exists_eq_left', exists_eq_left, exists_and_left, true_and, and_true, upd_same, upd_upd, atI_0, atI_1, atI_2, Bool.not_true, Bool.not_false, decide_eq_true_eq, Bool.false_eq_true, if_false, if_true, reduceIte, reduceCtorEq, tDisp0, tDNewT, tDSetT, iTup, tTru, rTru_ref, tMeth, tMake, tDInK, tDGetK, tDisp, tPairs, tDGet2, rAdd, rSub, $ls,*])
def methN (st : Stmt) (n : Nat) : Stmt := match st with
  | .ClassDef _ _ _ body _ _ _ _ _ _ _ => body.getD n (.Pass ⟨0, 0, 0, 0⟩)
  | s => s
def top (i : Nat) : Stmt := PySem.Challenge.pw_calmword_k27_expressions_read.main.body.getD i (.Pass ⟨0, 0, 0, 0⟩)
def BoxO (o : HO) : Prop := ∃ c s, o = .lst [.int c, .int s] ∧ 1 ≤ s ∧ s ≤ 2147483629
def spTake : Sp := fun vs H Q _ => ∃ b w o, vs = [.ref b, .int w] ∧ H b = some o ∧ BoxO o ∧ 0 < w ∧ w < 1073741824 ∧ ∀ d o, 0 ≤ d → d < w → BoxO o → Q (.int d) (upd H b o)
def spBox (K : PySem.W.Frag) : Sp := fun vs H Q _ => ∃ (a : Addr) (k : Int) (ns : List Int), vs = [.ref a, .int k] ∧ SqL K H a (ns.map V.int) ∧ 0 ≤ k ∧ k ≤ 1000 ∧ ∀ b o, H b = none → BoxO o → Q (.ref b) (upd H b o)
section
variable {P : Program} {w : World} {K : PySem.W.Frag} {mg : Str → Option Value} {base : Heap}
abbrev s__law_take : Stmt := top 18
theorem sc__law_take : FnScope ["_law_box_here", "_law_wide", "_law_digit", "_law_one"] ["_law_box_here", "_law_wide"] (defScope s__law_take) := ⟨rfl, rfl, rfl, by decide +kernel, rfl, by decide +kernel, by decide +kernel⟩
theorem ok__law_take {f : Addr} {fd : FuncData} (F : Fun K "_law_take" "_law_take" s__law_take f fd) : FnOk P w K mg base CX0 1 f fd ["_law_box_here", "_law_wide"] spTake := by
  refine F.ok sc__law_take (fun vs H Q E h => ?_) (fun cdv A outer s H vs Q E hr h => ?_)
  · obtain ⟨b, w, o, rfl, _⟩ := h
    rfl
  · obtain ⟨b, w, o, rfl, hb, ⟨c, sd, rfl, s1, s2⟩, w0, w1, k⟩ := h
    refine ⟨_, (QSs.h (qpss_cons (qps_if (qpt_cmpR op_gt (qpe_ix ix_U (qpv 0) qpe_int (fun _ _ => rfl)) qpe_int (nomark _)) (qpss_cons (qps_set (i := 2) sc__law_take.nd rfl (by first | exact Or.inl rfl | exact Or.inr rfl) (qpe_op op_mod (qpe_ix ix_U (qpv 0) qpe_int (fun _ _ => rfl)) (qpv 1)))
    (qpss_cons (qps_asg (qpe_op op_fdiv (qpe_ix ix_U (qpv 0) qpe_int (fun _ _ => rfl)) (qpv 1)) (qpg_sub (qpv 0) qpe_int set_U))
    (qpss_one (qps_ret (qpv 2))))) qpss_nil)
    (qpss_cons (qps_set (i := 3) sc__law_take.nd rfl (by first | exact Or.inl rfl | exact Or.inr rfl) (qpe_op op_mod (qpe_op op_mulW (qpe_ix ix_U (qpv 0) qpe_int (fun _ _ => rfl)) qpe_int) qpe_int))
    (qpss_cons (qps_asg (qpe_op op_addW (qpe_op op_mod (qpe_op op_addW (qpe_op op_mulW (qpv 3) qpe_int) qpe_int) qpe_int) qpe_int) (qpg_sub (qpv 0) qpe_int set_U))
    (qpss_one (qps_ret (qpe_op op_mod (qpe_op op_fdiv (qpe_op op_addW (qpe_op op_mulW (qpv 3) qpe_int) (qpe_ix ix_U (qpv 0) qpe_int (fun _ _ => rfl))) qpe_int) (qpv 1)))))))), ?_⟩
    have m1 : ∀ z m : Int, 0 < m → 0 ≤ z % m ∧ z % m < m := fun z m h => ⟨Int.emod_nonneg z (by omega), Int.emod_lt_of_pos z h⟩
    simp! [hb]
    refine ite2 (fun hc => ?_) (fun _ => ?_)
    · refine ⟨w0, ⟨w0, w1⟩, 0, rfl, ?_⟩
      simp! [hb]
      exact k _ _ (m1 c w w0).1 (m1 c w w0).2 ⟨_, _, rfl, s1, s2⟩
    · have q1 := m1 (sd * 69623) 2147483647 (by decide)
      refine ⟨.inl ⟨by omega, by omega⟩, by decide, .inl ⟨by omega, by omega⟩, by decide, 1, rfl, ?_⟩
      simp! [hb]
      have q2 := m1 (sd * 69623 % 2147483647 * 48271 + 30103) 2147483629 (by decide)
      refine ⟨.inl ⟨by omega, by omega⟩, ⟨by decide, by decide⟩, w0, ?_⟩
      exact k _ _ (m1 _ w w0).1 (m1 _ w w0).2 ⟨_, _, rfl, by omega, by omega⟩
structure TBox (mg : Str → Option Value) : Prop where
  n_len : mg "len" = none
  n_int : mg "int" = none
abbrev s__law_box : Stmt := top 17
theorem sc__law_box : FnScope ["_law_script", "_law_k", "_law_cell", "_law_seed"] ["_law_script", "_law_k"] (defScope s__law_box) := ⟨rfl, rfl, rfl, by decide +kernel, rfl, by decide +kernel, by decide +kernel⟩
theorem ok__law_box {f : Addr} {fd : FuncData} (F : Fun K "_law_box" "_law_box" s__law_box f fd) (T : TBox mg) : FnOk P w K mg base CX0 1 f fd ["_law_script", "_law_k"] (spBox K) := by
  refine F.ok sc__law_box (fun vs H Q E h => ?_) (fun cdv A outer s H vs Q E hr h => ?_)
  · obtain ⟨a, k, ns, rfl, _⟩ := h
    rfl
  · obtain ⟨a, k, ns, rfl, hS, k0, k1, kk⟩ := h
    refine ⟨_, (QSs.h (qpss_cons (qps_set (i := 2) sc__law_box.nd rfl (by first | exact Or.inl rfl | exact Or.inr rfl) (qpe_op op_addW (qpe_op op_mulW qpe_int (qpv 1)) qpe_int))
    (qpss_cons (qps_if (qpt_cmpR op_ltU (qpv 1) (qpe_callB call_len_seq (by rfl) T.n_len bt_len (qpa_cons (qpv 0) qpa_nil)) (nomark _)) (qpss_one (qps_set (i := 2) sc__law_box.nd rfl (by first | exact Or.inl rfl | exact Or.inr rfl) (qpe_ix ix_list (qpv 0) (qpv 1) (fun _ _ => rfl)))) (qpss_one (qps_if (qpt_cmpR op_gt (qpe_callB call_len_seq (by rfl) T.n_len bt_len (qpa_cons (qpv 0) qpa_nil)) qpe_int (nomark _)) (qpss_one (qps_set (i := 2) sc__law_box.nd rfl (by first | exact Or.inl rfl | exact Or.inr rfl) (qpe_op op_addW (qpv 2) (qpe_op op_mulW (qpe_op op_mod (qpe_ix ix_list (qpv 0) (qpe_op op_mod (qpv 1) (qpe_callB call_len_seq (by rfl) T.n_len bt_len (qpa_cons (qpv 0) qpa_nil))) (fun _ _ => rfl)) qpe_int) qpe_int)))) qpss_nil)))
    (qpss_cons (qps_set (i := 3) sc__law_box.nd rfl (by first | exact Or.inl rfl | exact Or.inr rfl) (qpe_op op_addW (qpe_op op_mod (qpe_op op_addW (qpe_op op_mulW (qpe_op op_mod (qpv 2) qpe_int) qpe_int) (qpe_op op_mulW qpe_int (qpv 1))) qpe_int) qpe_int))
    (qpss_one (qps_ret (qpe_lst (qpa_cons (qpe_op op_mulW (qpv 2) (qpe_callTy call_intU (by rfl) T.n_int bt_int (qpa_cons (qpe_cmpR op_ge (qpv 2) (qpe_op op_pow qpe_int qpe_int) (nomark _)) qpa_nil))) (qpa_cons (qpv 3) qpa_nil))))))))), ?_⟩
    have m1 : ∀ z m : Int, 0 < m → 0 ≤ z % m ∧ z % m < m := fun z m h => ⟨Int.emod_nonneg z (by omega), Int.emod_lt_of_pos z h⟩
    have tail : ∀ cell : Int, (0 : Int) < 2147483629 ∧ CMul (cell % 2147483629) 48271 ∧ CMul 40692 k ∧ (0 : Int) < 2147483629 ∧ CPow 10 18 ∧ CMul cell (if (10 : Int) ^ (18 : Int).toNat ≤ cell then 1 else 0) ∧ 2 ≤ sizeLine ∧
        ∀ p, H p = none → Q (.ref p) (upd H p (.lst [.int (cell * (if (10 : Int) ^ (18 : Int).toNat ≤ cell then 1 else 0)), .int ((cell % 2147483629 * 48271 + 40692 * k) % 2147483629 + 1)])) := by
      intro cell
      have q1 := m1 cell 2147483629 (by decide)
      have q2 := m1 (cell % 2147483629 * 48271 + 40692 * k) 2147483629 (by decide)
      refine ⟨by decide, .inl ⟨by omega, by omega⟩, .inl ⟨by decide, by decide⟩, by decide, ⟨by decide, by decide, by decide⟩, .inr ?_, by decide, fun p hp => kk p _ hp ⟨_, _, rfl, by omega, by omega⟩⟩
      split <;> constructor <;> decide
    simp!
    refine ⟨.inl ⟨by decide, by decide⟩, ns.map V.int, .inl hS, ?_⟩
    rw [List.length_map]
    refine ite2 (fun h => ?_) (fun h => ?_)
    · obtain ⟨z, hz⟩ : ∃ z, ns[k.toNat]? = some z := ⟨ns[k.toNat]'(by omega), by simp⟩
      refine ⟨a, _, k, .int z, rfl, rfl, hS, atI_of k0 (by rw [List.getElem?_map, hz]; rfl), ?_⟩
      simp!
      exact tail z
    · refine ⟨ns.map V.int, .inl hS, ?_⟩
      rw [List.length_map]
      refine ite2 (fun h2 => ?_) (fun h2 => ?_)
      · refine ⟨ns.map V.int, .inl hS, ?_⟩
        rw [List.length_map]
        have q := m1 k (ns.length : Int) (by omega)
        obtain ⟨z, hz⟩ : ∃ z, ns[(k % (ns.length : Int)).toNat]? = some z := ⟨ns[(k % (ns.length : Int)).toNat]'(by omega), by simp⟩
        refine ⟨by omega, a, _, _, .int z, rfl, rfl, hS, atI_of q.1 (by rw [List.getElem?_map, hz]; rfl), ?_⟩
        simp!
        have q3 := m1 z 2147483629 (by decide)
        refine ⟨by decide, .inl ⟨by omega, by omega⟩, ?_⟩
        exact tail _
      · exact tail _
end
structure Letters (z : Str) (m : Nat) : Prop where
  lo : 1 ≤ z.length
  hi : z.length ≤ m
  az : ∀ c ∈ z.cps.toList, 97 ≤ c ∧ c ≤ 122
  nd : z.cps.toList.Nodup
def chV (c : Nat) : V := .str ⟨#[c]⟩
def spLetters : Sp := fun vs H Q _ => ∃ (b : Addr) (m : Nat) (o : HO), vs = [.ref b, .int (m : Int)] ∧ H b = some o ∧ BoxO o ∧ 1 ≤ m ∧ m ≤ 4 ∧ ∀ z o' H', Letters z m → BoxO o' → H' b = some o' → Kp [b] H H' → Q (.str z) H'
theorem erase_perm {α : Type} : ∀ (l : List α) (i : Nat) (x : α), l[i]? = some x → (x :: l.eraseIdx i).Perm l
  | [], i, x, h => by simp at h
  | a :: l, 0, x, h => by simp at h; subst h; exact List.Perm.refl _
  | a :: l, i + 1, x, h => by
    rw [List.eraseIdx_cons_succ]
    exact (List.Perm.swap _ _ _).trans ((erase_perm l i x (by simpa using h)).cons a)
theorem map_erase {α β : Type} (f : α → β) : ∀ (l : List α) (i : Nat), (l.map f).eraseIdx i = (l.eraseIdx i).map f
  | [], _ => rfl
  | _ :: _, 0 => rfl
  | a :: l, i + 1 => by rw [List.map_cons, List.eraseIdx_cons_succ, List.eraseIdx_cons_succ, List.map_cons, map_erase f l i]
theorem abc_sgn : sgn (Str.ofString "abcdefghijklmnopqrstuvwxyz") = ((List.range 26).map (97 + ·)).map chV := by decide +kernel
structure TLetters (mg : Str → Option Value) (ft : Addr) : Prop where
  n_len : mg "len" = none
  n_list : mg "list" = none
  n_range : mg "range" = none
  m__law_take : mg "_law_take" = some (.ref ft)
section
variable {P : Program} {w : World} {K : PySem.W.Frag} {mg : Str → Option Value} {base : Heap}
abbrev s__law_letters : Stmt := top 19
theorem sc__law_letters : FnScope ["_law_box_here", "_law_most", "_law_pool", "_law_found", "_law_k"] ["_law_box_here", "_law_most"] (defScope s__law_letters) := ⟨rfl, rfl, rfl, by decide +kernel, rfl, by decide +kernel, by decide +kernel⟩
theorem ok__law_letters {f ft : Addr} {fd fdt : FuncData} (F : Fun K "_law_letters" "_law_letters" s__law_letters f fd) (T : TLetters mg ft) (F__law_take : Fun K "_law_take" "_law_take" s__law_take ft fdt) (b__law_take : Binds K fdt ["_law_box_here", "_law_wide"] [])
    (G__law_take : FnOk P w K mg base CX0 1 ft fdt ["_law_box_here", "_law_wide"] spTake) : FnOk P w K mg base CX0 2 f fd ["_law_box_here", "_law_most"] spLetters := by
  refine F.ok sc__law_letters (fun vs H Q E h => ?_) (fun cdv A outer s H vs Q E hr h => ?_)
  · obtain ⟨b, m, o, rfl, _⟩ := h
    rfl
  · obtain ⟨b, m, o, rfl, hb, ho, m1, m4, k⟩ := h
    refine ⟨_, (QSs.h (qpss_cons (qps_set (i := 2) sc__law_letters.nd rfl (by first | exact Or.inl rfl | exact Or.inr rfl) (qpe_callTy (call_listU rfl) (by rfl) T.n_list bt_list (qpa_cons qpe_str qpa_nil)))
    (qpss_cons (qps_set (i := 3) sc__law_letters.nd rfl (by first | exact Or.inl rfl | exact Or.inr rfl) qpe_str)
    (qpss_cons (qps_for PassesOwn.never rfl (qpi_range1 rfl T.n_range (qpa_cons (qpe_op op_addW qpe_int (qpe_call G__law_take (hr.mono (by decide)) rfl T.m__law_take F__law_take.kp b__law_take .nil pass0 (qpa_cons (qpv 0) (qpa_cons (qpv 1) qpa_nil)))) qpa_nil)) (qpg_name (i := 4) sc__law_letters.nd rfl (by first | exact Or.inl rfl | exact Or.inr rfl)) (qpss_one (qps_set (i := 3) sc__law_letters.nd rfl (by first | exact Or.inl rfl | exact Or.inr rfl) (qpe_op op_addW (qpv 3) (qpe_bmL PySem.F.slot_list_pop PySem.F.type_list_pop mt_popU (qpv 2) (qpa_cons (qpe_call G__law_take (hr.mono (by decide)) rfl T.m__law_take F__law_take.kp b__law_take .nil pass0 (qpa_cons (qpv 0) (qpa_cons (qpe_callB call_lenU (by rfl) T.n_len bt_len (qpa_cons (qpv 2) qpa_nil)) qpa_nil))) qpa_nil) mono_var)))))
    (qpss_one (qps_ret (qpv 3))))))), ?_⟩
    simp!
    refine ⟨by decide, fun p hp => ?_⟩
    have npb : b ≠ p := ne_of_none hb hp
    obtain ⟨c0, s0, rfl, _, _⟩ := id ho
    refine ⟨b, (m : Int), _, rfl, by rw [upd_ne npb]; exact hb, ho, by omega, by omega, fun d o1 d0 d1 ho1 => ?_⟩
    simp!
    obtain ⟨n, rfl⟩ : ∃ n : Nat, d = (n : Int) := ⟨d.toNat, by omega⟩
    have en : (1 + (n : Int)).toNat = n + 1 := by omega
    refine ⟨by omega, by omega, ?_⟩
    rw [en]
    refine loop_range (fun i σ H' => ∃ l R o' v, σ = [some (.ref b), some (.int (m : Int)), some (.ref p), some (.str (toS l)), v] ∧ H' b = some o' ∧ BoxO o' ∧ H' p = some (.lst (R.map chV)) ∧ Kp [b] H H' ∧ l.length = i ∧ R.length + i = 26 ∧
      (l ++ R).Nodup ∧ ∀ c ∈ l ++ R, 97 ≤ c ∧ c ≤ 122) ?_ ?_ ?_
    · refine ⟨[], (List.range 26).map (97 + ·), o1, none, rfl, upd_same, ho1, ?_, ?_, rfl, by simp, ?_, ?_⟩
      · rw [upd_ne npb.symm, upd_same, abc_sgn]
      · exact ((Kp.refl [b] H).new hp).set (by rw [upd_ne npb]; exact hb) (.inl (by simp))
      · decide
      · decide
    · rintro i σ H' hi ⟨l, R, o', v, rfl, hb', ho', hp', kp, hl, hR, nd, az⟩
      simp! [hp']
      obtain ⟨c1, s1, rfl, _, _⟩ := id ho'
      refine ⟨b, _, _, rfl, hb', ho', by rw [List.length_map]; omega, by rw [List.length_map]; omega, fun d o2 d0 d1 ho2 => ?_⟩
      rw [List.length_map] at d1
      have hp2 : upd H' b o2 p = some (.lst (R.map chV)) := by rw [upd_ne npb.symm]; exact hp'
      simp! [hp2]
      obtain ⟨c, hc⟩ : ∃ c, R[d.toNat]? = some c := ⟨R[d.toNat]'(by omega), by simp⟩
      have hc' : (R.map chV)[d.toNat]? = some (.str ⟨#[c]⟩) := by rw [List.getElem?_map, hc]; rfl
      refine ⟨d0, _, hc', ?_⟩
      simp!
      have pm := erase_perm R d.toNat c hc
      have e1 : ((l ++ [c]) ++ R.eraseIdx d.toNat).Perm (l ++ R) := by
        rw [List.append_assoc]
        exact pm.append_left l
      have hlen : (R.eraseIdx d.toNat).length + 1 = R.length := by
        have := pm.length_eq
        simpa using this
      refine ⟨?_, l ++ [c], R.eraseIdx d.toNat, o2, _, ⟨toS_app l c, rfl⟩, by rw [upd_ne npb, upd_same], ho2, map_erase chV R _, ?_, by simp [hl], by omega, ?_, ?_⟩
      · rw [toS_len]
        show l.length + 1 ≤ sizeLine
        have : sizeLine = 16777216 := PySem.sizeLine_eq
        omega
      · exact (kp.set hb' (.inl (.head _))).set hp2 (.inr hp)
      · exact e1.nodup_iff.mpr nd
      · exact fun x hx => az x (e1.mem_iff.mp hx)
    · rintro σ H' ⟨l, R, o', v, rfl, hb', ho', hp', kp, hl, hR, nd, az⟩
      simp! [hp']
      exact k (toS l) o' H' ⟨by rw [toS_len]; omega, by rw [toS_len]; omega, fun c hc => az c (List.mem_append_left _ (by simpa [toS] using hc)), by simpa [toS] using (List.nodup_append.mp nd).1⟩ ho' hb' kp
end
theorem _root_.L2.Kp.seq {S : List Addr} {K : PySem.W.Frag} {H H' : Hp} {a : Addr} {xs : List V} (e : Kp S H H') (n : a ∉ S) (h : SqL K H a xs) : SqL K H' a xs := by
  rcases h with (h | ⟨o, h⟩) | h
  · exact .inl (.inl (e.old _ _ h n))
  · exact .inl (.inr ⟨o, e.old _ _ h n⟩)
  · exact .inr h
def spLaw (K : PySem.W.Frag) : Sp := fun vs H Q _ => ∃ (a : Addr) (ns : List Int), vs = [.ref a] ∧ SqL K H a (ns.map V.int) ∧ ns.length ≤ 63 ∧ ∀ H', Q (.bl true) H'
theorem exQ {X : Cx} {ss : List Stmt} {t : TS} {R : TS → Prop} (q : QSs X ss t) (h : R t) : ∃ t, PSs X ss t ∧ R t := ⟨t, q.h, h⟩
theorem _root_.L2.Kp.sqT {S : List Addr} {K : PySem.W.Frag} {H H' : Hp} {a : Addr} {xs : List V} (e : Kp S H H') (n : a ∉ S) (h : SqT K H a xs) : SqT K H' a xs := by
  rcases h with (h | ⟨o, h⟩) | h
  · exact .inl (.inl (e.old _ _ h n))
  · exact .inl (.inr ⟨o, e.old _ _ h n⟩)
  · exact .inr h
def nV (n : Nat) : V := .int (n : Int)
def RowsT (H : Hp) (us : List V) (R : List Row) : Prop := Paired (fun v r => ∃ a, v = .ref a ∧ H a = some (.tup (r.map kV))) us R
theorem RowsT.kp {S : List Addr} {H H' : Hp} {us : List V} {R : List Row} (k : Kp S H H') (h : RowsT H us R) : RowsT H' us R := Paired.mapP h fun _ _ ⟨a, e, h⟩ => ⟨a, e, k.tup _ _ h⟩
theorem RowsT.get {H : Hp} {us : List V} {R : List Row} (h : RowsT H us R) {i : Nat} (hi : i < R.length) : ∃ a, us[i]? = some (.ref a) ∧ H a = some (.tup ((R.getD i []).map kV)) := by
  induction h generalizing i with
  | nil => simp at hi
  | cons h _ ih =>
    cases i with
    | zero => obtain ⟨a, e, g⟩ := h; exact ⟨a, by simp [e], by simpa using g⟩
    | succ i => obtain ⟨a, e, g⟩ := ih (by simpa using hi); exact ⟨a, by simpa using e, by simpa using g⟩
def NN0 (r : Row) : Prop := ∀ i : Int, (Sum.inl i : L2.Key) ∈ r → 0 ≤ i
theorem RowOk.nn {k : Nat} {r : Row} (h : RowOk k r) : NN0 r := fun i hi => (h i hi).1
def isI : V → Bool
  | .int _ => true
  | _ => false
theorem pts_row : ∀ {r : Row}, NN0 r → (r.map kV).filter isI = (ptR r).map nV
  | [], _ => rfl
  | .inl i :: r, h => by
    have ih := pts_row (r := r) fun j hj => h j (.tail _ hj)
    have h0 := h i (.head _)
    have e : kV (.inl i) = nV i.toNat := by show V.int i = V.int _; congr 1; omega
    simp only [List.map_cons, ptR, List.filterMap_cons, ptK] at ih ⊢
    rw [List.filter_cons, if_pos (show isI (kV (.inl i)) = true from rfl), ih, e]
  | .inr s :: r, h => by
    have ih := pts_row (r := r) fun j hj => h j (.tail _ hj)
    simp only [List.map_cons, ptR, List.filterMap_cons, ptK] at ih ⊢
    rw [List.filter_cons, if_neg (show ¬ isI (kV (.inr s)) = true from fun z => nomatch z), ih]
theorem kV_or {r : Row} {x : V} (h : x ∈ r.map kV) : (∃ z, x = .str z ∧ (Sum.inr z : L2.Key) ∈ r) ∨ ∃ i, x = .int i ∧ (Sum.inl i : L2.Key) ∈ r := by
  obtain ⟨k, hk, rfl⟩ := List.mem_map.mp h
  cases k with
  | inl i => exact .inr ⟨i, rfl, hk⟩
  | inr z => exact .inl ⟨z, rfl, hk⟩
structure TPa (K : PySem.W.Frag) (mg : Str → Option Value) : Prop where
  n_isinstance : mg "isinstance" = none
  n_int : mg "int" = none
  n_str : mg "str" = none
  n_tuple : mg "tuple" = none
  n_bool : mg "bool" = none
  ii : PySem.W.kitOne K (.type "int") (.type "int") = some true
  si : PySem.W.kitOne K (.type "str") (.type "int") = some false
  ss : PySem.W.kitOne K (.type "str") (.type "str") = some true
  is : PySem.W.kitOne K (.type "int") (.type "str") = some false
  ib : PySem.W.kitOne K (.type "int") (.type "bool") = some false
  tt : PySem.W.kitOne K (.type "tuple") (.type "tuple") = some true
def spParts : Sp := fun vs H Q _ => ∃ (a : Addr) (r : Row), vs = [.ref a] ∧ H a = some (.tup (r.map kV)) ∧ NN0 r ∧ r.length ≤ 100 ∧ ∀ p, H p = none → Q (.ref p) (upd H p (.lst ((ptR r).map nV)))
def Num (H : Hp) (n : Addr) (g : Nat → Nat) (ps : List Nat) : Prop := (∃ hs : List Nat, H n = some (.lst (hs.map nV)) ∧ ∀ p ∈ ps, hs[p]? = some (g p)) ∨ ∃ kvs, H n = some (.dK kvs) ∧ ∀ p ∈ ps, valV kvs (.inl (p : Int)) = some (nV (g p))
def spWP : Sp := fun vs H Q _ => ∃ (a n : Addr) (r : Row) (g : Nat → Nat), vs = [.ref a, .ref n] ∧ H a = some (.tup (r.map kV)) ∧ NN0 r ∧ r.length ≤ 100 ∧ Num H n g (ptR r) ∧ ∀ q H', H q = none → H' q = some (.tup ((wpR g r).map kV)) → Kp [] H H' → Q (.ref q) H'
section
variable {P : Program} {w : World} {K : PySem.W.Frag} {mg : Str → Option Value} {base : Heap}
abbrev s_parts_of : Stmt := top 4
theorem sc_parts_of : FnScope ["row"] ["row"] (defScope s_parts_of) := ⟨rfl, rfl, rfl, by decide +kernel, rfl, by decide +kernel, by decide +kernel⟩
theorem ok_parts_of {f : Addr} {fd : FuncData} (F : Fun K "parts_of" "parts_of" s_parts_of f fd) (T : TPa K mg) : FnOk P w K mg base CX0 1 f fd ["row"] spParts := by
  refine F.ok sc_parts_of (fun vs H Q E h => ?_) (fun cdv A outer s H vs Q E hr h => ?_)
  · obtain ⟨a, r, rfl, _⟩ := h
    rfl
  · obtain ⟨a, r, rfl, ha, nn, hl, k⟩ := h
    have hu := hr.units
    have hsz : sizeLine = 16777216 := PySem.sizeLine_eq
    refine exQ (qpss_one (qps_ret (qpe_compIf rfl (compOk_of (sc := defScope s_parts_of) (N := ["row"]) (Nc := ["thing"]) (js := [none]) (by decide +kernel)) (qpi_any (K := K) (qpv 0) rfl) (fun _ _ _ _ => (qpg_name (i := 0) (show List.Nodup [("thing" : Str)] from by decide +kernel) rfl (by first | exact Or.inl rfl | exact Or.inr rfl))) (fun _ _ _ _ => (qpt_val (qpe_callB (call_isinstanceK (K := K) rfl) (by rfl) T.n_isinstance bt_isinstance (qpa_cons (qpv 0) (qpa_cons (qpe_bltn (v := .ty "int") rfl T.n_int bt_int rfl) qpa_nil))))) (fun _ _ _ _ => (qpv 0))))) ?_
    simp! [ha]
    intro D hD
    refine compIf_tup isI id ha hD (by rw [List.length_map]; omega) (fun x hx l Q' q => ?_) (fun x hx _ l Q' q => ?_) fun v => ?_
    · simp!
      rcases kV_or hx with ⟨z, rfl, _⟩ | ⟨i, rfl, _⟩
      · exact ⟨_, .str _, _, T.si, q⟩
      · exact ⟨_, .int _, _, T.ii, q⟩
    · simp!
      exact q
    · rw [List.map_id, pts_row nn]
      exact k D hD
abbrev s_with_parts : Stmt := top 5
theorem sc_with_parts : FnScope ["row", "numbers"] ["row", "numbers"] (defScope s_with_parts) := ⟨rfl, rfl, rfl, by decide +kernel, rfl, by decide +kernel, by decide +kernel⟩
theorem ok_with_parts {f : Addr} {fd : FuncData} (F : Fun K "with_parts" "with_parts" s_with_parts f fd) (T : TPa K mg) : FnOk P w K mg base CX0 1 f fd ["row", "numbers"] spWP := by
  refine F.ok sc_with_parts (fun vs H Q E h => ?_) (fun cdv A outer s H vs Q E hr h => ?_)
  · obtain ⟨a, n, r, g, rfl, _⟩ := h
    rfl
  · obtain ⟨a, n, r, g, rfl, ha, nn, hl, num, k⟩ := h
    have hu := hr.units
    have hsz : sizeLine = 16777216 := PySem.sizeLine_eq
    have hu1 : (A.deeper (PyProof.Rows.envOfC (Str.ofString "with_parts") (defScope s_with_parts) s.heap.objs.size f cdv)).units + 1 < cLine := by omega
    refine exQ (qpss_one (qps_ret (qpe_callTy call_tupleU (by rfl) T.n_tuple bt_tuple (qpa_cons (qpe_comp rfl (compOk_of (sc := defScope s_with_parts) (N := ["row", "numbers"]) (Nc := ["thing", "numbers"]) (js := [none, some 1]) (by decide +kernel)) (qpi_any (K := K) (qpv 0) rfl) (fun _ _ _ _ => (qpg_name (i := 0) (show List.Nodup [("thing" : Str), ("numbers" : Str)] from by decide +kernel) rfl (by first | exact Or.inl rfl | exact Or.inr rfl))) (fun _ _ _ _ => (qpe_ifExp (qpt_val (qpe_callB (call_isinstanceK (K := K) rfl) (by rfl) T.n_isinstance bt_isinstance (qpa_cons (qpv 0) (qpa_cons (qpe_bltn (v := .ty "int") rfl T.n_int bt_int rfl) qpa_nil)))) (qpe_ix (ix_UD hu1) (qpv 1) (qpv 0) (fun _ _ => rfl)) (qpv 0)))) qpa_nil)))) ?_
    simp! [ha]
    intro D hD
    have nnD : n ≠ D := by
      rcases num with ⟨hs, e, _⟩ | ⟨kvs, e, _⟩ <;> exact ne_of_none e hD
    let gv : V → V := fun x => match x with
      | .int i => nV (g i.toNat)
      | x => x
    have em : (r.map kV).map gv = (wpR g r).map kV := by
      unfold wpR
      rw [List.map_map, List.map_map]
      refine List.map_congr_left fun x _ => ?_
      cases x <;> rfl
    refine comp_tup gv ha hD (by rw [List.length_map]; omega) (fun x hx l Q' q => ?_) fun v => ?_
    · simp!
      rcases kV_or hx with ⟨z, rfl, _⟩ | ⟨i, rfl, hi⟩
      · exact ⟨_, .str _, _, T.si, by rw [if_neg (by decide)]; exact q⟩
      · have h0 := nn i hi
        have hp := ptR_mem hi
        refine ⟨_, .int _, _, T.ii, ?_⟩
        rw [if_pos rfl]
        rcases num with ⟨hs, e, hg⟩ | ⟨kvs, e, hg⟩
        · refine .inl ?_
          rw [rIxU_ref, upd_ne nnD, e]
          exact ⟨_, rfl, nV (g i.toNat), atI_of h0 (by rw [List.getElem?_map, hg _ hp]; rfl), q⟩
        · refine .inr ⟨n, nV (g i.toNat), rfl, ?_, q⟩
          have := DGet.k (H := upd H D (.lst l)) (a := n) (kvs := kvs) (k := .inl i) (by rw [upd_ne nnD]; exact e)
          rw [show valV kvs (.inl i) = some (nV (g i.toNat)) by rw [← hg _ hp]; congr 2; omega] at this
          exact this
    · rw [em]
      refine rTupleU_lst upd_same fun t ht => ?_
      refine k t _ ?_ upd_same (((Kp.refl [] H).new hD).new ht)
      have : t ≠ D := fun z => by rw [z, upd_same] at ht; cases ht
      rwa [upd_ne this] at ht
end
def hsF (hs : List Nat) : Nat → Nat := fun i => hs.getD i 0
structure HI (R : List Row) (hs : List Nat) (kvs : List (Row × V)) : Prop where
  le : ∀ j, j < hs.length → hsF hs j ≤ j
  same : ∀ j, j < hs.length → RwA R (hsF hs) (hsF hs j) = RwA R (hsF hs) j
  first : ∀ j, j < hs.length → ∀ j', j' < hsF hs j → RwA R (hsF hs) j' ≠ RwA R (hsF hs) j
  d1 : ∀ k v, valV kvs k = some v → ∃ j, j < hs.length ∧ v = nV j ∧ RwA R (hsF hs) j = k ∧ ∀ j', j' < j → RwA R (hsF hs) j' ≠ k
  d2 : ∀ k, valV kvs k = none → ∀ j, j < hs.length → RwA R (hsF hs) j ≠ k
  len : kvs.length ≤ hs.length
theorem hsF_app {hs : List Nat} {e j : Nat} (h : j < hs.length) : hsF (hs ++ [e]) j = hsF hs j := by
  unfold hsF
  rw [List.getD_eq_getElem?_getD, List.getElem?_append_left h, ← List.getD_eq_getElem?_getD]
theorem hsF_new {hs : List Nat} {e : Nat} : hsF (hs ++ [e]) hs.length = e := by
  unfold hsF
  rw [List.getD_eq_getElem?_getD]; simp
theorem RwA_app {R : List Row} (ok : OkR R) {hs : List Nat} {e j : Nat} (hj : j ≤ hs.length) (hl : j < R.length) : RwA R (hsF (hs ++ [e])) j = RwA R (hsF hs) j :=
  wpR_congr fun p hp => hsF_app (by have := mem_ptR (ok.d hl) hp; omega)
theorem HI.step {R : List Row} (ok : OkR R) {hs : List Nat} {kvs kvs' : List (Row × V)} {e : Nat} (h : HI R hs kvs) (hl : hs.length < R.length) (he : e ≤ hs.length) (sm : RwA R (hsF hs) e = RwA R (hsF hs) hs.length) (fi : ∀ j, j < e → RwA R (hsF hs) j ≠ RwA R (hsF hs) hs.length)
    (hk : ∀ k, valV kvs' k = if k = RwA R (hsF hs) hs.length then some (nV e) else valV kvs k) (ln : kvs'.length ≤ hs.length + 1) : HI R (hs ++ [e]) kvs' := by
  have ag : ∀ j, j ≤ hs.length → RwA R (hsF (hs ++ [e])) j = RwA R (hsF hs) j := fun j hj => RwA_app ok hj (by omega)
  have cs : ∀ j, j < (hs ++ [e]).length → j < hs.length ∨ j = hs.length := fun j hj => by simp at hj; omega
  refine ⟨fun j hj => ?_, fun j hj => ?_, fun j hj j' hj' => ?_, fun k v hv => ?_, fun k hv j hj => ?_, by simpa using ln⟩
  · rcases cs j hj with h1 | rfl
    · rw [hsF_app h1]; exact h.le j h1
    · rw [hsF_new]; exact he
  · rcases cs j hj with h1 | rfl
    · rw [hsF_app h1, ag _ (by have := h.le j h1; omega), ag _ (by omega)]; exact h.same j h1
    · rw [hsF_new, ag _ he, ag _ (Nat.le_refl _)]; exact sm
  · rcases cs j hj with h1 | rfl
    · rw [hsF_app h1] at hj'
      rw [ag _ (by have := h.le j h1; omega), ag _ (by omega)]; exact h.first j h1 j' hj'
    · rw [hsF_new] at hj'
      rw [ag _ (by omega), ag _ (Nat.le_refl _)]; exact fi j' hj'
  · rw [hk] at hv
    by_cases c : k = RwA R (hsF hs) hs.length
    · rw [if_pos c] at hv
      cases hv
      exact ⟨e, by simp; omega, rfl, by rw [ag _ he, sm, c], fun j' hj' => by rw [ag _ (by omega), c]; exact fi j' hj'⟩
    · rw [if_neg c] at hv
      obtain ⟨j, h1, h2, h3, h4⟩ := h.d1 k v hv
      exact ⟨j, by simp; omega, h2, by rw [ag _ (by omega)]; exact h3, fun j' hj' => by rw [ag _ (by omega)]; exact h4 j' hj'⟩
  · rw [hk] at hv
    by_cases c : k = RwA R (hsF hs) hs.length
    · rw [if_pos c] at hv; cases hv
    · rw [if_neg c] at hv
      rcases cs j hj with h1 | rfl
      · rw [ag _ (by omega)]; exact h.d2 k hv j h1
      · rw [ag _ (Nat.le_refl _)]; exact fun z => c z.symm
def spHO (K : PySem.W.Frag) : Sp := fun vs H Q _ => ∃ (a : Addr) (us : List V) (R : List Row), vs = [.ref a] ∧ SqT K H a us ∧ RowsT H us R ∧ OkR R ∧ (∀ r ∈ R, r.length ≤ 100) ∧ R.length ≤ 20000 ∧
  ∀ p hs H', Hd R (hsF hs) → hs.length = R.length → H p = none → H' p = some (.lst (hs.map nV)) → Kp [] H H' → Q (.ref p) H'
structure THO (mg : Str → Option Value) (fw : Addr) : Prop where
  n_enumerate : mg "enumerate" = none
  m_with_parts : mg "with_parts" = some (.ref fw)
section
variable {P : Program} {w : World} {K : PySem.W.Frag} {mg : Str → Option Value} {base : Heap}
abbrev s_heads_of : Stmt := top 7
theorem sc_heads_of : FnScope ["rows", "heads", "first", "at", "row"] ["rows"] (defScope s_heads_of) := ⟨rfl, rfl, rfl, by decide +kernel, rfl, by decide +kernel, by decide +kernel⟩
theorem ok_heads_of {f fw : Addr} {fd fdw : FuncData} (F : Fun K "heads_of" "heads_of" s_heads_of f fd) (T : THO mg fw) (F_with_parts : Fun K "with_parts" "with_parts" s_with_parts fw fdw) (b_with_parts : Binds K fdw ["row", "numbers"] [])
    (G_with_parts : FnOk P w K mg base CX0 1 fw fdw ["row", "numbers"] spWP) : FnOk P w K mg base CX0 2 f fd ["rows"] (spHO K) := by
  refine F.ok sc_heads_of (fun vs H Q E h => ?_) (fun cdv A outer s H vs Q E hr h => ?_)
  · obtain ⟨a, us, R, rfl, _⟩ := h
    rfl
  · obtain ⟨a, us, R, rfl, hS, rt, ok, r3, l2, k⟩ := h
    have hu := hr.units
    have hsz : sizeLine = 16777216 := PySem.sizeLine_eq
    have hu1 : (A.deeper (PyProof.Rows.envOfC (Str.ofString "heads_of") (defScope s_heads_of) s.heap.objs.size f cdv)).units + 1 < cLine := by omega
    have ul : us.length = R.length := Paired.length rt
    refine exQ (qpss_cons (qps_set (i := 1) sc_heads_of.nd rfl (by first | exact Or.inl rfl | exact Or.inr rfl) (qpe_lst qpa_nil))
    (qpss_cons (qps_set (i := 2) sc_heads_of.nd rfl (by first | exact Or.inl rfl | exact Or.inr rfl) qpe_dnewT)
    (qpss_cons (qps_for PassesOwn.never rfl (qpi_enumT (K := K) rfl rfl T.n_enumerate (qpa_cons (qpv 0) qpa_nil)) (qpg_tup (n := 2) rfl (qpgs_cons (qpg_name (i := 3) sc_heads_of.nd rfl (by first | exact Or.inl rfl | exact Or.inr rfl)) (qpgs_cons (qpg_name (i := 4) sc_heads_of.nd rfl (by first | exact Or.inl rfl | exact Or.inr rfl)) qpgs_nil)) (K := K) rfl) (qpss_one (qps_expr (qpe_bmL PySem.F.slot_list_append PySem.F.type_list_append mt_appendU (qpv 1) (qpa_cons (qpe_dsetT hu1 (qpv 2) (qpe_call G_with_parts (hr.mono (by decide)) rfl T.m_with_parts F_with_parts.kp b_with_parts .nil pass0 (qpa_cons (qpv 4) (qpa_cons (qpv 1) qpa_nil))) (qpv 3) ⟨rfl, rfl, rfl, rfl⟩) qpa_nil) mono_var))))
    (qpss_one (qps_ret (qpv 1)))))) ?_
    simp!
    refine ⟨by omega, fun p hp d hd => ?_⟩
    have npd : p ≠ d := ne_of_none upd_same hd
    have k0 : Kp [] H (upd (upd H p (.lst [])) d (.dT [])) := ((Kp.refl [] H).new hp).new hd
    have hd0 : H d = none := by rwa [upd_ne npd.symm] at hd
    refine ⟨⟨us, k0.sqT (by simp) hS⟩, ?_⟩
    refine loop_ETs (xs := us) (fun i σ H' => ∃ (hs : List Nat) (kvs : List (Row × V)) (v3 v4 : Option V), σ = [some (.ref a), some (.ref p), some (.ref d), v3, v4] ∧ hs.length = i ∧ HI R hs kvs ∧ H' p = some (.lst (hs.map nV)) ∧ H' d = some (.dT kvs) ∧ Kp [] H H') ?_ ?_ ?_ ?_
    · exact ⟨[], [], none, none, rfl, rfl, ⟨fun j h => by simp at h, fun j h => by simp at h, fun j h => by simp at h, fun k v h => by simp [valV] at h, fun k _ j h => by simp at h, Nat.le_refl _⟩, by rw [upd_ne npd, upd_same]; rfl, upd_same, k0⟩
    · rintro i σ H' _ ⟨hs, kvs, v3, v4, rfl, _, _, _, _, kp⟩
      exact kp.sqT (by simp) hS
    · rintro i x σ H1 t hx ⟨hs, kvs, v3, v4, rfl, hl, hi, h1, h2, kp⟩ ht
      have hil : i < R.length := by rw [← ul]; exact (List.getElem?_eq_some_iff.mp hx).1
      obtain ⟨c, hc, hcr⟩ := (rt.kp kp).get hil
      rw [hx] at hc
      cases hc
      refine ⟨t, [.int (i : Int), .ref c], rfl, SqT.of upd_same, rfl, ⟨_, _, rfl, ⟨_, _, rfl, rfl, ?_⟩⟩⟩
      have kT : Kp [] H1 (upd H1 t (.tup [.int (i : Int), .ref c])) := (Kp.refl [] H1).new ht
      generalize upd H1 t (.tup [.int (i : Int), .ref c]) = H2 at kT ⊢
      have h12 := kT.old _ _ h1 List.not_mem_nil
      have h22 := kT.old _ _ h2 List.not_mem_nil
      have rl := r3 _ (List.mem_of_getElem? (show R[i]? = some (R.getD i []) by rw [List.getD_eq_getElem?_getD, List.getElem?_eq_getElem hil]; rfl))
      simp! [h12]
      refine ⟨.inr ⟨kvs, .inl h22⟩, c, p, R.getD i [], hsF hs, rfl, kT.tup _ _ hcr, (ok.d hil).nn, rl, .inl ⟨hs, h12, fun q hq => ?_⟩, fun q H3 hq0 hq3 k3 => ?_⟩
      · have := mem_ptR (ok.d hil) hq
        unfold hsF
        rw [List.getD_eq_getElem?_getD, List.getElem?_eq_getElem (by omega)]; rfl
      have h13 := k3.old _ _ h12 List.not_mem_nil
      have h23 := k3.old _ _ h22 List.not_mem_nil
      have kp3 : Kp [] H H3 := kp.trans (kT.trans k3)
      have kl := hi.len
      subst hl
      refine ⟨kvs, h23, RwA R (hsF hs) hs.length, q, rfl, hq3, by omega, fun v hv => ?_, fun hv => ?_⟩
      · obtain ⟨j, j1, rfl, j3, j4⟩ := hi.d1 _ v hv
        rw [h13]
        refine ⟨_, rfl, by rw [List.length_map]; omega, hs ++ [j], kvs, _, _, ⟨rfl, rfl⟩, by simp, hi.step ok hil (by omega) j3 j4 (fun k => ?_) (by omega), by rw [List.map_append]; rfl, by rw [upd_ne npd.symm]; exact h23, kp3.set h13 (.inr hp)⟩
        by_cases c : k = RwA R (hsF hs) hs.length
        · rw [if_pos c, c]; exact hv
        · rw [if_neg c]
      · rw [upd_ne npd, h13]
        have kd : Kp [] H (upd H3 d (.dT (putK kvs (RwA R (hsF hs) hs.length) (V.int (hs.length : Int))))) := kp3.setD h23 (.inr hd0)
        refine ⟨_, rfl, by rw [List.length_map]; omega, hs ++ [hs.length], _, _, _, ⟨rfl, rfl⟩, by simp, hi.step (kvs' := putK kvs (RwA R (hsF hs) hs.length) (V.int (hs.length : Int))) ok hil (Nat.le_refl _) rfl (fun j hj => hi.d2 _ hv j hj) (fun k => valV_put _ _ _ _) (by have := length_putK kvs (RwA R (hsF hs) hs.length) (V.int (hs.length : Int)); omega), by rw [List.map_append]; rfl, by rw [upd_ne npd.symm, upd_same], kd.set (by rw [upd_ne npd]; exact h13) (.inr hp)⟩
    · rintro σ H1 ⟨hs, kvs, v3, v4, rfl, hl, hi, h1, h2, kp⟩
      simp!
      exact k p hs H1 ⟨fun i hi' => hi.le i (by omega), fun i hi' => hi.same i (by omega), fun i hi' => hi.first i (by omega)⟩ (by omega) hp h1 kp
end
theorem nodup_leN : ∀ {l zs : List Nat}, l.Nodup → (∀ x ∈ l, x ∈ zs) → l.length ≤ zs.length
  | [], _, _, _ => Nat.zero_le _
  | x :: l, zs, nd, h => by
    obtain ⟨hx, nd'⟩ := List.nodup_cons.mp nd
    have hm := h x (.head _)
    have := nodup_leN (l := l) (zs := zs.erase x) nd' fun y hy => (List.mem_erase_of_ne (fun e : y = x => hx (e ▸ hy))).mpr (h y (.tail _ hy))
    rw [List.length_erase_of_mem hm] at this
    have hp : 0 < zs.length := List.length_pos_of_mem hm
    rw [List.length_cons]
    omega
theorem kp_setK {S : List Addr} {H H1 : Hp} (k : Kp S H H1) {b : Addr} {kvs : List (Key × V)} {o : HO} (hb : H1 b = some (.dK kvs)) (h : b ∈ S ∨ H b = none) : Kp S H (upd H1 b o) := by
  have ne : ∀ c u, H c = some u → c ∉ S → c ≠ b := fun c u e n z => by
    subst z
    rcases h with h | h
    · exact n h
    · rw [h] at e; cases e
  refine ⟨fun c u e n => by rw [upd_ne (ne c u e n)]; exact k.old c u e n, fun c ys e => ?_, fun c u e => ?_⟩
  · have e1 := k.tup c ys e
    have : c ≠ b := fun z => by rw [z, hb] at e1; cases e1
    rw [upd_ne this]; exact e1
  · obtain ⟨o', e'⟩ := k.dom c u e
    by_cases q : c = b
    · subst q; exact ⟨o, upd_same⟩
    · exact ⟨o', by rw [upd_ne q]; exact e'⟩
theorem nil_snoc (l : List Nat) : l = [] ∨ ∃ s v, l = s ++ [v] := by
  rcases List.eq_nil_or_concat l with h | ⟨s, v, h⟩
  · exact .inl h
  · exact .inr ⟨s, v, by simpa using h⟩
def outR (R : List Row) (h : Nat → Nat) (dn : List Nat) : List Row := dn.map fun v => wpR (fun x => dn.idxOf x) (RwA R h v)
structure LI (R : List Row) (h : Nat → Nat) (st dn : List Nat) (kvs : List (L2.Key × V)) : Prop where
  fin : st.foldr (fun v d => wk (chd R h) v d) dn = ordR R h
  dec : st.Pairwise (fun a b => b < a)
  nst : ∀ v ∈ st, v ∉ dn ∧ v < R.length
  nd : dn.Nodup
  lt : ∀ v ∈ dn, v < R.length
  num : ∀ x : Nat, valV kvs (.inl (x : Int)) = if x ∈ dn then some (nV (dn.idxOf x)) else none
  kl : kvs.length ≤ dn.length
  inn : ∀ v ∈ dn, ∀ p ∈ chd R h v, p ∈ dn
theorem LI.bound {R : List Row} {h : Nat → Nat} {st dn : List Nat} {kvs : List (L2.Key × V)} (I : LI R h st dn kvs) : st.length + dn.length ≤ R.length := by
  have nd : (st ++ dn).Nodup := by
    rw [List.nodup_append]
    refine ⟨I.dec.imp fun h => by omega, I.nd, fun a ha b hb e => (I.nst a ha).1 (e ▸ hb)⟩
  have := nodup_leN (zs := List.range R.length) nd fun x hx => List.mem_range.mpr (by
    rcases List.mem_append.mp hx with h | h
    · exact (I.nst x h).2
    · exact I.lt x h)
  rw [List.length_append, List.length_range] at this
  exact this
theorem LI.push {R : List Row} {h : Nat → Nat} {st dn : List Nat} {v p : Nat} {rest : List Nat} {kvs : List (L2.Key × V)} (d : Dn (chd R h) R.length) (I : LI R h (st ++ [v]) dn kvs) (hf : (chd R h v).filter (fun q => !decide (q ∈ dn)) = p :: rest) : LI R h (st ++ [v] ++ [p]) dn kvs := by
  have hv := (I.nst v (by simp)).2
  have hp : p ∈ (chd R h v).filter (fun q => !decide (q ∈ dn)) := by rw [hf]; exact .head _
  obtain ⟨hp1, hp2⟩ := List.mem_filter.mp hp
  have pv := d v hv p hp1
  refine ⟨?_, ?_, ?_, I.nd, I.lt, I.num, I.kl, I.inn⟩
  · rw [← I.fin, List.foldr_append, List.foldr_append, List.foldr_append]
    show List.foldr _ (wk _ v (wk _ p dn)) st = List.foldr _ (wk _ v dn) st
    rw [wk_lack d hv hf]
  · rw [List.pairwise_append]
    refine ⟨I.dec, by simp, fun a ha b hb => ?_⟩
    simp at hb
    subst hb
    rcases List.mem_append.mp ha with h1 | h1
    · have := (List.pairwise_append.mp I.dec).2.2 a h1 v (by simp)
      omega
    · simp at h1; omega
  · intro u hu
    rcases List.mem_append.mp hu with h1 | h1
    · exact I.nst u h1
    · simp at h1; subst h1; exact ⟨by simpa using hp2, by omega⟩
theorem LI.pop {R : List Row} {h : Nat → Nat} {st dn : List Nat} {v : Nat} {kvs : List (L2.Key × V)} (d : Dn (chd R h) R.length) (I : LI R h (st ++ [v]) dn kvs) (hf : (chd R h v).filter (fun q => !decide (q ∈ dn)) = []) : LI R h st (dn ++ [v]) (putK kvs (.inl (v : Int)) (nV dn.length)) := by
  obtain ⟨hv1, hv2⟩ := I.nst v (by simp)
  have all : ∀ p ∈ chd R h v, p ∈ dn := fun p hp => by
    have := List.filter_eq_nil_iff.mp hf p hp
    simpa using this
  have cs : ∀ u ∈ dn ++ [v], u ∈ dn ∨ u = v := fun u hu => by simpa using hu
  refine ⟨?_, (List.pairwise_append.mp I.dec).1, fun u hu => ?_, ?_, fun u hu => ?_, fun x => ?_, ?_, fun u hu p hp => ?_⟩
  · rw [← I.fin, List.foldr_append]
    show List.foldr _ (dn ++ [v]) st = List.foldr _ (wk _ v dn) st
    rw [wk_none d hv2 hf]
  · obtain ⟨h1, h2⟩ := I.nst u (by simp [hu])
    have := (List.pairwise_append.mp I.dec).2.2 u hu v (by simp)
    exact ⟨fun z => (cs u z).elim h1 (by omega), h2⟩
  · rw [List.nodup_append]
    exact ⟨I.nd, by simp, fun a ha b hb e => hv1 ((e.trans (List.mem_singleton.mp hb)) ▸ ha)⟩
  · rcases cs u hu with h1 | rfl
    · exact I.lt u h1
    · exact hv2
  · rw [valV_put, I.num]
    by_cases c : x = v
    · subst c
      rw [if_pos rfl, if_pos (by simp), List.idxOf_append, if_neg hv1]
      simp
    · rw [if_neg (by simpa using fun z : (x : Int) = v => c (by omega))]
      by_cases hx : x ∈ dn
      · rw [if_pos hx, if_pos (by simp [hx]), ix_app hx]
      · rw [if_neg hx, if_neg (by simp [hx, c])]
  · have := length_putK kvs (.inl (v : Int)) (nV dn.length)
    have := I.kl
    rw [List.length_append]
    simp only [List.length_cons, List.length_nil]
    omega
  · rcases cs u hu with h1 | rfl
    · exact List.mem_append_left _ (I.inn u h1 p hp)
    · exact List.mem_append_left _ (all p hp)
theorem out_pop {R : List Row} {h : Nat → Nat} {dn : List Nat} {v : Nat} (inn : ∀ v ∈ dn, ∀ p ∈ chd R h v, p ∈ dn) (hv : ∀ p ∈ chd R h v, p ∈ dn) : outR R h (dn ++ [v]) = outR R h dn ++ [wpR (fun x => dn.idxOf x) (RwA R h v)] := by
  unfold outR
  rw [List.map_append]
  congr 1
  · exact List.map_congr_left fun u hu => wpR_congr fun p hp => ix_app (inn u hu p hp)
  · show [_] = [_]
    congr 1
    exact wpR_congr fun p hp => ix_app (hv p hp)
def notI (dn : List Nat) : V → Bool
  | .int i => !decide (i.toNat ∈ dn)
  | _ => false
theorem notI_map (dn ps : List Nat) : (ps.map nV).filter (notI dn) = (ps.filter fun q => !decide (q ∈ dn)).map nV := by
  rw [List.filter_map]
  congr 1
def spIO (K : PySem.W.Frag) : Sp := fun vs H Q _ => ∃ (a : Addr) (us : List V) (R : List Row), vs = [.ref a] ∧ SqT K H a us ∧ RowsT H us R ∧ OkR R ∧ (∀ r ∈ R, r.length ≤ 100) ∧ 1 ≤ R.length ∧ R.length ≤ 20000 ∧
  ∀ q us' F H', TidP R F → H q = none → FzT H' q us' → RowsT H' us' F → Kp [] H H' → Q (.ref q) H'
structure TIO (mg : Str → Option Value) (fh fw fp : Addr) : Prop where
  n_len : mg "len" = none
  n_tuple : mg "tuple" = none
  m_heads_of : mg "heads_of" = some (.ref fh)
  m_with_parts : mg "with_parts" = some (.ref fw)
  m_parts_of : mg "parts_of" = some (.ref fp)
section
variable {P : Program} {w : World} {K : PySem.W.Frag} {mg : Str → Option Value} {base : Heap}
abbrev s_in_order : Stmt := top 6
theorem sc_in_order : FnScope ["rows", "heads", "numbers", "ordered", "due", "row", "lacking"] ["rows"] (defScope s_in_order) := ⟨rfl, rfl, rfl, by decide +kernel, rfl, by decide +kernel, by decide +kernel⟩
theorem ok_in_order {f fh fw fp : Addr} {fd fdh fdw fdp : FuncData} (F : Fun K "in_order" "in_order" s_in_order f fd) (T : TIO mg fh fw fp) (F_heads_of : Fun K "heads_of" "heads_of" s_heads_of fh fdh) (b_heads_of : Binds K fdh ["rows"] [])
    (G_heads_of : FnOk P w K mg base CX0 2 fh fdh ["rows"] (spHO K)) (F_with_parts : Fun K "with_parts" "with_parts" s_with_parts fw fdw) (b_with_parts : Binds K fdw ["row", "numbers"] [])
    (G_with_parts : FnOk P w K mg base CX0 1 fw fdw ["row", "numbers"] spWP) (F_parts_of : Fun K "parts_of" "parts_of" s_parts_of fp fdp) (b_parts_of : Binds K fdp ["row"] [])
    (G_parts_of : FnOk P w K mg base CX0 1 fp fdp ["row"] spParts) : FnOk P w K mg base CX0 3 f fd ["rows"] (spIO K) := by
  refine F.ok sc_in_order (fun vs H Q E h => ?_) (fun cdv A outer s H vs Q E hr h => ?_)
  · obtain ⟨a, us, R, rfl, _⟩ := h
    rfl
  · obtain ⟨a, us, R, rfl, hS, rt, ok, r3, l1, l2, k⟩ := h
    have hu := hr.units
    have hsz : sizeLine = 16777216 := PySem.sizeLine_eq
    have hu1 : (A.deeper (PyProof.Rows.envOfC (Str.ofString "in_order") (defScope s_in_order) s.heap.objs.size f cdv)).units + 1 < cLine := by omega
    have ul : us.length = R.length := Paired.length rt
    refine exQ (qpss_cons (qps_set (i := 1) sc_in_order.nd rfl (by first | exact Or.inl rfl | exact Or.inr rfl) (qpe_call G_heads_of (hr.mono (by decide)) rfl T.m_heads_of F_heads_of.kp b_heads_of .nil pass0 (qpa_cons (qpv 0) qpa_nil)))
    (qpss_cons (qps_set (i := 2) sc_in_order.nd rfl (by first | exact Or.inl rfl | exact Or.inr rfl) qpe_disp0)
    (qpss_cons (qps_set (i := 3) sc_in_order.nd rfl (by first | exact Or.inl rfl | exact Or.inr rfl) (qpe_lst qpa_nil))
    (qpss_cons (qps_set (i := 4) sc_in_order.nd rfl (by first | exact Or.inl rfl | exact Or.inr rfl) (qpe_lst (qpa_cons (qpe_ix ix_U (qpv 1) (qpe_un un_neg qpe_int) (fun _ _ => rfl)) qpa_nil)))
    (qpss_cons (qps_while PassesOwn.never (qpt_tru (qpv 4)) (qpss_cons (qps_set (i := 5) sc_in_order.nd rfl (by first | exact Or.inl rfl | exact Or.inr rfl) (qpe_call G_with_parts (hr.mono (by decide)) rfl T.m_with_parts F_with_parts.kp b_with_parts .nil pass0 (qpa_cons (qpe_ix ix_tup (qpv 0) (qpe_ix ix_U (qpv 4) (qpe_un un_neg qpe_int) (fun _ _ => rfl)) (fun _ _ => rfl)) (qpa_cons (qpv 1) qpa_nil))))
    (qpss_cons (qps_setcIf (i := 6) sc_in_order.nd rfl (by first | exact Or.inl rfl | exact Or.inr rfl) rfl (compOk_of (sc := defScope s_in_order) (N := ["rows", "heads", "numbers", "ordered", "due", "row", "lacking"]) (Nc := ["part", "numbers"]) (js := [none, some 2]) (by decide +kernel)) (qpi_any (K := K) (qpe_call G_parts_of (hr.mono (by decide)) rfl T.m_parts_of F_parts_of.kp b_parts_of .nil pass0 (qpa_cons (qpv 5) qpa_nil)) rfl) (fun _ _ _ _ => (qpg_name (i := 0) (show List.Nodup [("part" : Str), ("numbers" : Str)] from by decide +kernel) rfl (by first | exact Or.inl rfl | exact Or.inr rfl))) (fun _ _ _ _ => (qpt_cmp (qpc_dnotin hu1 (qpv 0) (qpv 1)) (by with_unfolding_all rfl))) (fun _ _ _ _ => (qpv 0)))
    (qpss_mid (qps_if (qpt_tru (qpv 6)) (qpss_cons (qps_expr (qpe_bmL PySem.F.slot_list_append PySem.F.type_list_append mt_appendU (qpv 4) (qpa_cons (qpe_ix ix_U (qpv 6) qpe_int (fun _ _ => rfl)) qpa_nil) mono_var))
    (qpss_one qps_continue)) qpss_nil)
    (qpss_cons (qps_dput hu1 (qpv 2) (qpe_bmL0 PySem.F.slot_list_pop PySem.F.type_list_pop mt_pop0U (qpv 4) mono_var) (qpe_callB call_lenU (by rfl) T.n_len bt_len (qpa_cons (qpv 3) qpa_nil)) rfl)
    (qpss_one (qps_expr (qpe_bmL PySem.F.slot_list_append PySem.F.type_list_append mt_appendU (qpv 3) (qpa_cons (qpe_call G_with_parts (hr.mono (by decide)) rfl T.m_with_parts F_with_parts.kp b_with_parts .nil pass0 (qpa_cons (qpv 5) (qpa_cons (qpv 2) qpa_nil))) qpa_nil) mono_var))))))))
    (qpss_one (qps_ret (qpe_callTy call_tupleF (by rfl) T.n_tuple bt_tuple (qpa_cons (qpv 3) qpa_nil))))))))) ?_
    simp!
    refine ⟨a, us, R, rfl, hS, rt, ok, r3, l2, fun ph hs H1 hd hl hp0 hp1 k1 => ?_⟩
    have d := chd_dn ok hd
    intro pn hn
    refine ⟨by omega, fun po ho => ?_⟩
    have npo : pn ≠ po := ne_of_none upd_same ho
    have nhn : ph ≠ pn := ne_of_none hp1 hn
    have nho : ph ≠ po := ne_of_none (by rw [upd_ne nhn]; exact hp1) ho
    have e2 : upd (upd H1 pn (.dK [])) po (.lst []) ph = some (.lst (hs.map nV)) := by rw [upd_ne nho, upd_ne nhn]; exact hp1
    rw [rIxU_ref, e2]
    refine ⟨_, rfl, nV (hsF hs (R.length - 1)), atI_m1 ?_, by omega, fun pd hpd => ?_⟩
    · rw [List.length_map, List.getElem?_map, hl]
      unfold hsF
      rw [List.getD_eq_getElem?_getD, List.getElem?_eq_getElem (by omega)]; rfl
    have npd : pn ≠ pd := ne_of_none (by rw [upd_ne npo, upd_same]) hpd
    have nod : po ≠ pd := ne_of_none upd_same hpd
    have nhd : ph ≠ pd := ne_of_none e2 hpd
    have kk : Kp [] H (upd (upd (upd H1 pn (.dK [])) po (.lst [])) pd (.lst [nV (hsF hs (R.length - 1))])) := ((k1.new hn).new ho).new hpd
    have hn0 : H pn = none := k1.free hn
    have ho0 : H po = none := (k1.new hn).free ho
    have hd0 : H pd = none := ((k1.new hn).new ho).free hpd
    refine ⟨fun m σ H' => ∃ (st dn : List Nat) (kvs : List (L2.Key × V)) (os : List V) (v5 v6 : Option V), σ = [some (.ref a), some (.ref ph), some (.ref pn), some (.ref po), some (.ref pd), v5, v6] ∧ LI R (hsF hs) st dn kvs ∧ m = 2 * (R.length - dn.length) - st.length ∧
      H' ph = some (.lst (hs.map nV)) ∧ H' pn = some (.dK kvs) ∧ H' po = some (.lst os) ∧ RowsT H' os (outR R (hsF hs) dn) ∧ H' pd = some (.lst (st.map nV)) ∧ Kp [] H H', ?_, ?_⟩
    · refine ⟨_, [hsF hs (R.length - 1)], [], [], [], none, none, rfl, ⟨rfl, by simp, fun v hv => ?_, List.nodup_nil, by simp, fun x => by simp [valV], Nat.le_refl _, by simp⟩, rfl, ?_, ?_, ?_, .nil, upd_same, kk⟩
      · simp at hv
        subst hv
        have := hd.le (R.length - 1) (by omega)
        exact ⟨by simp, by omega⟩
      · rw [upd_ne nhd]; exact e2
      · rw [upd_ne npd, upd_ne npo, upd_same]
      · rw [upd_ne nod, upd_same]
    rintro m σ H2 ⟨st, dn, kvs, os, v5, v6, rfl, I, rfl, g1, g2, g3, g4, g5, kp⟩
    simp! [g5]
    have hsq : ∀ q, q < R.length → hs[q]? = some (hsF hs q) := fun q hq => by
      unfold hsF
      rw [List.getD_eq_getElem?_getD, List.getElem?_eq_getElem (by omega)]; rfl
    rcases nil_snoc st with rfl | ⟨s0, v, rfl⟩
    · rw [if_neg (by simp)]
      refine ⟨po, os, rfl, g3, fun l H3 hl3 fz k3 => k l os _ H3 ⟨hsF hs, hd, ?_⟩ (kp.free hl3) fz (g4.kp k3) (kp.trans k3)⟩
      have : dn = ordR R (hsF hs) := I.fin
      rw [this]; rfl
    rw [if_pos (by simp)]
    obtain ⟨hv1, hv2⟩ := I.nst v (by simp)
    obtain ⟨c, hc, hcr⟩ := (rt.kp kp).get hv2
    have rl := r3 _ (List.mem_of_getElem? (show R[v]? = some (R.getD v []) by rw [List.getD_eq_getElem?_getD, List.getElem?_eq_getElem hv2]; rfl))
    have bd := I.bound
    rw [List.length_append, List.length_cons, List.length_nil] at bd
    have kl := I.kl
    have ol : os.length = dn.length := by rw [Paired.length g4]; simp [outR]
    refine ⟨_, fun _ _ h => h, nV v, by rw [List.map_append]; exact atI_last _ _, ⟨a, us, (v : Int), .ref c, rfl, rfl, kp.sqT (by simp) hS, atI_nat hc, ?_⟩⟩
    refine ⟨c, ph, R.getD v [], hsF hs, rfl, hcr, (ok.d hv2).nn, rl, .inl ⟨hs, g1, fun q hq => hsq q (by have := mem_ptR (ok.d hv2) hq; omega)⟩, fun q H3 hq0 hq3 k3 => ?_⟩
    have wl : (RwA R (hsF hs) v).length ≤ 100 := by unfold RwA wpR; rw [List.length_map]; exact rl
    refine ⟨q, RwA R (hsF hs) v, rfl, hq3, nonneg_wp _ _, wl, fun pp hpp => ?_⟩
    have k4 : Kp [] H3 (upd H3 pp (.lst ((ptR (RwA R (hsF hs) v)).map nV))) := (Kp.refl [] H3).new hpp
    have e4 : upd H3 pp (.lst ((ptR (RwA R (hsF hs) v)).map nV)) pp = some (.lst ((ptR (RwA R (hsF hs) v)).map nV)) := upd_same
    generalize upd H3 pp (.lst ((ptR (RwA R (hsF hs) v)).map nV)) = H4 at k4 e4 ⊢
    have k24 := k3.trans k4
    have g14 := k24.old _ _ g1 List.not_mem_nil
    have g24 := k24.old _ _ g2 List.not_mem_nil
    have g34 := k24.old _ _ g3 List.not_mem_nil
    have g44 := g4.kp k24
    have g54 := k24.old _ _ g5 List.not_mem_nil
    have hq4 := k4.tup _ _ hq3
    have kp4 : Kp [] H H4 := kp.trans k24
    simp! [e4]
    intro D hD
    have nnD : pn ≠ D := ne_of_none g24 hD
    have pl : (ptR (RwA R (hsF hs) v)).length ≤ 100 := Nat.le_trans (List.length_filterMap_le _ _) wl
    refine compIf_list (notI dn) id e4 hD (by rw [List.length_map]; omega) (fun x hx l Q' q => ?_) (fun x hx _ l Q' q => ?_) fun vv => ?_
    · obtain ⟨y, hy, rfl⟩ := List.mem_map.mp hx
      simp!
      refine ⟨_, DGet.k (k := .inl (y : Int)) (by rw [upd_ne nnD]; exact g24), ?_⟩
      rw [I.num y]
      have : notI dn (nV y) = !(if y ∈ dn then some (nV (dn.idxOf y)) else none).isSome := by
        show (!decide (y ∈ dn)) = _
        by_cases h : y ∈ dn <;> simp [h]
      rw [← this]
      exact q
    · simp!
      exact q
    rw [List.map_id, notI_map]
    have kD : Kp [] H4 (upd H4 D (.lst (((ptR (RwA R (hsF hs) v)).filter fun q => !decide (q ∈ dn)).map nV))) := (Kp.refl [] H4).new hD
    have eD : upd H4 D (.lst (((ptR (RwA R (hsF hs) v)).filter fun q => !decide (q ∈ dn)).map nV)) D = some (.lst (((ptR (RwA R (hsF hs) v)).filter fun q => !decide (q ∈ dn)).map nV)) := upd_same
    generalize upd H4 D (.lst (((ptR (RwA R (hsF hs) v)).filter fun q => !decide (q ∈ dn)).map nV)) = H5 at kD eD ⊢
    have g15 := kD.old _ _ g14 List.not_mem_nil
    have g25 := kD.old _ _ g24 List.not_mem_nil
    have g35 := kD.old _ _ g34 List.not_mem_nil
    have g45 := g44.kp kD
    have g55 := kD.old _ _ g54 List.not_mem_nil
    have hq5 := kD.tup _ _ hq4
    have kp5 : Kp [] H H5 := kp4.trans kD
    clear g14 g24 g34 g44 g54 hq4 kp4 kD k4 k24 k3 hq3 g1 g2 g3 g4 g5 kp hD hpp
    cases hf : (ptR (RwA R (hsF hs) v)).filter fun q => !decide (q ∈ dn) with
    | cons p1 rest =>
      rw [hf] at eD
      refine ⟨fun _ _ => False, ?_, fun _ _ h => h.elim⟩
      simp! [eD, g55]
      rw [if_pos (show (!(nV p1 :: List.map nV rest).isEmpty) = true from rfl)]
      have I' := I.push d hf
      have bd' := I'.bound
      have ll : (s0 ++ [v] ++ [p1]).length = (s0 ++ [v]).length + 1 := by simp
      have l0 : (s0 ++ [v]).length = s0.length + 1 := by simp
      refine ⟨by rw [List.length_map]; omega, _, ?_, s0 ++ [v] ++ [p1], dn, kvs, os, _, _, ⟨rfl, rfl⟩, I', rfl, ?_, ?_, ?_, ?_, ?_, kp5.set g55 (.inr hd0)⟩
      · omega
      · rw [upd_ne nhd]; exact g15
      · rw [upd_ne npd]; exact g25
      · rw [upd_ne nod]; exact g35
      · exact g45.kp ((Kp.refl [pd] H5).set g55 (.inl (.head _)))
      · rw [List.map_append (l₁ := s0 ++ [v])]; rfl
    | nil =>
      rw [hf] at eD
      refine ⟨fun σ' H' => σ' = [some (.ref a), some (.ref ph), some (.ref pn), some (.ref po), some (.ref pd), some (.ref q), some (.ref D)] ∧ H5 = H', ?_, ?_⟩
      · simp! [eD]
        rw [if_neg (by simp)]
        trivial
      rintro _ _ ⟨rfl, rfl⟩
      have I' := I.pop d hf
      have all : ∀ p ∈ chd R (hsF hs) v, p ∈ dn := fun p hp => by
        have := List.filter_eq_nil_iff.mp hf p hp
        simpa using this
      have dl : (List.map nV (s0 ++ [v])).dropLast = s0.map nV := by simp
      simp! [g35, g55]
      rw [ol, dl]
      refine ⟨nV v, by simp, upd (upd H5 pd (.lst (s0.map nV))) pn (.dK (putK kvs (.inl (v : Int)) (nV dn.length))), DPut.k (k := .inl (v : Int)) (v := nV dn.length) (by rw [upd_ne npd]; exact g25) (by omega), ?_⟩
      have k6 : Kp [pd, pn] H5 (upd (upd H5 pd (.lst (s0.map nV))) pn (.dK (putK kvs (.inl (v : Int)) (nV dn.length)))) := kp_setK ((Kp.refl [pd, pn] H5).set g55 (.inl (.head _))) (by rw [upd_ne npd]; exact g25) (.inl (by simp))
      have kp6 : Kp [] H (upd (upd H5 pd (.lst (s0.map nV))) pn (.dK (putK kvs (.inl (v : Int)) (nV dn.length)))) := kp_setK (kp5.set g55 (.inr hd0)) (by rw [upd_ne npd]; exact g25) (.inr hn0)
      have e6n : upd (upd H5 pd (.lst (s0.map nV))) pn (.dK (putK kvs (.inl (v : Int)) (nV dn.length))) pn = some (.dK (putK kvs (.inl (v : Int)) (nV dn.length))) := upd_same
      have e6d : upd (upd H5 pd (.lst (s0.map nV))) pn (.dK (putK kvs (.inl (v : Int)) (nV dn.length))) pd = some (.lst (s0.map nV)) := by rw [upd_ne npd.symm, upd_same]
      generalize upd (upd H5 pd (.lst (s0.map nV))) pn (.dK (putK kvs (.inl (v : Int)) (nV dn.length))) = H6 at k6 kp6 e6n e6d ⊢
      have e6o := k6.old _ _ g35 (by simp [nod, npo.symm])
      have e6h := k6.old _ _ g15 (by simp [nhd, nhn])
      refine ⟨by rw [e6o]; rfl, q, pn, RwA R (hsF hs) v, fun x => dn.idxOf x, rfl, k6.tup _ _ hq5, nonneg_wp _ _, wl, .inr ⟨_, e6n, fun p hp => ?_⟩, fun q2 H7 hq20 hq27 k7 => ?_⟩
      · rw [I'.num p, if_pos (List.mem_append_left _ (all p hp)), ix_app (all p hp)]
      have e7o := k7.old _ _ e6o List.not_mem_nil
      have e7n := k7.old _ _ e6n List.not_mem_nil
      have e7d := k7.old _ _ e6d List.not_mem_nil
      have e7h := k7.old _ _ e6h List.not_mem_nil
      have l0 : (s0 ++ [v]).length = s0.length + 1 := by simp
      have l1' : (dn ++ [v]).length = dn.length + 1 := by simp
      have k8 : Kp [po] H7 (upd H7 po (.lst (os ++ [.ref q2]))) := (Kp.refl [po] H7).set e7o (.inl (.head _))
      refine ⟨os, by rw [e7o]; rfl, by omega, _, ?_, s0, dn ++ [v], _, os ++ [.ref q2], _, _, ⟨rfl, rfl⟩, I', rfl, ?_, ?_, rfl, ?_, ?_, (kp6.trans k7).set e7o (.inr ho0)⟩
      · omega
      · rw [upd_ne nho]; exact e7h
      · rw [upd_ne npo]; exact e7n
      · rw [out_pop I.inn all]
        exact Paired.snoc ((((g45.kp k6).kp k7)).kp k8) ⟨q2, rfl, k8.tup _ _ hq27⟩
      · rw [upd_ne nod.symm]; exact e7d
end
inductive W4 where
  | par | op (w : BW) | no
def ws : W4 → Str
  | .par => "("
  | .op w => ew w
  | .no => "not"
def bpi : W4 → Int
  | .par => -1
  | .op .or => 0
  | .op .and => 1
  | .op .beh => 2
  | .no => 3
inductive Bd (k : Int) : List W4 → List Nat → List RE → List W4 → List Nat → List RE → Prop
  | nil {rd : List Nat} {R : List RE} : Bd k [] rd R [] rd R
  | stop {w : W4} {wt : List W4} {rd : List Nat} {R : List RE} : bpi w < k → Bd k (w :: wt) rd R (w :: wt) rd R
  | no {wt : List W4} {l : Nat} {rd : List Nat} {R : List RE} {a : List W4} {b : List Nat} {c : List RE} : k ≤ 3 → Bd k wt (R.length :: rd) (R ++ [.no l]) a b c → Bd k (.no :: wt) (l :: rd) R a b c
  | op {w : BW} {wt : List W4} {l f : Nat} {rd : List Nat} {R : List RE} {a : List W4} {b : List Nat} {c : List RE} : k ≤ bpi (.op w) → Bd k wt (R.length :: rd) (R ++ [.bin w f l]) a b c → Bd k (.op w :: wt) (l :: f :: rd) R a b c
theorem Bd.len {k : Int} {wt : List W4} {rd : List Nat} {R : List RE} {a : List W4} {b : List Nat} {c : List RE} (h : Bd k wt rd R a b c) : R.length ≤ c.length ∧ c.length + a.length = R.length + wt.length ∧ b.length ≤ rd.length := by
  induction h with
  | nil => simp
  | stop => simp
  | no _ _ ih => simp only [List.length_append, List.length_cons, List.length_nil] at ih ⊢; omega
  | op _ _ ih => simp only [List.length_append, List.length_cons, List.length_nil] at ih ⊢; omega
def RF (pr pd pw : Addr) (op : Int) (du : Bool) : List (Str × V) := [("rows", .ref pr), ("ready", .ref pd), ("waiting", .ref pw), ("opened", .int op), ("due", .bl du)]
structure RC (K : PySem.W.Frag) (C : Addr) : Prop where
  cls : Cls K C
  rows : NoAttr K C "rows"
  ready : NoAttr K C "ready"
  waiting : NoAttr K C "waiting"
  opened : NoAttr K C "opened"
  due : NoAttr K C "due"
def RowE (H : Hp) (us : List V) (R : List RE) : Prop := Paired (fun v r => ∃ a, v = .ref a ∧ H a = some (.tup (erowV r))) us R
theorem RowE.kp {S : List Addr} {H H' : Hp} {us : List V} {R : List RE} (k : Kp S H H') (h : RowE H us R) : RowE H' us R := Paired.mapP h fun _ _ ⟨a, e, h⟩ => ⟨a, e, k.tup _ _ h⟩
structure RdI (H : Hp) (x C dx pr pd pw : Addr) (wt : List W4) (rd : List Nat) (R : List RE) (op : Int) (du : Bool) : Prop where
  hx : H x = some (.ins C dx (RF pr pd pw op du))
  hr : ∃ us, H pr = some (.lst us) ∧ RowE H us R
  hd : H pd = some (.lst (rd.reverse.map nV))
  hw : H pw = some (.lst (wt.reverse.map fun w => V.str (ws w)))
  n1 : pr ≠ pd
  n2 : pr ≠ pw
  n3 : pd ≠ pw
section
variable {K : PySem.W.Frag} {H : Hp} {x C dx pr pd pw : Addr} {wt : List W4} {rd : List Nat} {R : List RE} {op : Int} {du : Bool} {σ : L2.St} {i : Nat} {Q : VK}
theorem fld0 {fs : List (Str × V)} {f : Str} {v : V} (e : σ[i]? = some (some (.ref x))) (hx : H x = some (.ins C dx fs)) (c : Cls K C) (n : NoAttr K C f) (l : fs.lookup f = some v) (q : Q v H) : tFld K (tVar i) f σ H Q := ⟨.ref x, e, x, C, dx, fs, v, rfl, hx, c, n, l, q⟩
theorem RdI.rows (I : RdI H x C dx pr pd pw wt rd R op du) (c : RC K C) (e : σ[i]? = some (some (.ref x))) (q : Q (.ref pr) H) : tFld K (tVar i) "rows" σ H Q := fld0 e I.hx c.cls c.rows rfl q
theorem RdI.ready (I : RdI H x C dx pr pd pw wt rd R op du) (c : RC K C) (e : σ[i]? = some (some (.ref x))) (q : Q (.ref pd) H) : tFld K (tVar i) "ready" σ H Q := fld0 e I.hx c.cls c.ready rfl q
theorem RdI.waiting (I : RdI H x C dx pr pd pw wt rd R op du) (c : RC K C) (e : σ[i]? = some (some (.ref x))) (q : Q (.ref pw) H) : tFld K (tVar i) "waiting" σ H Q := fld0 e I.hx c.cls c.waiting rfl q
theorem RdI.opened (I : RdI H x C dx pr pd pw wt rd R op du) (c : RC K C) (e : σ[i]? = some (some (.ref x))) (q : Q (.int op) H) : tFld K (tVar i) "opened" σ H Q := fld0 e I.hx c.cls c.opened rfl q
theorem RdI.due (I : RdI H x C dx pr pd pw wt rd R op du) (c : RC K C) (e : σ[i]? = some (some (.ref x))) (q : Q (.bl du) H) : tFld K (tVar i) "due" σ H Q := fld0 e I.hx c.cls c.due rfl q
theorem RdI.setDue (I : RdI H x C dx pr pd pw wt rd R op du) (c : RC K C) {D : Ends} {b : Bool} (e : σ[i]? = some (some (.ref x))) (q : D.nx σ (upd H x (.ins C dx (RF pr pd pw op b)))) : sFld K (tVar i) (tC (.bl b)) "due" D σ H := ⟨.ref x, e, x, C, dx, _, rfl, I.hx, c.cls, c.due, by simp [RF], q⟩
theorem RdI.addO (I : RdI H x C dx pr pd pw wt rd R op du) (c : RC K C) {D : Ends} {z : Int} (e : σ[i]? = some (some (.ref x))) (q : D.nx σ (upd H x (.ins C dx (RF pr pd pw (op + z) du)))) : sFldAug K (tVar i) (tC (.int z)) rAdd "opened" D σ H := ⟨.ref x, e, x, C, dx, _, .int op, rfl, I.hx, c.cls, c.opened, rfl, op, z, rfl, rfl, dx, _, I.hx, by simp [RF], q⟩
theorem RdI.subO (I : RdI H x C dx pr pd pw wt rd R op du) (c : RC K C) {D : Ends} {z : Int} (e : σ[i]? = some (some (.ref x))) (q : D.nx σ (upd H x (.ins C dx (RF pr pd pw (op - z) du)))) : sFldAug K (tVar i) (tC (.int z)) rSub "opened" D σ H := ⟨.ref x, e, x, C, dx, _, .int op, rfl, I.hx, c.cls, c.opened, rfl, op, z, rfl, rfl, dx, _, I.hx, by simp [RF], q⟩
theorem RdI.fields (I : RdI H x C dx pr pd pw wt rd R op du) (op' : Int) (du' : Bool) : RdI (upd H x (.ins C dx (RF pr pd pw op' du'))) x C dx pr pd pw wt rd R op' du' ∧ Kp [x, pr, pd, pw] H (upd H x (.ins C dx (RF pr pd pw op' du'))) := by
  have ne : ∀ b o, H b = some o → (∀ C dx fs, o ≠ .ins C dx fs) → b ≠ x := fun b o e n z => by
    rw [z, I.hx] at e
    exact n _ _ _ (Option.some.inj e).symm
  obtain ⟨us, hr, rr⟩ := I.hr
  refine ⟨⟨upd_same, ⟨us, by rw [upd_ne (ne _ _ hr fun _ _ _ z => by cases z)]; exact hr, Paired.mapP rr fun _ _ ⟨a, e, h⟩ => ⟨a, e, by rw [upd_ne (ne _ _ h fun _ _ _ z => by cases z)]; exact h⟩⟩, by rw [upd_ne (ne _ _ I.hd fun _ _ _ z => by cases z)]; exact I.hd, by rw [upd_ne (ne _ _ I.hw fun _ _ _ z => by cases z)]; exact I.hw, I.n1, I.n2, I.n3⟩, ?_⟩
  refine ⟨fun b v e n => ?_, fun b xs e => ?_, fun b v e => ?_⟩
  · rw [upd_ne fun z => n (by rw [z]; simp)]; exact e
  · rw [upd_ne (ne _ _ e fun _ _ _ z => by cases z)]; exact e
  · by_cases z : b = x
    · rw [z, upd_same]; exact ⟨_, rfl⟩
    · rw [upd_ne z]; exact ⟨v, e⟩
theorem RdI.kpL {p : Addr} {xs : List V} {y : HO} (I : RdI H x C dx pr pd pw wt rd R op du) (hp : H p = some (.lst xs)) (m : p ∈ [x, pr, pd, pw]) : Kp [x, pr, pd, pw] H (upd H p y) := (Kp.refl _ H).set hp (.inl m)
theorem RdI.nx {p : Addr} {xs : List V} (I : RdI H x C dx pr pd pw wt rd R op du) (hp : H p = some (.lst xs)) : x ≠ p := fun z => by rw [← z, I.hx] at hp; cases hp
theorem RdI.putW (I : RdI H x C dx pr pd pw wt rd R op du) (wt' : List W4) : RdI (upd H pw (.lst (wt'.reverse.map fun w => V.str (ws w)))) x C dx pr pd pw wt' rd R op du := by
  obtain ⟨us, hr, rr⟩ := I.hr
  exact ⟨by rw [upd_ne (I.nx I.hw)]; exact I.hx, ⟨us, by rw [upd_ne I.n2]; exact hr, rr.kp (I.kpL I.hw (by simp))⟩, by rw [upd_ne I.n3]; exact I.hd, upd_same, I.n1, I.n2, I.n3⟩
theorem RdI.putD (I : RdI H x C dx pr pd pw wt rd R op du) (rd' : List Nat) : RdI (upd H pd (.lst (rd'.reverse.map nV))) x C dx pr pd pw wt rd' R op du := by
  obtain ⟨us, hr, rr⟩ := I.hr
  exact ⟨by rw [upd_ne (I.nx I.hd)]; exact I.hx, ⟨us, by rw [upd_ne I.n1]; exact hr, rr.kp (I.kpL I.hd (by simp))⟩, upd_same, by rw [upd_ne I.n3.symm]; exact I.hw, I.n1, I.n2, I.n3⟩
theorem RdI.new {p : Addr} {o : HO} (I : RdI H x C dx pr pd pw wt rd R op du) (hp : H p = none) : RdI (upd H p o) x C dx pr pd pw wt rd R op du := by
  obtain ⟨us, hr, rr⟩ := I.hr
  have ne : ∀ b u, H b = some u → b ≠ p := fun b u e => ne_of_none e hp
  exact ⟨by rw [upd_ne (ne _ _ I.hx)]; exact I.hx, ⟨us, by rw [upd_ne (ne _ _ hr)]; exact hr, rr.kp ((Kp.refl [] H).new hp)⟩, by rw [upd_ne (ne _ _ I.hd)]; exact I.hd, by rw [upd_ne (ne _ _ I.hw)]; exact I.hw, I.n1, I.n2, I.n3⟩
end
def spPR (C : Addr) : Sp := fun vs H Q _ => ∃ (x dx pr pd pw a : Addr) (wt : List W4) (rd : List Nat) (R : List RE) (op : Int) (du : Bool) (r : RE), vs = [.ref x, .ref a] ∧ RdI H x C dx pr pd pw wt rd R op du ∧ H a = some (.tup (erowV r)) ∧ R.length ≤ 100000 ∧ rd.length ≤ 100000 ∧
  ∀ H', RdI H' x C dx pr pd pw wt (R.length :: rd) (R ++ [r]) op du → Kp [x, pr, pd, pw] H H' → Q .non H'
structure TPR (K : PySem.W.Frag) (mg : Str → Option Value) (C : Addr) : Prop where
  n_len : mg "len" = none
  rc : RC K C
section
variable {P : Program} {w : World} {K : PySem.W.Frag} {mg : Str → Option Value} {base : Heap}
abbrev s_Rd_put_row : Stmt := methN (top 14) 6
theorem sc_Rd_put_row : FnScope ["self", "row"] ["self", "row"] (defScope s_Rd_put_row) := ⟨rfl, rfl, rfl, by decide +kernel, rfl, by decide +kernel, by decide +kernel⟩
theorem ok_put_row {f C : Addr} {fd : FuncData} (F : Fun K "put_row" "Reading.put_row" s_Rd_put_row f fd) (T : TPR K mg C) : FnOk P w K mg base CX0 1 f fd ["self", "row"] (spPR C) := by
  refine F.ok sc_Rd_put_row (fun vs H Q E h => ?_) (fun cdv A outer s H vs Q E hr h => ?_)
  · obtain ⟨x, dx, pr, pd, pw, a, wt, rd, R, op, du, r, rfl, _⟩ := h
    rfl
  · obtain ⟨x, dx, pr, pd, pw, a, wt, rd, R, op, du, r, rfl, I, ha, r9, d9, k⟩ := h
    have hu := hr.units
    have hsz : sizeLine = 16777216 := PySem.sizeLine_eq
    obtain ⟨us, er, rr⟩ := I.hr
    have ul : us.length = R.length := Paired.length rr
    refine exQ (qpss_cons (qps_expr (qpe_bmL PySem.F.slot_list_append PySem.F.type_list_append mt_appendU (qpe_fldK (K := K) rfl (qpv 0)) (qpa_cons (qpe_callB call_lenU (by rfl) T.n_len bt_len (qpa_cons (qpe_fldK (K := K) rfl (qpv 0)) qpa_nil)) qpa_nil) (mono_fld (mono_v _))))
    (qpss_one (qps_expr (qpe_bmL PySem.F.slot_list_append PySem.F.type_list_append mt_appendU (qpe_fldK (K := K) rfl (qpv 0)) (qpa_cons (qpv 1) qpa_nil) (mono_fld (mono_v _)))))) ?_
    simp!
    refine I.ready T.rc rfl ⟨by show (lstOf (H pd)).isSome = true; rw [I.hd]; rfl, ?_⟩
    refine I.rows T.rc rfl ?_
    rw [rLenU_ref, er]
    refine ⟨us, rfl, ?_⟩
    rw [rAppendU_ref, I.hd]
    refine ⟨_, rfl, by rw [List.length_map, List.length_reverse]; omega, ?_⟩
    have e1 : (.lst (rd.reverse.map nV ++ [V.int us.length]) : HO) = .lst ((R.length :: rd).reverse.map nV) := by rw [ul]; simp [nV]
    rw [e1]
    have I1 := I.putD (R.length :: rd)
    have k1 : Kp [x, pr, pd, pw] H (upd H pd (.lst ((R.length :: rd).reverse.map nV))) := I.kpL I.hd (by simp)
    have ha1 := k1.tup _ _ ha
    generalize upd H pd (.lst ((R.length :: rd).reverse.map nV)) = H1 at I1 k1 ha1 ⊢
    obtain ⟨us1, er1, rr1⟩ := I1.hr
    have ul1 : us1.length = R.length := Paired.length rr1
    refine I1.rows T.rc rfl ⟨by show (lstOf (H1 pr)).isSome = true; rw [er1]; rfl, ?_⟩
    rw [rAppendU_ref, er1]
    have k2 : Kp [x, pr, pd, pw] H1 (upd H1 pr (.lst (us1 ++ [.ref a]))) := I1.kpL er1 (by simp)
    exact ⟨_, rfl, by omega, k _ ⟨by rw [upd_ne (I1.nx er1)]; exact I1.hx, ⟨_, upd_same, Paired.snoc (rr1.kp k2) ⟨a, rfl, k2.tup _ _ ha1⟩⟩, by rw [upd_ne I1.n1.symm]; exact I1.hd, by rw [upd_ne I1.n2.symm]; exact I1.hw, I1.n1, I1.n2, I1.n3⟩ (k1.trans k2)⟩
end
def KB : List (Key × V) := [(.inr "(", .int (-1)), (.inr "or", .int 0), (.inr "and", .int 1), (.inr "behind", .int 2), (.inr "not", .int 3), (.inr "letter", .int 4), (.inr "blank", .int 4), (.inr "nothing", .int 4)]
theorem KB_at (w : W4) : valV KB (.inr (ws w)) = some (.int (bpi w)) := by
  cases w with
  | par => decide +kernel
  | op w => cases w <;> decide +kernel
  | no => decide +kernel
theorem ws_not (w : W4) : (ws w = Str.ofString "not") ↔ w = .no := by
  cases w with
  | par => exact ⟨fun h => absurd h (by decide +kernel), fun h => by cases h⟩
  | op w => cases w <;> exact ⟨fun h => absurd h (by decide +kernel), fun h => by cases h⟩
  | no => exact ⟨fun _ => rfl, fun _ => rfl⟩
def spBi (C : Addr) : Sp := fun vs H Q _ => ∃ (x dx pr pd pw : Addr) (k : Int) (wt : List W4) (rd : List Nat) (R : List RE) (op : Int) (du : Bool) (wt' : List W4) (rd' : List Nat) (R' : List RE), vs = [.ref x, .int k] ∧ RdI H x C dx pr pd pw wt rd R op du ∧ 0 ≤ k ∧ Bd k wt rd R wt' rd' R' ∧ R.length + wt.length ≤ 90000 ∧ rd.length ≤ 90000 ∧
  ∀ H', RdI H' x C dx pr pd pw wt' rd' R' op du → Kp [x, pr, pd, pw] H H' → Q .non H'
structure TBi (P : Program) (w : World) (K : PySem.W.Frag) (mg : Str → Option Value) (C ab fp : Addr) : Prop where
  rc : RC K C
  cls : Cls K C
  m_BINDS : mg "BINDS" = some (.ref ab)
  kb : KDict P w K ab KB
  d_put_row : Meth K C "put_row" fp
section
variable {P : Program} {w : World} {K : PySem.W.Frag} {mg : Str → Option Value} {base : Heap}
abbrev s_Rd_bind : Stmt := methN (top 14) 5
theorem sc_Rd_bind : FnScope ["self", "binds", "word", "last"] ["self", "binds"] (defScope s_Rd_bind) := ⟨rfl, rfl, rfl, by decide +kernel, rfl, by decide +kernel, by decide +kernel⟩
theorem ok_bind {f C ab fp : Addr} {fd fdp : FuncData} (F : Fun K "bind" "Reading.bind" s_Rd_bind f fd) (T : TBi P w K mg C ab fp) (b_put_row : Binds K fdp ["self", "row"] []) (G_put_row : FnOk P w K mg base CX0 1 fp fdp ["self", "row"] (spPR C)) : FnOk P w K mg base CX0 2 f fd ["self", "binds"] (spBi C) := by
  refine F.ok sc_Rd_bind (fun vs H Q E h => ?_) (fun cdv A outer s H vs Q E hr h => ?_)
  · obtain ⟨x, dx, pr, pd, pw, k, wt, rd, R, op, du, wt', rd', R', rfl, _⟩ := h
    rfl
  · obtain ⟨x, dx, pr, pd, pw, k, wt, rd, R, op, du, wt', rd', R', rfl, I, k0, B, r9, d9, kk⟩ := h
    have hu := hr.units
    have hsz : sizeLine = 16777216 := PySem.sizeLine_eq
    refine exQ (qpss_one (qps_while PassesOwn.never (QW.pt (qpw_and (qpt_tru (qpe_fldK (K := K) rfl (qpv 0))) (qpw_and1 (qpt_cmpR op_ge (qpe_dgetK (P := P) (w := w) (K := K) rfl rfl rfl (qpe_glob (v := .ref _) rfl T.m_BINDS rfl) (qpe_ix ix_U (qpe_fldK (K := K) rfl (qpv 0)) (qpe_un un_neg qpe_int) (fun _ _ => rfl)) (fun _ _ => rfl)) (qpv 1) (nomark _))))) (qpss_cons (qps_set (i := 2) sc_Rd_bind.nd rfl (by first | exact Or.inl rfl | exact Or.inr rfl) (qpe_bmL0 PySem.F.slot_list_pop PySem.F.type_list_pop mt_pop0U (qpe_fldK (K := K) rfl (qpv 0)) (mono_fld (mono_v _))))
    (qpss_cons (qps_set (i := 3) sc_Rd_bind.nd rfl (by first | exact Or.inl rfl | exact Or.inr rfl) (qpe_bmL0 PySem.F.slot_list_pop PySem.F.type_list_pop mt_pop0U (qpe_fldK (K := K) rfl (qpv 0)) (mono_fld (mono_v _))))
    (qpss_one (qps_if (qpt_cmpR (op_eqU hu) (qpv 2) qpe_str (nomark _)) (qpss_one (qps_expr (qpe_meth (qpv 0) T.cls T.d_put_row G_put_row (hr.mono (by decide)) b_put_row .nil pass0 (qpa_cons (qpe_tup (qpa_cons (qpv 2) (qpa_cons (qpv 3) qpa_nil))) qpa_nil)))) (qpss_one (qps_expr (qpe_meth (qpv 0) T.cls T.d_put_row G_put_row (hr.mono (by decide)) b_put_row .nil pass0 (qpa_cons (qpe_tup (qpa_cons (qpv 2) (qpa_cons (qpe_bmL0 PySem.F.slot_list_pop PySem.F.type_list_pop mt_pop0U (qpe_fldK (K := K) rfl (qpv 0)) (mono_fld (mono_v _))) (qpa_cons (qpv 3) qpa_nil)))) qpa_nil)))))))))) ?_
    simp!
    obtain ⟨W, hW⟩ : ∃ W : Nat → L2.St → Hp → Prop, W = fun μ σ H' => ∃ (wt1 : List W4) (rd1 : List Nat) (R1 : List RE) (v2 v3 : Option V), σ = [some (.ref x), some (.int k), v2, v3] ∧ RdI H' x C dx pr pd pw wt1 rd1 R1 op du ∧ Bd k wt1 rd1 R1 wt' rd' R' ∧ R1.length + wt1.length ≤ 90000 ∧ rd1.length ≤ 90000 ∧ Kp [x, pr, pd, pw] H H' ∧ μ = wt1.length := ⟨_, rfl⟩
    refine ⟨W, ?_, ?_⟩
    · rw [hW]
      exact ⟨_, wt, rd, R, none, none, rfl, I, B, r9, d9, Kp.refl _ _, rfl⟩
    intro μ σ H1 hw
    rw [hW] at hw
    obtain ⟨wt1, rd1, R1, v2, v3, rfl, I1, B1, r91, d91, k1, rfl⟩ := hw
    simp!
    refine I1.waiting T.rc rfl ?_
    rw [rTru_ref, I1.hw]
    refine ⟨_, rfl, ?_⟩
    cases wt1 with
    | nil =>
      cases B1
      exact kk _ I1 k1
    | cons w0 wt2 =>
      have e1 : ((w0 :: wt2).reverse.map fun w => V.str (ws w)) = (wt2.reverse.map fun w => V.str (ws w)) ++ [V.str (ws w0)] := by simp
      have hwl := I1.hw
      rw [e1] at hwl
      rw [e1, show (!((wt2.reverse.map fun w => V.str (ws w)) ++ [V.str (ws w0)]).isEmpty) = true by simp, if_pos rfl]
      refine I1.waiting T.rc rfl ?_
      rw [rIxU_ref, hwl]
      refine ⟨_, rfl, _, atI_last _ _, KB, T.kb, .inr (ws w0), rfl, _, KB_at w0, _, rfl, ?_⟩
      by_cases c : k ≤ bpi w0
      · rw [if_pos c]
        refine ⟨fun σ' H' => ∃ m', m' < wt2.length + 1 ∧ W m' σ' H', fun _ _ h => h, ?_⟩
        refine I1.waiting T.rc rfl ⟨by show (lstOf (H1 pw)).isSome = true; rw [hwl]; rfl, ?_⟩
        rw [rPop0U_ref, hwl]
        refine ⟨_, rfl, V.str (ws w0), by simp, ?_⟩
        rw [List.dropLast_concat]
        have I2 := I1.putW wt2
        have k2 : Kp [x, pr, pd, pw] H1 (upd H1 pw (.lst (wt2.reverse.map fun w => V.str (ws w)))) := I1.kpL I1.hw (by simp)
        generalize upd H1 pw (.lst (wt2.reverse.map fun w => V.str (ws w))) = H2 at I2 k2 ⊢
        refine I2.ready T.rc rfl ⟨by show (lstOf (H2 pd)).isSome = true; rw [I2.hd]; rfl, ?_⟩
        have lkp : ∀ op du, List.lookup (Str.ofString "put_row") (RF pr pd pw op du) = none := fun _ _ => rfl
        simp only [List.length_cons] at r91
        cases w0 with
        | par => exact absurd c (by simp only [bpi]; omega)
        | no =>
          cases B1 with
          | stop h => exact absurd c (by omega)
          | no hk B2 =>
            rename_i l rd2
            have e2 : ((l :: rd2).reverse.map nV) = rd2.reverse.map nV ++ [nV l] := by simp
            have hdl := I2.hd
            rw [e2] at hdl
            rw [rPop0U_ref, hdl]
            refine ⟨_, rfl, nV l, by simp, ?_⟩
            rw [List.dropLast_concat]
            have I3 := I2.putD rd2
            have k3 : Kp [x, pr, pd, pw] H2 (upd H2 pd (.lst (rd2.reverse.map nV))) := I2.kpL I2.hd (by simp)
            generalize upd H2 pd (.lst (rd2.reverse.map nV)) = H3 at I3 k3 ⊢
            rw [rEqU_str]
            refine ⟨_, rfl, ?_⟩
            rw [if_pos (by simp [ws])]
            refine ⟨dx, _, I3.hx, lkp _ _, by omega, fun p hp => ?_⟩
            simp only [List.length_cons] at d91
            refine ⟨x, dx, pr, pd, pw, p, wt2, rd2, R1, op, du, .no l, rfl, I3.new hp, upd_same, by omega, by omega, fun H4 I4 k4 => ?_⟩
            refine ⟨wt2.length, by omega, ?_⟩
            rw [hW]
            exact ⟨wt2, _, _, _, _, rfl, I4, B2, by simp only [List.length_append, List.length_cons, List.length_nil]; omega, by simp only [List.length_cons]; omega, (k1.trans k2).trans ((k3.new hp).trans k4), rfl⟩
        | op w1 =>
          cases B1 with
          | stop h => exact absurd c (by omega)
          | op hk B2 =>
            rename_i l f rd2
            have e2 : ((l :: f :: rd2).reverse.map nV) = (f :: rd2).reverse.map nV ++ [nV l] := by simp
            have hdl := I2.hd
            rw [e2] at hdl
            rw [rPop0U_ref, hdl]
            refine ⟨_, rfl, nV l, by simp, ?_⟩
            rw [List.dropLast_concat]
            have I3 := I2.putD (f :: rd2)
            have k3 : Kp [x, pr, pd, pw] H2 (upd H2 pd (.lst ((f :: rd2).reverse.map nV))) := I2.kpL I2.hd (by simp)
            generalize upd H2 pd (.lst ((f :: rd2).reverse.map nV)) = H3 at I3 k3 ⊢
            rw [rEqU_str]
            refine ⟨_, rfl, ?_⟩
            rw [if_neg (by simp only [decide_eq_true_eq]; exact fun z => by cases (ws_not _).mp z)]
            refine ⟨dx, _, I3.hx, lkp _ _, ?_⟩
            refine I3.ready T.rc rfl ⟨by show (lstOf (H3 pd)).isSome = true; rw [I3.hd]; rfl, ?_⟩
            have e3 : ((f :: rd2).reverse.map nV) = rd2.reverse.map nV ++ [nV f] := by simp
            have hdl3 := I3.hd
            rw [e3] at hdl3
            rw [rPop0U_ref, hdl3]
            refine ⟨_, rfl, nV f, by simp, ?_⟩
            rw [List.dropLast_concat]
            have I4 := I3.putD rd2
            have k4 : Kp [x, pr, pd, pw] H3 (upd H3 pd (.lst (rd2.reverse.map nV))) := I3.kpL I3.hd (by simp)
            generalize upd H3 pd (.lst (rd2.reverse.map nV)) = H4 at I4 k4 ⊢
            refine ⟨by omega, fun p hp => ?_⟩
            simp only [List.length_cons] at d91
            refine ⟨x, dx, pr, pd, pw, p, wt2, rd2, R1, op, du, .bin w1 f l, rfl, I4.new hp, upd_same, by omega, by omega, fun H5 I5 k5 => ?_⟩
            refine ⟨wt2.length, by omega, ?_⟩
            rw [hW]
            exact ⟨wt2, _, _, _, _, rfl, I5, B2, by simp only [List.length_append, List.length_cons, List.length_nil]; omega, by simp only [List.length_cons]; omega, ((k1.trans k2).trans k3).trans ((k4.new hp).trans k5), rfl⟩
      · rw [if_neg c]
        cases B1 with
        | stop h => exact kk _ I1 k1
        | no hk _ => exact absurd hk c
        | op hk _ => exact absurd hk c
end
def sgn (c : Nat) : Str := ⟨#[c]⟩
theorem sgn_eq (c d : Nat) : (sgn c = sgn d) ↔ c = d := by simp [sgn]
def lf (c : Nat) : Option RE := if c = 46 then some .blank else if c = 48 then some .nothing else if 97 ≤ c ∧ c ≤ 122 then some (.letter (sgn c)) else none
inductive Bg (c : Nat) (wt : List W4) (rd : List Nat) (R : List RE) (op : Nat) : List W4 → List Nat → List RE → Nat → Bool → Prop
  | no : c = 45 → Bg c wt rd R op (.no :: wt) rd R op true
  | par : c = 40 → Bg c wt rd R op (.par :: wt) rd R (op + 1) true
  | leaf {r : RE} : lf c = some r → Bg c wt rd R op wt (R.length :: rd) (R ++ [r]) op false
def wc : BW → Nat
  | .or => 124
  | .and => 38
  | .beh => 0
inductive Sg (c : Nat) (wt : List W4) (rd : List Nat) (R : List RE) (op : Nat) : Bool → List W4 → List Nat → List RE → Nat → Bool → Prop
  | shut {wt' : List W4} {rd' : List Nat} {R' : List RE} {o : Nat} : c = 41 → op = o + 1 → Bd 0 wt rd R (.par :: wt') rd' R' → Sg c wt rd R op false wt' rd' R' o false
  | word {w : BW} {wt' : List W4} {rd' : List Nat} {R' : List RE} : w ≠ .beh → c = wc w → Bd (bpi (.op w)) wt rd R wt' rd' R' → Sg c wt rd R op false (.op w :: wt') rd' R' op true
  | part {wt' : List W4} {rd' : List Nat} {R' : List RE} {o : Nat} {d : Bool} : Bg c wt rd R op wt' rd' R' o d → Sg c wt rd R op true wt' rd' R' o d
  | more {wt1 wt' : List W4} {rd1 rd' : List Nat} {R1 R' : List RE} {o : Nat} {d : Bool} : Bd 2 wt rd R wt1 rd1 R1 → Bg c (.op .beh :: wt1) rd1 R1 op wt' rd' R' o d → Sg c wt rd R op false wt' rd' R' o d
def spWS (C : Addr) : Sp := fun vs H Q _ => ∃ (x dx pr pd pw : Addr) (w : BW) (wt : List W4) (rd : List Nat) (R : List RE) (op : Int) (du : Bool) (wt' : List W4) (rd' : List Nat) (R' : List RE), vs = [.ref x, .str (ew w)] ∧ RdI H x C dx pr pd pw wt rd R op du ∧ Bd (bpi (.op w)) wt rd R wt' rd' R' ∧ R.length + wt.length ≤ 90000 ∧ rd.length ≤ 90000 ∧
  ∀ H', RdI H' x C dx pr pd pw (.op w :: wt') rd' R' op true → Kp [x, pr, pd, pw] H H' → Q .non H'
structure TWS (P : Program) (w : World) (K : PySem.W.Frag) (mg : Str → Option Value) (C ab fb : Addr) : Prop where
  rc : RC K C
  cls : Cls K C
  m_BINDS : mg "BINDS" = some (.ref ab)
  kb : KDict P w K ab KB
  d_bind : Meth K C "bind" fb
def spRS : Sp := fun vs H Q _ => ∃ (c : Nat) (r : RE), vs = [.str (sgn c)] ∧ lf c = some r ∧ ∀ p, H p = none → Q (.ref p) (upd H p (.tup (erowV r)))
def spBg (C : Addr) : Sp := fun vs H Q _ => ∃ (x dx pr pd pw : Addr) (c : Nat) (wt : List W4) (rd : List Nat) (R : List RE) (op : Nat) (wt' : List W4) (rd' : List Nat) (R' : List RE) (o : Nat) (d : Bool), vs = [.ref x, .str (sgn c)] ∧ RdI H x C dx pr pd pw wt rd R (op : Int) true ∧ Bg c wt rd R op wt' rd' R' o d ∧ R.length ≤ 90000 ∧ wt.length ≤ 90000 ∧ rd.length ≤ 90000 ∧
  ∀ H', RdI H' x C dx pr pd pw wt' rd' R' (o : Int) d → Kp [x, pr, pd, pw] H H' → Q .non H'
structure TBg (K : PySem.W.Frag) (mg : Str → Option Value) (C fr fp : Addr) : Prop where
  rc : RC K C
  cls : Cls K C
  m_row_of_sign : mg "row_of_sign" = some (.ref fr)
  d_put_row : Meth K C "put_row" fp
section
variable {P : Program} {w : World} {K : PySem.W.Frag} {mg : Str → Option Value} {base : Heap}
theorem lk_m (m : Str) (pr pd pw : Addr) (op : Int) (du : Bool) (h : (m == "rows") = false ∧ (m == "ready") = false ∧ (m == "waiting") = false ∧ (m == "opened") = false ∧ (m == "due") = false) : List.lookup m (RF pr pd pw op du) = none := by
  unfold RF
  simp only [List.lookup_cons, h.1, h.2.1, h.2.2.1, h.2.2.2.1, h.2.2.2.2, List.lookup_nil]
abbrev s_Rd_wait_for_second : Stmt := methN (top 14) 3
theorem sc_Rd_wait_for_second : FnScope ["self", "word"] ["self", "word"] (defScope s_Rd_wait_for_second) := ⟨rfl, rfl, rfl, by decide +kernel, rfl, by decide +kernel, by decide +kernel⟩
theorem ok_wait_for_second {f C ab fb : Addr} {fd fdb : FuncData} (F : Fun K "wait_for_second" "Reading.wait_for_second" s_Rd_wait_for_second f fd) (T : TWS P w K mg C ab fb) (b_bind : Binds K fdb ["self", "binds"] []) (G_bind : FnOk P w K mg base CX0 2 fb fdb ["self", "binds"] (spBi C)) : FnOk P w K mg base CX0 3 f fd ["self", "word"] (spWS C) := by
  refine F.ok sc_Rd_wait_for_second (fun vs H Q E h => ?_) (fun cdv A outer s H vs Q E hr h => ?_)
  · obtain ⟨x, dx, pr, pd, pw, w1, wt, rd, R, op, du, wt', rd', R', rfl, _⟩ := h
    rfl
  · obtain ⟨x, dx, pr, pd, pw, w1, wt, rd, R, op, du, wt', rd', R', rfl, I, B, r9, d9, k⟩ := h
    have hu := hr.units
    have hsz : sizeLine = 16777216 := PySem.sizeLine_eq
    refine exQ (qpss_cons (qps_expr (qpe_meth (qpv 0) T.cls T.d_bind G_bind (hr.mono (by decide)) b_bind .nil pass0 (qpa_cons (qpe_dgetK (P := P) (w := w) (K := K) rfl rfl rfl (qpe_glob (v := .ref _) rfl T.m_BINDS rfl) (qpv 1) (fun _ _ => rfl)) qpa_nil)))
    (qpss_cons (qps_expr (qpe_bmL PySem.F.slot_list_append PySem.F.type_list_append mt_appendU (qpe_fldK (K := K) rfl (qpv 0)) (qpa_cons (qpv 1) qpa_nil) (mono_fld (mono_v _))))
    (qpss_one (qps_fld (K := K) rfl (qpv 0) qpe_bl)))) ?_
    simp!
    refine ⟨dx, _, I.hx, lk_m _ _ _ _ _ _ (by decide +kernel), KB, T.kb, .inr (ew w1), rfl, _, KB_at (.op w1), ?_⟩
    have k0 : 0 ≤ bpi (.op w1) := by cases w1 <;> decide
    refine ⟨x, dx, pr, pd, pw, _, wt, rd, R, op, du, wt', rd', R', rfl, I, k0, B, r9, d9, fun H1 I1 k1 => ?_⟩
    have bl := B.len
    refine I1.waiting T.rc rfl ⟨by show (lstOf (H1 pw)).isSome = true; rw [I1.hw]; rfl, ?_⟩
    rw [rAppendU_ref, I1.hw]
    refine ⟨_, rfl, by rw [List.length_map, List.length_reverse]; omega, ?_⟩
    have e1 : (.lst ((wt'.reverse.map fun w => V.str (ws w)) ++ [V.str (ew w1)]) : HO) = .lst ((W4.op w1 :: wt').reverse.map fun w => V.str (ws w)) := by simp [ws]
    rw [e1]
    have I2 := I1.putW (.op w1 :: wt')
    have k2 : Kp [x, pr, pd, pw] H1 (upd H1 pw (.lst ((W4.op w1 :: wt').reverse.map fun w => V.str (ws w)))) := I1.kpL I1.hw (by simp)
    generalize upd H1 pw (.lst ((W4.op w1 :: wt').reverse.map fun w => V.str (ws w))) = H2 at I2 k2 ⊢
    obtain ⟨I3, k3⟩ := I2.fields op true
    exact I2.setDue T.rc rfl (k _ I3 ((k1.trans k2).trans k3))
abbrev s_row_of_sign : Stmt := top 15
theorem sc_row_of_sign : FnScope ["sign"] ["sign"] (defScope s_row_of_sign) := ⟨rfl, rfl, rfl, by decide +kernel, rfl, by decide +kernel, by decide +kernel⟩
theorem ok_row_of_sign {f : Addr} {fd : FuncData} (F : Fun K "row_of_sign" "row_of_sign" s_row_of_sign f fd) : FnOk P w K mg base CX0 1 f fd ["sign"] spRS := by
  refine F.ok sc_row_of_sign (fun vs H Q E h => ?_) (fun cdv A outer s H vs Q E hr h => ?_)
  · obtain ⟨c, r, rfl, _⟩ := h
    rfl
  · obtain ⟨c, r, rfl, l, k⟩ := h
    have hu := hr.units
    have hsz : sizeLine = 16777216 := PySem.sizeLine_eq
    refine exQ (qpss_cons (qps_if (qpt_cmpR (op_eqU hu) (qpv 0) qpe_str (nomark _)) (qpss_one (qps_ret (qpe_tup (qpa_cons qpe_str qpa_nil)))) qpss_nil)
    (qpss_cons (qps_if (qpt_cmpR (op_eqU hu) (qpv 0) qpe_str (nomark _)) (qpss_one (qps_ret (qpe_tup (qpa_cons qpe_str qpa_nil)))) qpss_nil)
    (qpss_one (qps_ret (qpe_tup (qpa_cons qpe_str (qpa_cons (qpv 0) qpa_nil))))))) ?_
    simp!
    unfold lf at l
    have e1 : (sgn c = Str.ofString ".") ↔ c = 46 := sgn_eq c 46
    have e2 : (sgn c = Str.ofString "0") ↔ c = 48 := sgn_eq c 48
    simp only [e1, e2]
    by_cases c1 : c = 46
    · rw [if_pos c1] at l
      cases l
      rw [if_pos c1]
      exact ⟨by omega, k⟩
    rw [if_neg c1] at l ⊢
    by_cases c2 : c = 48
    · rw [if_pos c2] at l
      cases l
      rw [if_pos c2]
      exact ⟨by omega, k⟩
    rw [if_neg c2] at l ⊢
    by_cases c3 : 97 ≤ c ∧ c ≤ 122
    · rw [if_pos c3] at l
      cases l
      exact ⟨by omega, k⟩
    · rw [if_neg c3] at l
      cases l
abbrev s_Rd_begin_part : Stmt := methN (top 14) 4
theorem sc_Rd_begin_part : FnScope ["self", "sign"] ["self", "sign"] (defScope s_Rd_begin_part) := ⟨rfl, rfl, rfl, by decide +kernel, rfl, by decide +kernel, by decide +kernel⟩
theorem ok_begin_part {f C fr fp : Addr} {fd fdr fdp : FuncData} (F : Fun K "begin_part" "Reading.begin_part" s_Rd_begin_part f fd) (T : TBg K mg C fr fp) (F_row_of_sign : Fun K "row_of_sign" "row_of_sign" s_row_of_sign fr fdr) (b_row_of_sign : Binds K fdr ["sign"] []) (G_row_of_sign : FnOk P w K mg base CX0 1 fr fdr ["sign"] spRS)
    (b_put_row : Binds K fdp ["self", "row"] []) (G_put_row : FnOk P w K mg base CX0 1 fp fdp ["self", "row"] (spPR C)) : FnOk P w K mg base CX0 2 f fd ["self", "sign"] (spBg C) := by
  refine F.ok sc_Rd_begin_part (fun vs H Q E h => ?_) (fun cdv A outer s H vs Q E hr h => ?_)
  · obtain ⟨x, dx, pr, pd, pw, c, wt, rd, R, op, wt', rd', R', o, d, rfl, _⟩ := h
    rfl
  · obtain ⟨x, dx, pr, pd, pw, c, wt, rd, R, op, wt', rd', R', o, d, rfl, I, B, r9, w9, d9, k⟩ := h
    have hu := hr.units
    have hsz : sizeLine = 16777216 := PySem.sizeLine_eq
    have e1 : (sgn c = Str.ofString "-") ↔ c = 45 := sgn_eq c 45
    have e2 : (sgn c = Str.ofString "(") ↔ c = 40 := sgn_eq c 40
    have app : ∀ (w0 : W4) (Q' : VK), Q' .non (upd H pw (.lst ((w0 :: wt).reverse.map fun w => V.str (ws w)))) → rAppendU (.ref pw) [V.str (ws w0)] H Q' := fun w0 Q' q => by
      rw [rAppendU_ref, I.hw]
      refine ⟨_, rfl, by rw [List.length_map, List.length_reverse]; omega, ?_⟩
      have : (.lst ((wt.reverse.map fun w => V.str (ws w)) ++ [V.str (ws w0)]) : HO) = .lst ((w0 :: wt).reverse.map fun w => V.str (ws w)) := by simp
      rw [this]; exact q
    have isl : isL (.ref pw) H := by show (lstOf (H pw)).isSome = true; rw [I.hw]; rfl
    have kw : ∀ w0 : W4, Kp [x, pr, pd, pw] H (upd H pw (.lst ((w0 :: wt).reverse.map fun w => V.str (ws w)))) := fun w0 => I.kpL I.hw (by simp)
    refine exQ (qpss_one (qps_if (qpt_cmpR (op_eqU hu) (qpv 1) qpe_str (nomark _)) (qpss_one (qps_expr (qpe_bmL PySem.F.slot_list_append PySem.F.type_list_append mt_appendU (qpe_fldK (K := K) rfl (qpv 0)) (qpa_cons qpe_str qpa_nil) (mono_fld (mono_v _))))) (qpss_one (qps_if (qpt_cmpR (op_eqU hu) (qpv 1) qpe_str (nomark _)) (qpss_cons (qps_expr (qpe_bmL PySem.F.slot_list_append PySem.F.type_list_append mt_appendU (qpe_fldK (K := K) rfl (qpv 0)) (qpa_cons qpe_str qpa_nil) (mono_fld (mono_v _))))
    (qpss_one (qps_fldaug (K := K) rfl (qpv 0) qpe_int in_add))) (qpss_cons (qps_expr (qpe_meth (qpv 0) T.cls T.d_put_row G_put_row (hr.mono (by decide)) b_put_row .nil pass0 (qpa_cons (qpe_call G_row_of_sign (hr.mono (by decide)) rfl T.m_row_of_sign F_row_of_sign.kp b_row_of_sign .nil pass0 (qpa_cons (qpv 1) qpa_nil)) qpa_nil)))
    (qpss_one (qps_fld (K := K) rfl (qpv 0) qpe_bl))))))) ?_
    simp! [e1, e2]
    cases B with
    | no h =>
      rw [if_pos h]
      exact I.waiting T.rc rfl ⟨isl, app .no _ (k _ (I.putW _) (kw _))⟩
    | par h =>
      rw [if_neg (by omega), if_pos h]
      refine I.waiting T.rc rfl ⟨isl, app .par _ ?_⟩
      have I2 := I.putW (.par :: wt)
      have k2 := kw .par
      generalize upd H pw (.lst ((W4.par :: wt).reverse.map fun w => V.str (ws w))) = H2 at I2 k2 ⊢
      obtain ⟨I3, k3⟩ := I2.fields (op + 1) true
      exact I2.addO T.rc rfl (k _ I3 (k2.trans k3))
    | leaf h =>
      have n1 : ¬ c = 45 := fun z => by subst z; cases h
      have n2 : ¬ c = 40 := fun z => by subst z; cases h
      rw [if_neg n1, if_neg n2]
      refine ⟨dx, _, I.hx, lk_m _ _ _ _ _ _ (by decide +kernel), c, _, rfl, h, fun p hp => ?_⟩
      refine ⟨x, dx, pr, pd, pw, p, wt, rd, R, op, true, _, rfl, I.new hp, upd_same, by omega, by omega, fun H2 I2 k2 => ?_⟩
      obtain ⟨I3, k3⟩ := I2.fields op false
      exact I2.setDue T.rc rfl (k _ I3 ((((Kp.refl _ H).new hp).trans k2).trans k3))
end
theorem lt1 (c d : Nat) : ([c] : List Nat) < [d] ↔ c < d := by
  rw [List.cons_lt_cons_iff]
  simp
def KW : List (Key × V) := [(.inr "|", .str "or"), (.inr "&", .str "and")]
theorem KW_at (c : Nat) : valV KW (.inr (sgn c)) = if c = 124 then some (.str "or") else if c = 38 then some (.str "and") else none := by
  unfold KW
  by_cases c1 : c = 124
  · subst c1; rfl
  by_cases c2 : c = 38
  · subst c2; rfl
  rw [if_neg c1, if_neg c2, valV_neg, valV_neg, valV_nil]
  · exact fun z => c2 ((sgn_eq c 38).mp (Sum.inr.inj z).symm)
  · exact fun z => c1 ((sgn_eq c 124).mp (Sum.inr.inj z).symm)
theorem Bg.sign {c : Nat} {wt wt' : List W4} {rd rd' : List Nat} {R R' : List RE} {op o : Nat} {d : Bool} (h : Bg c wt rd R op wt' rd' R' o d) : c = 45 ∨ c = 40 ∨ c = 46 ∨ c = 48 ∨ (97 ≤ c ∧ c ≤ 122) := by
  cases h with
  | no h => exact .inl h
  | par h => exact .inr (.inl h)
  | leaf h =>
    unfold lf at h
    by_cases c1 : c = 46
    · exact .inr (.inr (.inl c1))
    by_cases c2 : c = 48
    · exact .inr (.inr (.inr (.inl c2)))
    by_cases c3 : 97 ≤ c ∧ c ≤ 122
    · exact .inr (.inr (.inr (.inr c3)))
    rw [if_neg c1, if_neg c2, if_neg c3] at h
    cases h
theorem Bg.len {c : Nat} {wt wt' : List W4} {rd rd' : List Nat} {R R' : List RE} {op o : Nat} {d : Bool} (h : Bg c wt rd R op wt' rd' R' o d) : R'.length ≤ R.length + 1 ∧ wt'.length ≤ wt.length + 1 ∧ rd'.length ≤ rd.length + 1 ∧ R'.length + wt'.length ≤ R.length + wt.length + 1 := by
  cases h <;> simp <;> omega
theorem Sg.len {c : Nat} {wt wt' : List W4} {rd rd' : List Nat} {R R' : List RE} {op o : Nat} {b d : Bool} (h : Sg c wt rd R op b wt' rd' R' o d) : R'.length + wt'.length + rd'.length ≤ R.length + wt.length + rd.length + 3 := by
  cases h with
  | shut _ _ B => have := B.len; simp only [List.length_cons] at this; omega
  | word _ _ B => have := B.len; simp only [List.length_cons]; omega
  | part B => have := B.len; omega
  | more B1 B2 => have := B1.len; have := B2.len; simp only [List.length_cons] at this; omega
def spTk (C : Addr) : Sp := fun vs H Q _ => ∃ (x dx pr pd pw : Addr) (c : Nat) (wt : List W4) (rd : List Nat) (R : List RE) (op : Nat) (b : Bool) (wt' : List W4) (rd' : List Nat) (R' : List RE) (o : Nat) (d : Bool), vs = [.ref x, .str (sgn c)] ∧ RdI H x C dx pr pd pw wt rd R (op : Int) b ∧ Sg c wt rd R op b wt' rd' R' o d ∧ R.length + wt.length + rd.length ≤ 80000 ∧
  ∀ H', RdI H' x C dx pr pd pw wt' rd' R' (o : Int) d → Kp [x, pr, pd, pw] H H' → Q .non H'
def spFi (C : Addr) : Sp := fun vs H Q _ => ∃ (x dx pr pd pw : Addr) (c : Nat) (wt : List W4) (rd : List Nat) (R : List RE) (op : Nat) (b : Bool) (wt' : List W4) (rd' : List Nat) (R' : List RE) (o : Nat) (d : Bool), vs = [.ref x, .str (sgn c)] ∧ RdI H x C dx pr pd pw wt rd R (op : Int) b ∧ Sg c wt rd R op b wt' rd' R' o d ∧ ∀ H', Kp [] H H' → Q (.bl true) H'
def spIn (C : Addr) : Sp := fun vs H Q _ => ∃ (x dx : Addr), vs = [.ref x] ∧ H x = some (.ins C dx []) ∧ ∀ (pr pd pw : Addr) (H' : Hp), RdI H' x C dx pr pd pw [] [] [] 0 true → H pr = none → H pd = none → H pw = none → Kp [x] H H' → Q .non H'
structure TTk (P : Program) (w : World) (K : PySem.W.Frag) (mg : Str → Option Value) (C ab aw fb fs fg : Addr) : Prop where
  rc : RC K C
  cls : Cls K C
  m_BINDS : mg "BINDS" = some (.ref ab)
  kb : KDict P w K ab KB
  m_WORDS : mg "WORDS" = some (.ref aw)
  kw : KDict P w K aw KW
  wm : (aw == sysModules) = false
  d_bind : Meth K C "bind" fb
  d_wait_for_second : Meth K C "wait_for_second" fs
  d_begin_part : Meth K C "begin_part" fg
structure TFi (P : Program) (w : World) (K : PySem.W.Frag) (mg : Str → Option Value) (C aw : Addr) : Prop where
  rc : RC K C
  m_WORDS : mg "WORDS" = some (.ref aw)
  kw : KDict P w K aw KW
  wm : (aw == sysModules) = false
section
variable {K : PySem.W.Frag} {H : Hp} {x C dx : Addr} {fs fs' : List (Str × V)} {f : Str} {σ : L2.St} {i : Nat} {D : Ends}
theorem set_new (e : σ[i]? = some (some (.ref x))) (hx : H x = some (.ins C dx fs)) (c : Cls K C) (n : NoAttr K C f) (l : fs.length < 1000) (q : ∀ p, H p = none → D.nx σ (upd (upd H p (.lst [])) x (.ins C dx (putF f (.ref p) fs)))) : sFld K (tVar i) (tLst tNil) f D σ H :=
  ⟨Nat.zero_le _, fun p hp => ⟨.ref x, e, x, C, dx, fs, rfl, by rw [upd_ne (ne_of_none hx hp)]; exact hx, c, n, l, q p hp⟩⟩
theorem set_val {v : V} (e : σ[i]? = some (some (.ref x))) (hx : H x = some (.ins C dx fs)) (c : Cls K C) (n : NoAttr K C f) (l : fs.length < 1000) (q : D.nx σ (upd H x (.ins C dx (putF f v fs)))) : sFld K (tVar i) (tC v) f D σ H := ⟨.ref x, e, x, C, dx, fs, rfl, hx, c, n, l, q⟩
theorem set_kp {S : List Addr} (e : H x = some (.ins C dx fs)) (m : x ∈ S) : Kp S H (upd H x (.ins C dx fs')) := by
  refine ⟨fun b v e' n => ?_, fun b xs e' => ?_, fun b v e' => ?_⟩
  · rw [upd_ne fun z => n (by rw [z]; exact m)]; exact e'
  · rw [upd_ne fun z => by rw [z, e] at e'; cases e']; exact e'
  · by_cases z : b = x
    · rw [z, upd_same]; exact ⟨_, rfl⟩
    · rw [upd_ne z]; exact ⟨v, e'⟩
theorem set_frame {S : List Addr} {p : Addr} (hx : H x = some (.ins C dx fs)) (hp : H p = none) (m : x ∈ S) : upd (upd H p (.lst [])) x (.ins C dx fs') x = some (.ins C dx fs') ∧ upd (upd H p (.lst [])) x (.ins C dx fs') p = some (.lst []) ∧ Kp S H (upd (upd H p (.lst [])) x (.ins C dx fs')) := by
  have ne := ne_of_none hx hp
  have h1 : upd H p (.lst []) x = some (.ins C dx fs) := by rw [upd_ne ne]; exact hx
  exact ⟨upd_same, by rw [upd_ne ne.symm, upd_same], ((Kp.refl S H).new hp).trans (set_kp h1 m)⟩
end
section
variable {P : Program} {w : World} {K : PySem.W.Frag} {mg : Str → Option Value} {base : Heap}
abbrev s_Rd_take : Stmt := methN (top 14) 2
theorem sc_Rd_take : FnScope ["self", "sign"] ["self", "sign"] (defScope s_Rd_take) := ⟨rfl, rfl, rfl, by decide +kernel, rfl, by decide +kernel, by decide +kernel⟩
theorem ok_take {f C ab aw fb fs fg : Addr} {fd fdb fds fdg : FuncData} (F : Fun K "take" "Reading.take" s_Rd_take f fd) (T : TTk P w K mg C ab aw fb fs fg) (b_bind : Binds K fdb ["self", "binds"] []) (G_bind : FnOk P w K mg base CX0 2 fb fdb ["self", "binds"] (spBi C))
    (b_wait_for_second : Binds K fds ["self", "word"] []) (G_wait_for_second : FnOk P w K mg base CX0 3 fs fds ["self", "word"] (spWS C)) (b_begin_part : Binds K fdg ["self", "sign"] []) (G_begin_part : FnOk P w K mg base CX0 2 fg fdg ["self", "sign"] (spBg C)) : FnOk P w K mg base CX0 4 f fd ["self", "sign"] (spTk C) := by
  refine F.ok sc_Rd_take (fun vs H Q E h => ?_) (fun cdv A outer s H vs Q E hr h => ?_)
  · obtain ⟨x, dx, pr, pd, pw, c, wt, rd, R, op, b, wt', rd', R', o, d, rfl, _⟩ := h
    rfl
  · obtain ⟨x, dx, pr, pd, pw, c, wt, rd, R, op, b, wt', rd', R', o, d, rfl, I, S, l9, k⟩ := h
    have hu := hr.units
    have hsz : sizeLine = 16777216 := PySem.sizeLine_eq
    have e1 : (sgn c = Str.ofString ")") ↔ c = 41 := sgn_eq c 41
    refine exQ (qpss_one (qps_if (qpt_cmpR (op_eqU hu) (qpv 1) qpe_str (nomark _)) (qpss_cons (qps_expr (qpe_meth (qpv 0) T.cls T.d_bind G_bind (hr.mono (by decide)) b_bind .nil pass0 (qpa_cons (qpe_dgetK (P := P) (w := w) (K := K) rfl rfl rfl (qpe_glob (v := .ref _) rfl T.m_BINDS rfl) qpe_str (fun _ _ => rfl)) qpa_nil)))
    (qpss_cons (qps_expr (qpe_bmL0 PySem.F.slot_list_pop PySem.F.type_list_pop mt_pop0U (qpe_fldK (K := K) rfl (qpv 0)) (mono_fld (mono_v _))))
    (qpss_one (qps_fldaug (K := K) rfl (qpv 0) qpe_int in_sub)))) (qpss_one (qps_if (qpt_cmp (qpc_dinK (P := P) (w := w) (K := K) rfl rfl rfl (qpv 1) (qpe_glob (v := .ref _) rfl T.m_WORDS rfl)) (by with_unfolding_all rfl)) (qpss_one (qps_expr (qpe_meth (qpv 0) T.cls T.d_wait_for_second G_wait_for_second (hr.mono (by decide)) b_wait_for_second .nil pass0 (qpa_cons (qpe_dgetK (P := P) (w := w) (K := K) rfl rfl rfl (qpe_glob (v := .ref _) rfl T.m_WORDS rfl) (qpv 1) (fun _ _ => rfl)) qpa_nil)))) (qpss_cons (qps_if (qpt_not (qpt_val (qpe_fldK (K := K) rfl (qpv 0)))) (qpss_one (qps_expr (qpe_meth (qpv 0) T.cls T.d_wait_for_second G_wait_for_second (hr.mono (by decide)) b_wait_for_second .nil pass0 (qpa_cons qpe_str qpa_nil)))) qpss_nil)
    (qpss_one (qps_expr (qpe_meth (qpv 0) T.cls T.d_begin_part G_begin_part (hr.mono (by decide)) b_begin_part .nil pass0 (qpa_cons (qpv 1) qpa_nil))))))))) ?_
    simp! [e1]
    cases S with
    | shut h ho B =>
      rw [if_pos h]
      have bl := B.len
      refine ⟨dx, _, I.hx, lk_m _ _ _ _ _ _ (by decide +kernel), KB, T.kb, .inr (ew .or), rfl, _, KB_at (.op .or), ?_⟩
      refine ⟨x, dx, pr, pd, pw, 0, wt, rd, R, op, false, _, _, _, rfl, I, by omega, B, by omega, by omega, fun H1 I1 k1 => ?_⟩
      refine I1.waiting T.rc rfl ⟨by show (lstOf (H1 pw)).isSome = true; rw [I1.hw]; rfl, ?_⟩
      have e2 : ((W4.par :: wt').reverse.map fun w => V.str (ws w)) = (wt'.reverse.map fun w => V.str (ws w)) ++ [V.str (ws .par)] := by simp
      have hwl := I1.hw
      rw [e2] at hwl
      rw [rPop0U_ref, hwl]
      refine ⟨_, rfl, V.str (ws .par), by simp, ?_⟩
      rw [List.dropLast_concat]
      have I2 := I1.putW wt'
      have k2 : Kp [x, pr, pd, pw] H1 (upd H1 pw (.lst (wt'.reverse.map fun w => V.str (ws w)))) := I1.kpL I1.hw (by simp)
      generalize upd H1 pw (.lst (wt'.reverse.map fun w => V.str (ws w))) = H2 at I2 k2 ⊢
      obtain ⟨I3, k3⟩ := I2.fields ((op : Int) - 1) false
      refine I2.subO T.rc rfl ?_
      have eo : (op : Int) - 1 = (o : Int) := by omega
      rw [eo] at I3 k3 ⊢
      exact k _ I3 ((k1.trans k2).trans k3)
    | word h1 h2 B =>
      rename_i w1 wt1
      have n1 : ¬ c = 41 := by rw [h2]; cases w1 <;> decide
      rw [if_neg n1]
      refine ⟨KW, T.kw, T.wm, .inr (sgn c), rfl, ?_⟩
      have ev : valV KW (.inr (sgn c)) = some (.str (ew w1)) := by
        rw [KW_at, h2]
        cases w1 with
        | or => rfl
        | and => rfl
        | beh => exact absurd rfl h1
      rw [ev, if_pos (show (some (V.str (ew w1))).isSome = true from rfl)]
      refine ⟨dx, _, I.hx, lk_m _ _ _ _ _ _ (by decide +kernel), KW, T.kw, .inr (sgn c), rfl, _, ev, ?_⟩
      exact ⟨x, dx, pr, pd, pw, w1, wt, rd, R, op, false, _, _, _, rfl, I, B, by omega, by omega, fun H1 I1 k1 => k _ I1 k1⟩
    | part B =>
      have sn := B.sign
      have n1 : ¬ c = 41 := by omega
      have ev : valV KW (.inr (sgn c)) = none := by rw [KW_at, if_neg (by omega), if_neg (by omega)]
      rw [if_neg n1]
      refine ⟨KW, T.kw, T.wm, .inr (sgn c), rfl, ?_⟩
      rw [ev, if_neg (by simp)]
      refine I.due T.rc rfl ⟨_, rfl, ?_⟩
      rw [if_neg (by simp)]
      refine ⟨dx, _, I.hx, lk_m _ _ _ _ _ _ (by decide +kernel), ?_⟩
      exact ⟨x, dx, pr, pd, pw, c, wt, rd, R, op, _, _, _, _, _, rfl, I, B, by omega, by omega, by omega, fun H1 I1 k1 => k _ I1 k1⟩
    | more B1 B2 =>
      have sn := B2.sign
      have bl := B1.len
      have n1 : ¬ c = 41 := by omega
      have n2 : ¬ c = 124 := by omega
      have n3 : ¬ c = 38 := by omega
      have ev : valV KW (.inr (sgn c)) = none := by rw [KW_at, if_neg n2, if_neg n3]
      rw [if_neg n1]
      refine ⟨KW, T.kw, T.wm, .inr (sgn c), rfl, ?_⟩
      rw [ev, if_neg (by simp)]
      refine I.due T.rc rfl ⟨_, rfl, ?_⟩
      rw [if_pos (by simp)]
      refine ⟨dx, _, I.hx, lk_m _ _ _ _ _ _ (by decide +kernel), ?_⟩
      refine ⟨x, dx, pr, pd, pw, .beh, wt, rd, R, op, false, _, _, _, rfl, I, B1, by omega, by omega, fun H1 I1 k1 => ?_⟩
      refine ⟨dx, _, I1.hx, lk_m _ _ _ _ _ _ (by decide +kernel), ?_⟩
      exact ⟨x, dx, pr, pd, pw, c, _, _, _, op, _, _, _, _, _, rfl, I1, B2, by omega, by simp only [List.length_cons]; omega, by omega, fun H2 I2 k2 => k _ I2 (k1.trans k2)⟩
abbrev s_Rd_fits : Stmt := methN (top 14) 1
theorem sc_Rd_fits : FnScope ["self", "sign"] ["self", "sign"] (defScope s_Rd_fits) := ⟨rfl, rfl, rfl, by decide +kernel, rfl, by decide +kernel, by decide +kernel⟩
theorem ok_fits {f C aw : Addr} {fd : FuncData} (F : Fun K "fits" "Reading.fits" s_Rd_fits f fd) (T : TFi P w K mg C aw) : FnOk P w K mg base CX0 1 f fd ["self", "sign"] (spFi C) := by
  refine F.ok sc_Rd_fits (fun vs H Q E h => ?_) (fun cdv A outer s H vs Q E hr h => ?_)
  · obtain ⟨x, dx, pr, pd, pw, c, wt, rd, R, op, b, wt', rd', R', o, d, rfl, _⟩ := h
    rfl
  · obtain ⟨x, dx, pr, pd, pw, c, wt, rd, R, op, b, wt', rd', R', o, d, rfl, I, S, k⟩ := h
    have hu := hr.units
    have hsz : sizeLine = 16777216 := PySem.sizeLine_eq
    have e1 : (sgn c = Str.ofString ")") ↔ c = 41 := sgn_eq c 41
    refine exQ (qpss_cons (qps_if (qpt_cmp (qpc_dinK (P := P) (w := w) (K := K) rfl rfl rfl (qpv 1) (qpe_glob (v := .ref _) rfl T.m_WORDS rfl)) (by with_unfolding_all rfl)) (qpss_one (qps_ret (qpe_not (qpe_fldK (K := K) rfl (qpv 0))))) qpss_nil)
    (qpss_cons (qps_if (qpt_cmpR (op_eqU hu) (qpv 1) qpe_str (nomark _)) (qpss_one (qps_ret (qpe_and (qpe_not (qpe_fldK (K := K) rfl (qpv 0))) (qpe_one (qpe_cmpR op_gt (qpe_fldK (K := K) rfl (qpv 0)) qpe_int (nomark _)))))) qpss_nil)
    (qpss_one (qps_ret (qpe_or (qpe_cmpR (op_inU (K := K) rfl) (qpv 1) (qpe_tup (qpa_cons qpe_str (qpa_cons qpe_str (qpa_cons qpe_str (qpa_cons qpe_str qpa_nil))))) (by with_unfolding_all rfl)) (qpe_one (qpe_chain op_leU op_leU qpe_str (qpv 1) qpe_str))))))) ?_
    simp! [e1]
    refine ⟨KW, T.kw, T.wm, .inr (sgn c), rfl, ?_⟩
    have rest : ∀ {Y N : Prop}, (c = 45 ∨ c = 40 ∨ c = 46 ∨ c = 48 ∨ (97 ≤ c ∧ c ≤ 122)) → (if (valV KW (.inr (sgn c))).isSome = true then Y else if c = 41 then N else 4 ≤ sizeLine ∧ ∀ p, H p = none → rInU K false (V.str (sgn c)) (V.ref p) (upd H p (HO.tup [V.str (Str.ofString "-"), V.str (Str.ofString "("), V.str (Str.ofString "."), V.str (Str.ofString "0")])) fun x H1 => ∃ c_1, x = V.bl c_1 ∧ if c_1 = true then Q (V.bl true) H1 else if (!decide ((sgn c).cps.toList < (Str.ofString "a").cps.toList)) = true then Q (V.bl !decide ((Str.ofString "z").cps.toList < (sgn c).cps.toList)) H1 else Q (V.bl false) H1) := by
      intro Y N sn
      have n1 : ¬ c = 41 := by omega
      have n2 : ¬ c = 124 := by omega
      have n3 : ¬ c = 38 := by omega
      rw [KW_at, if_neg n2, if_neg n3, if_neg (by simp), if_neg n1]
      refine ⟨by omega, fun p hp => rInU.tupS (SqT.of upd_same) rfl rfl ⟨_, rfl, ?_⟩⟩
      have q := k _ ((Kp.refl [] H).new (o := HO.tup [V.str (Str.ofString "-"), V.str (Str.ofString "("), V.str (Str.ofString "."), V.str (Str.ofString "0")]) hp)
      simp only [Bool.false_eq_true, if_false]
      split
      · exact q
      · rename_i ni
        have hc : 97 ≤ c ∧ c ≤ 122 := by
          rcases sn with rfl | rfl | rfl | rfl | h
          · exact absurd (by decide +kernel) ni
          · exact absurd (by decide +kernel) ni
          · exact absurd (by decide +kernel) ni
          · exact absurd (by decide +kernel) ni
          · exact h
        have l1 : ¬ ([c] : List Nat) < [97] := by rw [lt1]; omega
        have l2 : ¬ ([122] : List Nat) < [c] := by rw [lt1]; omega
        rw [show decide ((sgn c).cps.toList < (Str.ofString "a").cps.toList) = false from decide_eq_false l1, show decide ((Str.ofString "z").cps.toList < (sgn c).cps.toList) = false from decide_eq_false l2]
        exact q
    cases S with
    | shut h ho B =>
      have n2 : ¬ c = 124 := by omega
      have n3 : ¬ c = 38 := by omega
      rw [KW_at, if_neg n2, if_neg n3, if_neg (by simp), if_pos h]
      refine I.due T.rc rfl ⟨_, rfl, ?_⟩
      rw [if_pos (by simp)]
      refine I.opened T.rc rfl ⟨_, rfl, ?_⟩
      rw [show decide ((0 : Int) < (op : Int)) = true by simp; omega]
      exact k _ (Kp.refl _ _)
    | word h1 h2 B =>
      rename_i w1 wt1
      have ev : (valV KW (.inr (sgn c))).isSome = true := by
        rw [KW_at, h2]
        cases w1 with
        | or => rfl
        | and => rfl
        | beh => exact absurd rfl h1
      rw [if_pos ev]
      exact I.due T.rc rfl ⟨_, rfl, k _ (Kp.refl _ _)⟩
    | part B => exact rest B.sign
    | more B1 B2 => exact rest B2.sign
abbrev s_Rd_init : Stmt := methN (top 14) 0
theorem sc_Rd_init : FnScope ["self"] ["self"] (defScope s_Rd_init) := ⟨rfl, rfl, rfl, by decide +kernel, rfl, by decide +kernel, by decide +kernel⟩
theorem ok_init {f C : Addr} {fd : FuncData} (F : Fun K "__init__" "Reading.__init__" s_Rd_init f fd) (rc : RC K C) : FnOk P w K mg base CX0 1 f fd ["self"] (spIn C) := by
  refine F.ok sc_Rd_init (fun vs H Q E h => ?_) (fun cdv A outer s H vs Q E hr h => ?_)
  · obtain ⟨x, dx, rfl, _⟩ := h
    rfl
  · obtain ⟨x, dx, rfl, hx, k⟩ := h
    have hu := hr.units
    have hsz : sizeLine = 16777216 := PySem.sizeLine_eq
    refine exQ (qpss_cons (qps_fld (K := K) rfl (qpv 0) (qpe_lst qpa_nil))
    (qpss_cons (qps_fld (K := K) rfl (qpv 0) (qpe_lst qpa_nil))
    (qpss_cons (qps_fld (K := K) rfl (qpv 0) (qpe_lst qpa_nil))
    (qpss_cons (qps_fld (K := K) rfl (qpv 0) qpe_int)
    (qpss_one (qps_fld (K := K) rfl (qpv 0) qpe_bl)))))) ?_
    simp!
    refine set_new rfl hx rc.cls rc.rows (by simp) fun pr hpr => ?_
    obtain ⟨x1, p1, k1⟩ := set_frame (S := [x]) hx hpr (fs' := putF "rows" (.ref pr) []) (.head _)
    generalize upd (upd H pr (.lst [])) x (.ins C dx (putF "rows" (.ref pr) [])) = H1 at x1 p1 k1 ⊢
    simp!
    refine set_new rfl x1 rc.cls rc.ready (by simp [putF]) fun pd hpd => ?_
    obtain ⟨x2, p2, k2⟩ := set_frame (S := [x]) x1 hpd (fs' := putF "ready" (.ref pd) (putF "rows" (.ref pr) [])) (.head _)
    have q2 := k2.old _ _ p1 (fun m => by rw [List.mem_singleton.mp m, x1] at p1; cases p1)
    have hpd0 := k1.free hpd
    have n1 : pr ≠ pd := ne_of_none p1 hpd
    generalize upd (upd H1 pd (.lst [])) x (.ins C dx (putF "ready" (.ref pd) (putF "rows" (.ref pr) []))) = H2 at x2 p2 q2 k2 ⊢
    simp!
    refine set_new rfl x2 rc.cls rc.waiting (Nat.lt_of_le_of_lt (Nat.le_of_eq (rfl : List.length _ = 2)) (by decide)) fun pw hpw => ?_
    obtain ⟨x3, p3, k3⟩ := set_frame (S := [x]) x2 hpw (fs' := putF "waiting" (.ref pw) (putF "ready" (.ref pd) (putF "rows" (.ref pr) []))) (.head _)
    have q3 := k3.old _ _ q2 (fun m => by rw [List.mem_singleton.mp m, x2] at q2; cases q2)
    have r3 := k3.old _ _ p2 (fun m => by rw [List.mem_singleton.mp m, x2] at p2; cases p2)
    have hpw0 := (k1.trans k2).free hpw
    have n2 : pr ≠ pw := ne_of_none q2 hpw
    have n3 : pd ≠ pw := ne_of_none p2 hpw
    generalize upd (upd H2 pw (.lst [])) x (.ins C dx (putF "waiting" (.ref pw) (putF "ready" (.ref pd) (putF "rows" (.ref pr) [])))) = H3 at x3 p3 q3 r3 k3 ⊢
    simp!
    refine set_val rfl x3 rc.cls rc.opened (Nat.lt_of_le_of_lt (Nat.le_of_eq (rfl : List.length _ = 3)) (by decide)) ?_
    have k4 := set_kp (S := [x]) (fs' := putF "opened" (.int 0) (putF "waiting" (.ref pw) (putF "ready" (.ref pd) (putF "rows" (.ref pr) [])))) x3 (.head _)
    have x4 : upd H3 x (.ins C dx (putF "opened" (.int 0) (putF "waiting" (.ref pw) (putF "ready" (.ref pd) (putF "rows" (.ref pr) []))))) x = _ := upd_same
    have nl : ∀ {b : Addr} {xs : List V}, H3 b = some (.lst xs) → b ∉ [x] := fun e m => by rw [List.mem_singleton.mp m, x3] at e; cases e
    have p4 := k4.old _ _ p3 (nl p3)
    have q4 := k4.old _ _ q3 (nl q3)
    have r4 := k4.old _ _ r3 (nl r3)
    generalize upd H3 x (.ins C dx (putF "opened" (.int 0) (putF "waiting" (.ref pw) (putF "ready" (.ref pd) (putF "rows" (.ref pr) []))))) = H4 at x4 p4 q4 r4 k4 ⊢
    refine set_val rfl x4 rc.cls rc.due (Nat.lt_of_le_of_lt (Nat.le_of_eq (rfl : List.length _ = 4)) (by decide)) ?_
    have k5 := set_kp (S := [x]) (fs' := RF pr pd pw 0 true) x4 (.head _)
    have nl : ∀ {b : Addr} {xs : List V}, H4 b = some (.lst xs) → b ∉ [x] := fun e m => by rw [List.mem_singleton.mp m, x4] at e; cases e
    exact k pr pd pw _ ⟨upd_same, ⟨[], k5.old _ _ q4 (nl q4), .nil⟩, k5.old _ _ r4 (nl r4), k5.old _ _ p4 (nl p4), n1, n2, n3⟩ hpr hpd0 hpw0 ((((k1.trans k2).trans k3).trans k4).trans k5)
end
def RE.mp (g : Nat → Nat) : RE → RE
  | .no i => .no (g i)
  | .bin w i j => .bin w (g i) (g j)
  | r => r
def bn : BW → Nat
  | .or => 0
  | .and => 1
  | .beh => 2
theorem bn_bpi (w : BW) : bpi (.op w) = (bn w : Int) := by cases w <;> rfl
theorem bn_le (w : BW) : bn w ≤ 2 := by cases w <;> decide
def wl : BW → List Nat
  | .or => [124]
  | .and => [38]
  | .beh => []
inductive Ren (R0 : List RE) : Nat → Nat → List Nat → Prop
  | leaf {i b c : Nat} {r : RE} : R0[i]? = some r → lf c = some r → Ren R0 i b [c]
  | no {i b j : Nat} {t : List Nat} : R0[i]? = some (.no j) → b ≤ 3 → Ren R0 j 3 t → Ren R0 i b (45 :: t)
  | op {i b j k : Nat} {w : BW} {t u : List Nat} : R0[i]? = some (.bin w j k) → b ≤ bn w → Ren R0 j (bn w) t → Ren R0 k (bn w + 1) u → Ren R0 i b (t ++ (wl w ++ u))
  | par {i b : Nat} {t : List Nat} : Ren R0 i 0 t → Ren R0 i b (40 :: (t ++ [41]))
inductive Run : List Nat → List W4 → List Nat → List RE → Nat → Bool → List W4 → List Nat → List RE → Nat → Bool → Prop
  | nil {wt : List W4} {rd : List Nat} {R : List RE} {op : Nat} {b : Bool} : Run [] wt rd R op b wt rd R op b
  | cons {c : Nat} {t : List Nat} {wt wt1 wt2 : List W4} {rd rd1 rd2 : List Nat} {R R1 R2 : List RE} {op o1 o2 : Nat} {b b1 b2 : Bool} : Sg c wt rd R op b wt1 rd1 R1 o1 b1 → Run t wt1 rd1 R1 o1 b1 wt2 rd2 R2 o2 b2 → Run (c :: t) wt rd R op b wt2 rd2 R2 o2 b2
theorem Run.app {t u : List Nat} {wt wt1 wt2 : List W4} {rd rd1 rd2 : List Nat} {R R1 R2 : List RE} {op o1 o2 : Nat} {b b1 b2 : Bool} (h : Run t wt rd R op b wt1 rd1 R1 o1 b1) (h' : Run u wt1 rd1 R1 o1 b1 wt2 rd2 R2 o2 b2) : Run (t ++ u) wt rd R op b wt2 rd2 R2 o2 b2 := by
  induction h with
  | nil => exact h'
  | cons s _ ih => exact .cons s (ih h')
theorem Ren.ne {R0 : List RE} {i b : Nat} {t : List Nat} (h : Ren R0 i b t) : t ≠ [] := by
  induction h with
  | leaf => simp
  | no => simp
  | op _ _ _ _ ih _ => intro z; exact ih (List.append_eq_nil_iff.mp z).1
  | par => simp
theorem Run.beh {u : List Nat} (ne : u ≠ []) {wt wt1 wt2 : List W4} {rd rd1 rd2 : List Nat} {R R1 R2 : List RE} {op o2 : Nat} {b2 : Bool} (h : Run u (.op .beh :: wt1) rd1 R1 op true wt2 rd2 R2 o2 b2) (B : Bd 2 wt rd R wt1 rd1 R1) : Run u wt rd R op false wt2 rd2 R2 o2 b2 := by
  cases h with
  | nil => exact absurd rfl ne
  | cons s r =>
    cases s with
    | part g => exact .cons (.more B g) r
def topLt (wt : List W4) (b : Int) : Prop := ∀ w ∈ wt.head?, bpi w < b
theorem Bd.same {k : Int} {wt : List W4} {rd : List Nat} {R : List RE} (h : topLt wt k) : Bd k wt rd R wt rd R := by
  cases wt with
  | nil => exact .nil
  | cons w wt => exact .stop (h w rfl)
structure Hm (R0 R : List RE) (fs : List Nat) : Prop where
  ln : fs.length = R.length
  at_ : ∀ (x : Nat) (r : RE), R[x]? = some r → r.ok x ∧ R0[fs.getD x 0]? = some (r.mp fun y => fs.getD y 0)
theorem getD_pre {fs gs : List Nat} (h : fs <+: gs) {x : Nat} (hx : x < fs.length) : gs.getD x 0 = fs.getD x 0 := by
  obtain ⟨t, rfl⟩ := h
  rw [List.getD_eq_getElem?_getD, List.getD_eq_getElem?_getD, List.getElem?_append_left hx]
theorem RE.mp_congr {g g' : Nat → Nat} {r : RE} {x : Nat} (ok : r.ok x) (h : ∀ y, y < x → g y = g' y) : r.mp g = r.mp g' := by
  cases r with
  | no i => exact congrArg RE.no (h i ok)
  | bin w i j => show RE.bin w (g i) (g j) = RE.bin w (g' i) (g' j); rw [h i ok.1, h j ok.2]
  | _ => rfl
theorem Hm.snoc {R0 R : List RE} {fs : List Nat} (m : Hm R0 R fs) {r : RE} {i : Nat} (ok : r.ok R.length) (e : R0[i]? = some (r.mp fun y => fs.getD y 0)) : Hm R0 (R ++ [r]) (fs ++ [i]) := by
  have pr : fs <+: fs ++ [i] := ⟨[i], rfl⟩
  refine ⟨by simp [m.ln], fun x s hx => ?_⟩
  by_cases c : x < R.length
  · rw [List.getElem?_append_left c] at hx
    obtain ⟨h1, h2⟩ := m.at_ x s hx
    refine ⟨h1, ?_⟩
    rw [getD_pre pr (by rw [m.ln]; exact c), h2]
    exact congrArg some (RE.mp_congr h1 fun y hy => (getD_pre pr (by rw [m.ln]; omega)).symm)
  · have : x = R.length := by
      have := (List.getElem?_eq_some_iff.mp hx).1
      simp only [List.length_append, List.length_cons, List.length_nil] at this
      omega
    subst this
    rw [List.getElem?_append_right (Nat.le_refl _)] at hx
    simp only [Nat.sub_self, List.getElem?_cons_zero, Option.some.injEq] at hx
    subst hx
    refine ⟨ok, ?_⟩
    have e2 : (fs ++ [i]).getD R.length 0 = i := by rw [← m.ln, List.getD_eq_getElem?_getD, List.getElem?_append_right (Nat.le_refl _)]; simp
    rw [e2, e]
    exact congrArg some (RE.mp_congr ok fun y hy => (getD_pre pr (by rw [m.ln]; exact hy)).symm)
theorem snoc_last {fs : List Nat} {i n : Nat} (h : fs.length = n) : (fs ++ [i]).getD n 0 = i := by
  subst h
  rw [List.getD_eq_getElem?_getD, List.getElem?_append_right (Nat.le_refl _)]; simp
theorem lf_leaf {c : Nat} {r : RE} (h : lf c = some r) : (∀ k, r.ok k) ∧ ∀ g, r.mp g = r := by
  unfold lf at h
  split at h
  · cases h; exact ⟨fun _ => trivial, fun _ => rfl⟩
  · split at h
    · cases h; exact ⟨fun _ => trivial, fun _ => rfl⟩
    · split at h
      · cases h; exact ⟨fun _ => rfl, fun _ => rfl⟩
      · cases h
theorem parse {R0 : List RE} {i b : Nat} {t : List Nat} (h : Ren R0 i b t) : ∀ (wt : List W4) (rd : List Nat) (R : List RE) (op : Nat) (fs : List Nat), Hm R0 R fs → (b ≤ 2 → topLt wt b) →
    ∃ (wt' : List W4) (rd' : List Nat) (R' : List RE) (R1 : List RE) (fs1 : List Nat) (j : Nat), Run t wt rd R op true wt' rd' R' op false ∧ Hm R0 R1 fs1 ∧ R <+: R1 ∧ fs <+: fs1 ∧ j < R1.length ∧ fs1.getD j 0 = i ∧ j + 1 = R1.length ∧
      ∀ k : Int, k ≤ (b : Int) → ∀ x y z, Bd k wt (j :: rd) R1 x y z → Bd k wt' rd' R' x y z := by
  induction h with
  | @leaf i b c r e l =>
    intro wt rd R op fs m _
    obtain ⟨ok, mp⟩ := lf_leaf l
    exact ⟨wt, R.length :: rd, R ++ [r], R ++ [r], fs ++ [i], R.length, .cons (.part (.leaf l)) .nil, m.snoc (ok _) (by rw [mp]; exact e), ⟨_, rfl⟩, ⟨_, rfl⟩, by simp, snoc_last m.ln, by simp, fun k _ x y z B => B⟩
  | @no i b j t e hb _ ih =>
    intro wt rd R op fs m _
    obtain ⟨wt', rd', R', R1, fs1, j1, r1, m1, p1, q1, l1, g1, n1, B1⟩ := ih (.no :: wt) rd R op fs m (fun z => by omega)
    refine ⟨wt', rd', R', R1 ++ [.no j1], fs1 ++ [i], R1.length, .cons (.part (.no rfl)) r1, m1.snoc (r := .no j1) l1 (by rw [e]; exact congrArg (some ∘ RE.no) g1.symm), p1.trans ⟨_, rfl⟩, q1.trans ⟨_, rfl⟩, by simp, snoc_last m1.ln, by simp, fun k hk x y z B => ?_⟩
    exact B1 k (by omega) x y z (.no (by omega) B)
  | @op i b j k w t u e hb _ h2 ih1 ih2 =>
    intro wt rd R op fs m tl
    have b2 := bn_le w
    have ew := bn_bpi w
    have tw : topLt wt (bn w) := fun w0 hw0 => by have := tl (by omega) w0 hw0; omega
    obtain ⟨wt1, rd1, R1s, R1, fs1, j1, r1, m1, p1, q1, l1, g1, n1, B1⟩ := ih1 wt rd R op fs m (fun _ => tw)
    obtain ⟨wt2, rd2, R2s, R2, fs2, j2, r2, m2, p2, q2, l2, g2, n2, B2⟩ := ih2 (.op w :: wt) (j1 :: rd) R1 op fs1 m1 (fun _ w0 hw0 => by cases hw0; rw [ew]; omega)
    have Bs := B1 (bn w) (by omega) wt (j1 :: rd) R1 (Bd.same tw)
    have l12 : R1.length ≤ R2.length := by obtain ⟨t, rfl⟩ := p2; simp
    have gj : fs2.getD j1 0 = j := by rw [getD_pre q2 (by rw [m1.ln]; exact l1)]; exact g1
    have rr : Run (wl w ++ u) wt1 rd1 R1s op false wt2 rd2 R2s op false := by
      cases w with
      | or => exact .cons (.word (w := .or) (by simp) rfl Bs) r2
      | and => exact .cons (.word (w := .and) (by simp) rfl Bs) r2
      | beh => exact Run.beh h2.ne r2 Bs
    refine ⟨wt2, rd2, R2s, R2 ++ [.bin w j1 j2], fs2 ++ [i], R2.length, r1.app rr, m2.snoc (r := .bin w j1 j2) ⟨by omega, l2⟩ (by rw [e]; show some (RE.bin w j k) = some (RE.bin w (fs2.getD j1 0) (fs2.getD j2 0)); rw [gj, g2]), (p1.trans p2).trans ⟨_, rfl⟩, (q1.trans q2).trans ⟨_, rfl⟩, by simp, snoc_last m2.ln, by simp, fun k' hk x y z B => ?_⟩
    exact B2 k' (by omega) x y z (.op (by rw [ew]; omega) B)
  | @par i b t _ ih =>
    intro wt rd R op fs m _
    obtain ⟨wt', rd', R', R1, fs1, j1, r1, m1, p1, q1, l1, g1, n1, B1⟩ := ih (.par :: wt) rd R (op + 1) fs m (fun _ w0 hw0 => by cases hw0; decide)
    refine ⟨wt, j1 :: rd, R1, R1, fs1, j1, .cons (.part (.par rfl)) (r1.app (.cons (.shut rfl rfl (B1 0 (by omega) _ _ _ (Bd.same fun w0 hw0 => by cases hw0; decide))) .nil)), m1, p1, q1, l1, g1, n1, fun k _ x y z B => B⟩
def spRowAt : Sp := fun vs H Q _ => ∃ (b : Addr) (m : Int) (o : HO), vs = [.ref b, .int m] ∧ H b = some o ∧ BoxO o ∧ 1 ≤ m ∧ m ≤ 1000 ∧ ∀ d o' H', 0 ≤ d → d < m → BoxO o' → H' b = some o' → Kp [b] H H' → Q (.int d) H'
theorem BoxO.lst {o : HO} (h : BoxO o) : ∃ xs, o = .lst xs := by obtain ⟨c, s, e, _⟩ := h; exact ⟨_, e⟩
section
variable {P : Program} {w : World} {K : PySem.W.Frag} {mg : Str → Option Value} {base : Heap}
structure TRow (mg : Str → Option Value) (ft : Addr) : Prop where
  m__law_take : mg "_law_take" = some (.ref ft)
abbrev s__law_row_at : Stmt := top 20
theorem sc__law_row_at : FnScope ["_law_box_here", "_law_k"] ["_law_box_here", "_law_k"] (defScope s__law_row_at) := ⟨rfl, rfl, rfl, by decide +kernel, rfl, by decide +kernel, by decide +kernel⟩
theorem ok__law_row_at {f ft : Addr} {fd fdt : FuncData} (F : Fun K "_law_row_at" "_law_row_at" s__law_row_at f fd) (T : TRow mg ft) (F__law_take : Fun K "_law_take" "_law_take" s__law_take ft fdt) (b__law_take : Binds K fdt ["_law_box_here", "_law_wide"] [])
    (G__law_take : FnOk P w K mg base CX0 1 ft fdt ["_law_box_here", "_law_wide"] spTake) : FnOk P w K mg base CX0 2 f fd ["_law_box_here", "_law_k"] spRowAt := by
  refine F.ok sc__law_row_at (fun vs H Q E h => ?_) (fun cdv A outer s H vs Q E hr h => ?_)
  · obtain ⟨b, m, o, rfl, _⟩ := h
    rfl
  · obtain ⟨b, m, o, rfl, hb, ho, m1, m2, k⟩ := h
    refine ⟨_, (QSs.h (qpss_one (qps_ret (qpe_ix ix_U (qpe_lst (qpa_cons (qpe_op op_sub (qpv 1) qpe_int) (qpa_cons (qpe_call G__law_take (hr.mono (by decide)) rfl T.m__law_take F__law_take.kp b__law_take .nil pass0 (qpa_cons (qpv 0) (qpa_cons (qpv 1) qpa_nil))) qpa_nil))) (qpe_call G__law_take (hr.mono (by decide)) rfl T.m__law_take F__law_take.kp b__law_take .nil pass0 (qpa_cons (qpv 0) (qpa_cons qpe_int qpa_nil))) (fun _ _ => rfl))))), ?_⟩
    have hsz : sizeLine = 16777216 := PySem.sizeLine_eq
    simp!
    refine ⟨b, m, o, rfl, hb, ho, by omega, by omega, fun d o1 d0 d1 ho1 => ?_⟩
    refine ⟨by omega, fun p hp => ?_⟩
    have nbp : b ≠ p := ne_of_none upd_same hp
    obtain ⟨xs0, rfl⟩ := ho.lst
    obtain ⟨xs1, rfl⟩ := id ho1.lst
    refine ⟨b, 2, _, rfl, by rw [upd_ne nbp, upd_same], ho1, by omega, by omega, fun e o2 e0 e1 ho2 => ?_⟩
    have hp2 : upd (upd (upd H b (.lst xs1)) p (.lst [V.int (m - 1), V.int d])) b o2 p = some (.lst [V.int (m - 1), V.int d]) := by rw [upd_ne nbp.symm, upd_same]
    simp! [hp2]
    have kp : Kp [b] H (upd (upd (upd H b (.lst xs1)) p (.lst [V.int (m - 1), V.int d])) b o2) := ((((Kp.refl [b] H).set hb (.inl (.head _))).new hp).set (by rw [upd_ne nbp, upd_same]) (.inl (by simp)))
    have : e = 0 ∨ e = 1 := by omega
    rcases this with rfl | rfl
    · exact ⟨_, atI_0 _ _, k _ o2 _ (by omega) (by omega) ho2 upd_same kp⟩
    · exact ⟨_, atI_1 _ _ _, k _ o2 _ d0 d1 ho2 upd_same kp⟩
end
def lw (z : Str) : Prop := ∀ c ∈ z.cps.toList, 97 ≤ c ∧ c ≤ 122
def RE.okz (k : Nat) : RE → Prop
  | .nothing => True
  | .blank => True
  | .letter a => a.length = 1 ∧ lw a
  | .no i => i < k
  | .bin _ i j => i < k ∧ j < k
def keyR : RE → Row
  | .nothing => [.inr "nothing"]
  | .blank => [.inr "blank"]
  | .letter a => [.inr "letter", .inr a]
  | .no i => [.inr "not", .inl (i : Int)]
  | .bin w i j => [.inr (ew w), .inl (i : Int), .inl (j : Int)]
theorem keyR_V (r : RE) : (keyR r).map kV = erowV r := by cases r <;> rfl
theorem keyR_ok {k : Nat} {r : RE} (h : r.okz k) : RowOk k (keyR r) := fun i hi => by
  cases r with
  | nothing => simp [keyR] at hi
  | blank => simp [keyR] at hi
  | letter a => simp [keyR] at hi
  | no j => simp [keyR] at hi; have : j < k := h; omega
  | bin w j l => simp [keyR] at hi; have h1 : j < k := h.1; have h2 : l < k := h.2; omega
structure Exp (H : Hp) (vs : List V) (rs : List RE) : Prop where
  at_ : Paired (fun v r => ∃ a, v = .ref a ∧ H a = some (.tup (erowV r))) vs rs
  ok : ∀ (k : Nat) (r : RE), rs[k]? = some r → r.okz k
theorem pair_get {α β : Type} {F : α → β → Prop} : ∀ {l : List α} {m : List β} {k : Nat} {v : α}, Paired F l m → l[k]? = some v → ∃ r, m[k]? = some r ∧ F v r
  | _, _, k, v, .nil, e => by simp at e
  | _, _, 0, v, .cons (b := b) h _, e => by simp at e; subst e; exact ⟨b, rfl, h⟩
  | _, _, k + 1, v, .cons _ t, e => by simp at e; obtain ⟨r, h⟩ := pair_get t e; exact ⟨r, by simpa using h.1, h.2⟩
theorem Exp.kp {S : List Addr} {H H' : Hp} {vs : List V} {rs : List RE} (E : Exp H vs rs) (k : Kp S H H') : Exp H' vs rs := ⟨Paired.mapP E.at_ fun _ _ ⟨a, e, h⟩ => ⟨a, e, k.tup _ _ h⟩, E.ok⟩
theorem Exp.len {H : Hp} {vs : List V} {rs : List RE} (E : Exp H vs rs) : vs.length = rs.length := Paired.length E.at_
theorem Exp.get {H : Hp} {vs : List V} {rs : List RE} (E : Exp H vs rs) {i : Nat} (h : i < rs.length) : ∃ a, vs[i]? = some (.ref a) ∧ H a = some (.tup (erowV (rs.getD i .nothing))) := by
  have hv : i < vs.length := by rw [E.len]; exact h
  obtain ⟨r, e, a, e2, g⟩ := pair_get E.at_ (List.getElem?_eq_getElem hv)
  refine ⟨a, by rw [List.getElem?_eq_getElem hv, e2], ?_⟩
  rw [List.getD_eq_getElem?_getD, e]
  exact g
structure Fx (H : Hp) (b q : Addr) (us : List V) (rs : List RE) (o : HO) (H1 : Hp) : Prop where
  hb : H1 b = some o
  ho : BoxO o
  hq : H1 q = some (.lst us)
  ex : Exp H1 us rs
  kp : Kp [b] H H1
theorem Fx.new {H H1 : Hp} {b q : Addr} {us : List V} {rs : List RE} {o x : HO} {t : Addr} (F : Fx H b q us rs o H1) (ht : H1 t = none) : Fx H b q us rs o (upd H1 t x) :=
  ⟨by rw [upd_ne (ne_of_none F.hb ht)]; exact F.hb, F.ho, by rw [upd_ne (ne_of_none F.hq ht)]; exact F.hq, F.ex.kp ((Kp.refl [b] H1).new ht), F.kp.new ht⟩
theorem Fx.step {H H1 H2 : Hp} {b q : Addr} {us : List V} {rs : List RE} {o o' : HO} (F : Fx H b q us rs o H1) (nbq : b ≠ q) (k : Kp [b] H1 H2) (ho : BoxO o') (hb : H2 b = some o') : Fx H b q us rs o' H2 :=
  ⟨hb, ho, k.old _ _ F.hq (by simpa using nbq.symm), F.ex.kp k, F.kp.trans k⟩
theorem Fx.box {H H1 : Hp} {b q : Addr} {us : List V} {rs : List RE} {o o' : HO} (F : Fx H b q us rs o H1) (nbq : b ≠ q) (ho : BoxO o') : Fx H b q us rs o' (upd H1 b o') := by
  obtain ⟨xs, rfl⟩ := F.ho.lst
  exact F.step nbq ((Kp.refl [b] H1).set F.hb (.inl (by simp))) ho upd_same
theorem ex_snoc {rs : List RE} {r : RE} (h : ∀ (k : Nat) (x : RE), rs[k]? = some x → x.okz k) (hr : r.okz rs.length) : ∀ (k : Nat) (x : RE), (rs ++ [r])[k]? = some x → x.okz k := fun k x e => by
  by_cases hk : k < rs.length
  · rw [List.getElem?_append_left hk] at e; exact h k x e
  · have hk' : k = rs.length := by
      have := (List.getElem?_eq_some_iff.mp e).1
      simp at this
      omega
    subst hk'
    simp at e
    subst e
    exact hr
theorem Fx.put {H H9 : Hp} {b q t : Addr} {us : List V} {rs : List RE} {o : HO} (F : Fx H b q us rs o H9) (r : RE) (hr : r.okz rs.length) (ht : H9 t = some (.tup (erowV r))) (hq0 : H q = none) (nbq : b ≠ q) : Fx H b q (us ++ [.ref t]) (rs ++ [r]) o (upd H9 q (.lst (us ++ [.ref t]))) := by
  have kq : Kp [q] H9 (upd H9 q (.lst (us ++ [.ref t]))) := (Kp.refl [q] H9).set F.hq (.inl (by simp))
  exact ⟨by rw [upd_ne nbq]; exact F.hb, F.ho, upd_same, ⟨Paired.snoc (F.ex.kp kq).at_ ⟨t, rfl, kq.tup _ _ ht⟩, ex_snoc F.ex.ok hr⟩, F.kp.set F.hq (.inr hq0)⟩
theorem letter_at {z : Str} {d : Int} (h0 : 0 ≤ d) (h : d < (z.length : Int)) : ∃ c, c ∈ sg z ∧ atI z.cps.toList d = some c := by
  have hzl : z.cps.toList.length = z.length := by simp [Str.length]
  exact ⟨z.cps.toList[d.toNat]'(by omega), List.getElem_mem _, atI_of h0 (by simp)⟩
def IE (H : Hp) (b q : Addr) (z : Str) (m : Int) (i : Nat) : L2.St → Hp → Prop := fun σ H' => ∃ (us : List V) (rs : List RE) (o : HO) (v4 v5 v6 v7 : Option V), σ = [some (.ref b), some (.str z), some (.int m), some (.ref q), v4, v5, v6, v7] ∧ rs.length = i ∧ Fx H b q us rs o H'
def spExp : Sp := fun vs H Q _ => ∃ (b : Addr) (z : Str) (m : Nat) (o : HO), vs = [.ref b, .str z, .int (m : Int)] ∧ H b = some o ∧ BoxO o ∧ 1 ≤ z.length ∧ z.length ≤ 1000 ∧ lw z ∧ 1 ≤ m ∧ m ≤ 900 ∧
  ∀ (t : Addr) (us : List V) (rs : List RE) (o' : HO) (H' : Hp), H' t = some (.tup us) → Exp H' us rs → 1 ≤ rs.length → rs.length ≤ m → BoxO o' → H' b = some o' → Kp [b] H H' → Q (.ref t) H'
structure TEx (mg : Str → Option Value) (ft fr : Addr) : Prop where
  n_range : mg "range" = none
  n_len : mg "len" = none
  n_tuple : mg "tuple" = none
  m__law_take : mg "_law_take" = some (.ref ft)
  m__law_row_at : mg "_law_row_at" = some (.ref fr)
theorem ite_orE {c1 c2 A B : Prop} [Decidable c1] [Decidable c2] (h1 : c1 ∨ c2 → A) (h2 : ¬ c1 → ¬ c2 → B) : if c1 then A else if c2 then A else B := by
  by_cases a : c1
  · rw [if_pos a]; exact h1 (.inl a)
  · rw [if_neg a]
    by_cases b : c2
    · rw [if_pos b]; exact h1 (.inr b)
    · rw [if_neg b]; exact h2 a b
section
variable {P : Program} {w : World} {K : PySem.W.Frag} {mg : Str → Option Value} {base : Heap}
abbrev s__law_expression : Stmt := top 21
theorem sc__law_expression : FnScope ["_law_box_here", "_law_letters_here", "_law_most", "_law_rows", "_law_k", "_law_kind", "_law_base", "_law_word"] ["_law_box_here", "_law_letters_here", "_law_most"] (defScope s__law_expression) := ⟨rfl, rfl, rfl, by decide +kernel, rfl, by decide +kernel, by decide +kernel⟩
theorem ok__law_expression {f ft fr : Addr} {fd fdt fdr : FuncData} (F : Fun K "_law_expression" "_law_expression" s__law_expression f fd) (T : TEx mg ft fr) (F__law_take : Fun K "_law_take" "_law_take" s__law_take ft fdt) (b__law_take : Binds K fdt ["_law_box_here", "_law_wide"] [])
    (G__law_take : FnOk P w K mg base CX0 1 ft fdt ["_law_box_here", "_law_wide"] spTake) (F__law_row_at : Fun K "_law_row_at" "_law_row_at" s__law_row_at fr fdr) (b__law_row_at : Binds K fdr ["_law_box_here", "_law_k"] [])
    (G__law_row_at : FnOk P w K mg base CX0 2 fr fdr ["_law_box_here", "_law_k"] spRowAt) : FnOk P w K mg base CX0 3 f fd ["_law_box_here", "_law_letters_here", "_law_most"] spExp := by
  refine F.ok sc__law_expression (fun vs H Q E h => ?_) (fun cdv A outer s H vs Q E hr h => ?_)
  · obtain ⟨b, z, m, o, rfl, _⟩ := h
    rfl
  · obtain ⟨b, z, m, o, rfl, hb, ho, z1, z2, zl, m1, m2, k⟩ := h
    have hu := hr.units
    refine ⟨_, (QSs.h (qpss_cons (qps_set (i := 3) sc__law_expression.nd rfl (by first | exact Or.inl rfl | exact Or.inr rfl) (qpe_lst qpa_nil))
    (qpss_cons (qps_for PassesOwn.never rfl (qpi_range1 rfl T.n_range (qpa_cons (qpe_op op_addW qpe_int (qpe_call G__law_take (hr.mono (by decide)) rfl T.m__law_take F__law_take.kp b__law_take .nil pass0 (qpa_cons (qpv 0) (qpa_cons (qpv 2) qpa_nil)))) qpa_nil)) (qpg_name (i := 4) sc__law_expression.nd rfl (by first | exact Or.inl rfl | exact Or.inr rfl)) (qpss_cons (qps_set (i := 5) sc__law_expression.nd rfl (by first | exact Or.inl rfl | exact Or.inr rfl) (qpe_call G__law_take (hr.mono (by decide)) rfl T.m__law_take F__law_take.kp b__law_take .nil pass0 (qpa_cons (qpv 0) (qpa_cons qpe_int qpa_nil))))
    (qpss_one (qps_if (QW.pt (qpw_or (qpt_cmpR (op_eqU hu) (qpv 4) qpe_int (nomark _)) (qpw_or1 (qpt_cmpR op_ltU (qpv 5) qpe_int (nomark _))))) (qpss_cons (qps_set (i := 6) sc__law_expression.nd rfl (by first | exact Or.inl rfl | exact Or.inr rfl) (qpe_lst (qpa_cons (qpe_tup (qpa_cons qpe_str (qpa_cons (qpe_ix ix_U (qpv 1) (qpe_call G__law_take (hr.mono (by decide)) rfl T.m__law_take F__law_take.kp b__law_take .nil pass0 (qpa_cons (qpv 0) (qpa_cons (qpe_callB call_lenU (by rfl) T.n_len bt_len (qpa_cons (qpv 1) qpa_nil)) qpa_nil))) (fun _ _ => rfl)) qpa_nil))) (qpa_cons (qpe_tup (qpa_cons qpe_str qpa_nil)) (qpa_cons (qpe_tup (qpa_cons qpe_str qpa_nil)) qpa_nil)))))
    (qpss_one (qps_expr (qpe_bmL PySem.F.slot_list_append PySem.F.type_list_append mt_appendU (qpv 3) (qpa_cons (qpe_ix ix_U (qpv 6) (qpe_ix ix_U (qpe_lst (qpa_cons qpe_int (qpa_cons qpe_int (qpa_cons qpe_int (qpa_cons qpe_int (qpa_cons qpe_int (qpa_cons qpe_int qpa_nil))))))) (qpe_call G__law_take (hr.mono (by decide)) rfl T.m__law_take F__law_take.kp b__law_take .nil pass0 (qpa_cons (qpv 0) (qpa_cons qpe_int qpa_nil))) (fun _ _ => rfl)) (fun _ _ => rfl)) qpa_nil) mono_var)))) (qpss_one (qps_if (qpt_cmpR op_ltU (qpv 5) qpe_int (nomark _)) (qpss_one (qps_expr (qpe_bmL PySem.F.slot_list_append PySem.F.type_list_append mt_appendU (qpv 3) (qpa_cons (qpe_tup (qpa_cons qpe_str (qpa_cons (qpe_call G__law_row_at (hr.mono (by decide)) rfl T.m__law_row_at F__law_row_at.kp b__law_row_at .nil pass0 (qpa_cons (qpv 0) (qpa_cons (qpv 4) qpa_nil))) qpa_nil))) qpa_nil) mono_var))) (qpss_cons (qps_set (i := 7) sc__law_expression.nd rfl (by first | exact Or.inl rfl | exact Or.inr rfl) (qpe_ix ix_U (qpe_lst (qpa_cons qpe_str (qpa_cons qpe_str (qpa_cons qpe_str (qpa_cons qpe_str (qpa_cons qpe_str (qpa_cons qpe_str qpa_nil))))))) (qpe_op op_sub (qpv 5) qpe_int) (fun _ _ => rfl)))
    (qpss_one (qps_expr (qpe_bmL PySem.F.slot_list_append PySem.F.type_list_append mt_appendU (qpv 3) (qpa_cons (qpe_tup (qpa_cons (qpv 7) (qpa_cons (qpe_call G__law_row_at (hr.mono (by decide)) rfl T.m__law_row_at F__law_row_at.kp b__law_row_at .nil pass0 (qpa_cons (qpv 0) (qpa_cons (qpv 4) qpa_nil))) (qpa_cons (qpe_call G__law_take (hr.mono (by decide)) rfl T.m__law_take F__law_take.kp b__law_take .nil pass0 (qpa_cons (qpv 0) (qpa_cons (qpv 4) qpa_nil))) qpa_nil)))) qpa_nil) mono_var))))))))))
    (qpss_one (qps_ret (qpe_callTy call_tupleU (by rfl) T.n_tuple bt_tuple (qpa_cons (qpv 3) qpa_nil))))))), ?_⟩
    have hsz : sizeLine = 16777216 := PySem.sizeLine_eq
    simp!
    refine ⟨by omega, fun q hq => ?_⟩
    have nbq : b ≠ q := ne_of_none hb hq
    refine ⟨b, _, o, rfl, by rw [upd_ne nbq]; exact hb, ho, by omega, by omega, fun d o1 d0 d1 ho1 => ?_⟩
    obtain ⟨n, rfl⟩ : ∃ n : Nat, d = (n : Int) := ⟨d.toNat, by omega⟩
    have en : (1 + (n : Int)).toNat = n + 1 := by omega
    obtain ⟨xs0, rfl⟩ := ho.lst
    simp!
    refine ⟨by omega, by omega, ?_⟩
    rw [en]
    refine loop_range (IE H b q z (m : Int)) ?_ ?_ ?_
    · exact ⟨[], [], _, none, none, none, none, rfl, rfl, upd_same, ho1, by rw [upd_ne nbq.symm, upd_same], ⟨.nil, fun k r e => by simp at e⟩, ((Kp.refl [b] H).new hq).set (by rw [upd_ne nbq]; exact hb) (.inl (by simp))⟩
    · rintro i σ H1 hi ⟨us, rs, o2, v4, v5, v6, v7, rfl, hl, F1⟩
      have lu : us.length = rs.length := Paired.length F1.ex.at_
      simp!
      refine ⟨b, 12, _, rfl, F1.hb, F1.ho, by omega, by omega, fun kd o3 kd0 kd1 ho3 => ?_⟩
      have F2 := F1.box nbq ho3
      simp!
      refine ite_orE (fun h1 => ?_) (fun h1 h2 => ite2 (fun h3 => ?_) (fun h3 => ?_))
      · refine ⟨by omega, b, z.length, _, rfl, F2.hb, F2.ho, by omega, by omega, fun e o4 e0 e1 ho4 => ?_⟩
        have F3 := F2.box nbq ho4
        obtain ⟨ch, hch, ach⟩ := letter_at e0 e1
        simp! [ach]
        refine ⟨by omega, by omega, fun t1 ht1 => ⟨by omega, fun t2 ht2 => ⟨by omega, fun t3 ht3 => ⟨by omega, fun t4 ht4 => ?_⟩⟩⟩⟩
        have F3' := F1.box nbq ho4
        have F4 := (((F3'.new (x := .tup [V.str (Str.ofString "letter"), V.str ⟨#[ch]⟩]) ht1).new (x := .tup [V.str (Str.ofString "blank")]) ht2).new (x := .tup [V.str (Str.ofString "nothing")]) ht3).new (x := .lst [V.ref t1, V.ref t2, V.ref t3]) ht4
        have n12 : t1 ≠ t2 := ne_of_none upd_same ht2
        have n23 : t2 ≠ t3 := ne_of_none upd_same ht3
        have n34 : t3 ≠ t4 := ne_of_none upd_same ht4
        have n13 : t1 ≠ t3 := ne_of_none (by rw [upd_ne n12, upd_same]) ht3
        have n24 : t2 ≠ t4 := ne_of_none (by rw [upd_ne n23, upd_same]) ht4
        have n14 : t1 ≠ t4 := ne_of_none (by rw [upd_ne n13, upd_ne n12, upd_same]) ht4
        have g1 : upd (upd (upd (upd (upd H1 b o4) t1 (.tup [V.str (Str.ofString "letter"), V.str ⟨#[ch]⟩])) t2 (.tup [V.str (Str.ofString "blank")])) t3 (.tup [V.str (Str.ofString "nothing")])) t4 (.lst [V.ref t1, V.ref t2, V.ref t3]) t1 = some (.tup (erowV (.letter ⟨#[ch]⟩))) := by rw [upd_ne n14, upd_ne n13, upd_ne n12, upd_same]; rfl
        have g2 : upd (upd (upd (upd (upd H1 b o4) t1 (.tup [V.str (Str.ofString "letter"), V.str ⟨#[ch]⟩])) t2 (.tup [V.str (Str.ofString "blank")])) t3 (.tup [V.str (Str.ofString "nothing")])) t4 (.lst [V.ref t1, V.ref t2, V.ref t3]) t2 = some (.tup (erowV .blank)) := by rw [upd_ne n24, upd_ne n23, upd_same]; rfl
        have g3 : upd (upd (upd (upd (upd H1 b o4) t1 (.tup [V.str (Str.ofString "letter"), V.str ⟨#[ch]⟩])) t2 (.tup [V.str (Str.ofString "blank")])) t3 (.tup [V.str (Str.ofString "nothing")])) t4 (.lst [V.ref t1, V.ref t2, V.ref t3]) t3 = some (.tup (erowV .nothing)) := by rw [upd_ne n34, upd_same]; rfl
        have g4 : upd (upd (upd (upd (upd H1 b o4) t1 (.tup [V.str (Str.ofString "letter"), V.str ⟨#[ch]⟩])) t2 (.tup [V.str (Str.ofString "blank")])) t3 (.tup [V.str (Str.ofString "nothing")])) t4 (.lst [V.ref t1, V.ref t2, V.ref t3]) t4 = some (.lst [V.ref t1, V.ref t2, V.ref t3]) := upd_same
        revert F4 g1 g2 g3 g4
        generalize upd (upd (upd (upd (upd H1 b o4) t1 (.tup [V.str (Str.ofString "letter"), V.str ⟨#[ch]⟩])) t2 (.tup [V.str (Str.ofString "blank")])) t3 (.tup [V.str (Str.ofString "nothing")])) t4 (.lst [V.ref t1, V.ref t2, V.ref t3]) = H5
        intro F4 g1 g2 g3 g4
        refine ⟨by rw [F4.hq]; rfl, by omega, fun t5 ht5 => ?_⟩
        have F5 := F4.new (x := .lst [V.int 0, V.int 0, V.int 0, V.int 0, V.int 1, V.int 2]) ht5
        refine ⟨b, _, _, rfl, F5.hb, F5.ho, by omega, by omega, fun e o7 e0 e1 ho7 => ?_⟩
        have F6 := F5.box nbq ho7
        have nb5 : b ≠ t5 := ne_of_none F4.hb ht5
        have nb4 : b ≠ t4 := fun z => by subst z; have := F4.hb; rw [g4] at this; obtain ⟨c, sd, q1, _⟩ := F4.ho; rw [q1] at this; cases this
        have n45 : t4 ≠ t5 := ne_of_none g4 ht5
        have i5 : ∀ o, upd (upd H5 t5 o) b o7 t5 = some o := fun o => by rw [upd_ne nb5.symm, upd_same]
        have i4 : ∀ o, upd (upd H5 t5 o) b o7 t4 = some (.lst [V.ref t1, V.ref t2, V.ref t3]) := fun o => by rw [upd_ne nb4.symm, upd_ne n45]; exact g4
        simp! [i5, i4]
        have k6 : Kp [b] H5 (upd (upd H5 t5 (.lst [V.int 0, V.int 0, V.int 0, V.int 0, V.int 1, V.int 2])) b o7) := by
          obtain ⟨xs9, e9⟩ := F4.ho.lst
          have hb5 := F5.hb
          rw [e9] at hb5
          exact ((Kp.refl [b] H5).new ht5).set hb5 (.inl (.head _))
        have pick : ∀ (r : RE) (t : Addr), r.okz rs.length → H5 t = some (.tup (erowV r)) → ∃ xs_1, lstOf (upd (upd H5 t5 (.lst [V.int 0, V.int 0, V.int 0, V.int 0, V.int 1, V.int 2])) b o7 q) = some xs_1 ∧ xs_1.length < sizeLine ∧
            IE H b q z (m : Int) (i + 1) [some (V.ref b), some (V.str z), some (V.int (m : Int)), some (V.ref q), some (V.int (0 + (i : Int))), some (V.int kd), some (V.ref t4), v7] (upd (upd (upd H5 t5 (.lst [V.int 0, V.int 0, V.int 0, V.int 0, V.int 1, V.int 2])) b o7) q (.lst (xs_1 ++ [V.ref t]))) :=
          fun r t hr ht => ⟨us, by rw [F6.hq]; rfl, by omega, us ++ [.ref t], rs ++ [r], o7, _, _, _, _, rfl, by simp [hl], F6.put r hr (k6.tup _ _ ht) hq nbq⟩
        have : e = 0 ∨ e = 1 ∨ e = 2 ∨ e = 3 ∨ e = 4 ∨ e = 5 := by omega
        rcases this with rfl | rfl | rfl | rfl | rfl | rfl
        · exact ⟨_, atI_of (by decide) rfl, _, by rw [i4]; rfl, _, atI_of (by decide) rfl, pick (.letter ⟨#[ch]⟩) t1 ⟨rfl, fun c hc => by simp at hc; subst hc; exact zl _ hch⟩ g1⟩
        · exact ⟨_, atI_of (by decide) rfl, _, by rw [i4]; rfl, _, atI_of (by decide) rfl, pick (.letter ⟨#[ch]⟩) t1 ⟨rfl, fun c hc => by simp at hc; subst hc; exact zl _ hch⟩ g1⟩
        · exact ⟨_, atI_of (by decide) rfl, _, by rw [i4]; rfl, _, atI_of (by decide) rfl, pick (.letter ⟨#[ch]⟩) t1 ⟨rfl, fun c hc => by simp at hc; subst hc; exact zl _ hch⟩ g1⟩
        · exact ⟨_, atI_of (by decide) rfl, _, by rw [i4]; rfl, _, atI_of (by decide) rfl, pick (.letter ⟨#[ch]⟩) t1 ⟨rfl, fun c hc => by simp at hc; subst hc; exact zl _ hch⟩ g1⟩
        · exact ⟨_, atI_of (by decide) rfl, _, by rw [i4]; rfl, _, atI_of (by decide) rfl, pick .blank t2 trivial g2⟩
        · exact ⟨_, atI_of (by decide) rfl, _, by rw [i4]; rfl, _, atI_of (by decide) rfl, pick .nothing t3 trivial g3⟩
      · refine ⟨by rw [F2.hq]; rfl, b, _, _, rfl, F2.hb, F2.ho, by omega, by omega, fun e o7 H5 e0 e1 ho7 hb7 k7 => ⟨by omega, fun t ht => ?_⟩⟩
        obtain ⟨j, rfl⟩ : ∃ j : Nat, e = (j : Int) := ⟨e.toNat, by omega⟩
        have F6 := (F2.step nbq k7 ho7 hb7).new (x := .tup [V.str (Str.ofString "not"), V.int (j : Int)]) ht
        exact ⟨us, by rw [F6.hq]; rfl, by omega, us ++ [.ref t], rs ++ [.no j], o7, _, _, _, _, rfl, by simp [hl], F6.put (.no j) (show j < rs.length by omega) upd_same hq nbq⟩
      · obtain ⟨bb, hbb⟩ : ∃ bb : BW, atI [V.str (Str.ofString "behind"), V.str (Str.ofString "behind"), V.str (Str.ofString "behind"), V.str (Str.ofString "or"), V.str (Str.ofString "or"), V.str (Str.ofString "and")] (kd - 6) = some (.str (ew bb)) := by
          have : kd = 6 ∨ kd = 7 ∨ kd = 8 ∨ kd = 9 ∨ kd = 10 ∨ kd = 11 := by omega
          rcases this with rfl | rfl | rfl | rfl | rfl | rfl
          · exact ⟨.beh, atI_of (by decide) rfl⟩
          · exact ⟨.beh, atI_of (by decide) rfl⟩
          · exact ⟨.beh, atI_of (by decide) rfl⟩
          · exact ⟨.or, atI_of (by decide) rfl⟩
          · exact ⟨.or, atI_of (by decide) rfl⟩
          · exact ⟨.and, atI_of (by decide) rfl⟩
        refine ⟨by omega, fun t0 ht0 => ?_⟩
        have Fa := F2.new (x := .lst [V.str (Str.ofString "behind"), V.str (Str.ofString "behind"), V.str (Str.ofString "behind"), V.str (Str.ofString "or"), V.str (Str.ofString "or"), V.str (Str.ofString "and")]) ht0
        refine ⟨_, hbb, by rw [Fa.hq]; rfl, ?_⟩
        refine ⟨b, _, _, rfl, Fa.hb, Fa.ho, by omega, by omega, fun e o7 H5 e0 e1 ho7 hb7 k7 => ?_⟩
        have Fb := Fa.step nbq k7 ho7 hb7
        refine ⟨b, _, _, rfl, hb7, ho7, by omega, by omega, fun e2 o8 e20 e21 ho8 => ⟨by omega, fun t ht => ?_⟩⟩
        obtain ⟨j, rfl⟩ : ∃ j : Nat, e = (j : Int) := ⟨e.toNat, by omega⟩
        obtain ⟨l, rfl⟩ : ∃ l : Nat, e2 = (l : Int) := ⟨e2.toNat, by omega⟩
        have F6 := (Fb.box nbq ho8).new (x := .tup [V.str (ew bb), V.int (j : Int), V.int (l : Int)]) ht
        exact ⟨us, by rw [F6.hq]; rfl, by omega, us ++ [.ref t], rs ++ [.bin bb j l], o8, _, _, _, _, rfl, by simp [hl], F6.put (.bin bb j l) (show j < rs.length ∧ l < rs.length by omega) upd_same hq nbq⟩
    · rintro σ H1 ⟨us, rs, o2, v4, v5, v6, v7, rfl, hl, F1⟩
      simp!
      refine rTupleU_lst F1.hq fun t ht => ?_
      have kt := (Kp.refl [b] H1).new (o := .tup us) ht
      exact k t us rs o2 _ upd_same (F1.ex.kp kt) (by omega) (by omega) F1.ho (by rw [upd_ne (ne_of_none F1.hb ht)]; exact F1.hb) (F1.kp.trans kt)
end
theorem least_of {P : Nat → Prop} : ∀ n, P n → ∃ j, j ≤ n ∧ P j ∧ ∀ k, k < j → ¬ P k := by
  intro n
  induction n using Nat.strongRecOn with
  | _ n ih =>
    intro h
    by_cases c : ∃ k, k < n ∧ P k
    · obtain ⟨k, kn, pk⟩ := c
      obtain ⟨j, h1, h2, h3⟩ := ih k kn pk
      exact ⟨j, by omega, h2, h3⟩
    · exact ⟨n, Nat.le_refl _, h, fun k hk pk => c ⟨k, hk, pk⟩⟩
theorem rwa_congr {R : List Row} (ok : OkR R) {h g : Nat → Nat} {i : Nat} (hi : i < R.length) (e : ∀ x, x < i → h x = g x) : RwA R h i = RwA R g i := wpR_congr fun p hp => e p (mem_ptR (ok.d hi) hp)
theorem hd_ex {R : List Row} (ok : OkR R) : ∀ n, n ≤ R.length → ∃ h : Nat → Nat, (∀ i, i < n → h i ≤ i) ∧ (∀ i, i < n → RwA R h (h i) = RwA R h i) ∧ ∀ i, i < n → ∀ j, j < h i → RwA R h j ≠ RwA R h i := by
  intro n
  induction n with
  | zero => exact fun _ => ⟨id, by omega, by omega, by omega⟩
  | succ n ih =>
    intro hn
    obtain ⟨h, h1, h2, h3⟩ := ih (by omega)
    obtain ⟨j, j1, j2, j3⟩ := least_of (P := fun j => RwA R h j = RwA R h n) n rfl
    have eq : ∀ x, x < n → (if x = n then j else h x) = h x := fun x hx => if_neg (by omega)
    have er : ∀ x, x ≤ n → RwA R (fun x => if x = n then j else h x) x = RwA R h x := fun x hx => rwa_congr ok (by omega) fun y hy => eq y (by omega)
    refine ⟨fun x => if x = n then j else h x, fun i hi => ?_, fun i hi => ?_, fun i hi k hk => ?_⟩
    · by_cases c : i = n
      · subst c; simp only [if_pos]; exact j1
      · simp only [if_neg c]; exact h1 i (by omega)
    · by_cases c : i = n
      · subst c; simp only [if_pos]; rw [er _ j1, er _ (Nat.le_refl _)]; exact j2
      · simp only [if_neg c]
        have := h1 i (by omega)
        rw [er _ (by omega), er _ (by omega)]; exact h2 i (by omega)
    · by_cases c : i = n
      · subst c; simp only [if_pos] at hk; rw [er _ (by omega), er _ (Nat.le_refl _)]; exact j3 k hk
      · simp only [if_neg c] at hk
        have := h1 i (by omega)
        rw [er _ (by omega), er _ (by omega)]; exact h3 i (by omega) k hk
theorem Hd.ex {R : List Row} (ok : OkR R) : ∃ h, Hd R h := let ⟨h, h1, h2, h3⟩ := hd_ex ok R.length (Nat.le_refl _); ⟨h, h1, h2, h3⟩
theorem keyR_mp (g : Nat → Nat) (r : RE) : wpR g (keyR r) = keyR (r.mp g) := by cases r <;> simp [keyR, wpR, RE.mp, mapR]
theorem keyR_ok1 {k : Nat} {r : RE} (h : r.ok k) : RowOk k (keyR r) := fun i hi => by
  cases r with
  | nothing => simp [keyR] at hi
  | blank => simp [keyR] at hi
  | letter a => simp [keyR] at hi
  | no j => simp [keyR] at hi; have : j < k := h; omega
  | bin w j l => simp [keyR] at hi; have h1 : j < k := h.1; have h2 : l < k := h.2; omega
theorem okR_of {R : List RE} (h : ∀ (k : Nat) (r : RE), R[k]? = some r → r.ok k) : OkR (R.map keyR) := fun k r e => by
  rw [List.getElem?_map] at e
  obtain ⟨s, es, rfl⟩ := Option.map_eq_some_iff.mp e
  exact keyR_ok1 (h k s es)
theorem Hm.tid {R0 R : List RE} {fs : List Nat} (m : Hm R0 R fs) (ok0 : OkR (R0.map keyR)) (n1 : 1 ≤ R.length) (la : fs.getD (R.length - 1) 0 + 1 = R0.length) {F : List Row} (t : TidP (R.map keyR) F) : TidP (R0.map keyR) F := by
  obtain ⟨h', H', rfl⟩ := t
  obtain ⟨h, H⟩ := Hd.ex ok0
  refine ⟨h, H, ?_⟩
  have ok' : OkR (R.map keyR) := okR_of fun k r e => (m.at_ k r e).1
  have hm : Hom (R.map keyR) (R0.map keyR) (fun x => fs.getD x 0) := by
    refine ⟨fun x hx => ?_, fun x hx => ?_⟩
    · rw [List.length_map] at hx ⊢
      exact (List.getElem?_eq_some_iff.mp (m.at_ x R[x] (List.getElem?_eq_getElem hx)).2).1
    · rw [List.length_map] at hx
      have e := (m.at_ x R[x] (List.getElem?_eq_getElem hx)).2
      rw [List.getD_eq_getElem?_getD, List.getD_eq_getElem?_getD, List.getElem?_map, List.getElem?_map, List.getElem?_eq_getElem hx, e]
      exact keyR_mp _ _
  refine hm.tid ok' ok0 H' H (by simpa using n1) (by rw [List.length_map]; omega) ?_
  simp only [List.length_map]
  omega
theorem Kp.fresh {S : List Addr} {H H1 H2 : Hp} (k0 : Kp [] H H1) (k : Kp S H1 H2) (h : ∀ s ∈ S, H s = none) : Kp [] H H2 :=
  ⟨fun b v e _ => k.old b v (k0.old b v e (by simp)) (fun m => by rw [h b m] at e; cases e), fun b xs e => k.tup _ _ (k0.tup _ _ e), fun b v e => let ⟨u, e'⟩ := k0.dom b v e; k.dom b u e'⟩
theorem RdI.kp0 {H H' : Hp} {x C dx pr pd pw : Addr} {wt : List W4} {rd : List Nat} {R : List RE} {op : Int} {du : Bool} (I : RdI H x C dx pr pd pw wt rd R op du) (k : Kp [] H H') : RdI H' x C dx pr pd pw wt rd R op du :=
  let ⟨us, hr, rr⟩ := I.hr
  ⟨k.old _ _ I.hx (by simp), ⟨us, k.old _ _ hr List.not_mem_nil, rr.kp k⟩, k.old _ _ I.hd (by simp), k.old _ _ I.hw (by simp), I.n1, I.n2, I.n3⟩
theorem RowE.rowsT {H : Hp} {us : List V} {R : List RE} (h : RowE H us R) : RowsT H us (R.map keyR) := by
  induction h with
  | nil => exact .nil
  | cons h _ ih =>
    obtain ⟨a, e, h⟩ := h
    exact .cons ⟨a, e, by rw [keyR_V]; exact h⟩ ih
def spRx : Sp := fun vs H Q _ => ∃ (T : Str) (R0 : List RE), vs = [.str T] ∧ Ren R0 (R0.length - 1) 0 T.cps.toList ∧ T.length ≤ 5000 ∧ 1 ≤ R0.length ∧ OkR (R0.map keyR) ∧
  ∀ q us' F H', TidP (R0.map keyR) F → H q = none → FzT H' q us' → RowsT H' us' F → Kp [] H H' → Q (.ref q) H'
structure TRx (P : Program) (w : World) (K : PySem.W.Frag) (mg : Str → Option Value) (C ab fi fF ft fb ftd : Addr) : Prop where
  rc : RC K C
  cls : Cls K C
  mkR : Mk K C fi
  m_Reading : mg "Reading" = some (.ref C)
  n_enumerate : mg "enumerate" = none
  n_tuple : mg "tuple" = none
  m_BINDS : mg "BINDS" = some (.ref ab)
  kb : KDict P w K ab KB
  m_tidied : mg "tidied" = some (.ref ftd)
  d_fits : Meth K C "fits" fF
  d_take : Meth K C "take" ft
  d_bind : Meth K C "bind" fb
section
variable {P : Program} {w : World} {K : PySem.W.Frag} {mg : Str → Option Value} {base : Heap}
abbrev s_tidied : Stmt := top 9
theorem sc_tidied : FnScope ["expression"] ["expression"] (defScope s_tidied) := ⟨rfl, rfl, rfl, by decide +kernel, rfl, by decide +kernel, by decide +kernel⟩
structure TTi (mg : Str → Option Value) (fi : Addr) : Prop where
  m_in_order : mg "in_order" = some (.ref fi)
theorem ok_tidied {f fi : Addr} {fd fdi : FuncData} (F : Fun K "tidied" "tidied" s_tidied f fd) (T : TTi mg fi) (F_in_order : Fun K "in_order" "in_order" s_in_order fi fdi) (b_in_order : Binds K fdi ["rows"] [])
    (G_in_order : FnOk P w K mg base CX0 3 fi fdi ["rows"] (spIO K)) : FnOk P w K mg base CX0 4 f fd ["expression"] (spIO K) := by
  refine F.ok sc_tidied (fun vs H Q E h => ?_) (fun cdv A outer s H vs Q E hr h => ?_)
  · obtain ⟨a, us, R, rfl, _⟩ := h
    rfl
  · obtain ⟨a, us, R, rfl, hh⟩ := h
    have hu := hr.units
    refine exQ (qpss_one (qps_ret (qpe_call G_in_order (hr.mono (by decide)) rfl T.m_in_order F_in_order.kp b_in_order .nil pass0 (qpa_cons (qpv 0) qpa_nil)))) ?_
    simp!
    exact ⟨a, us, R, rfl, hh⟩
abbrev s_read_expression : Stmt := top 13
theorem sc_read_expression : FnScope ["text", "reading", "place", "sign"] ["text"] (defScope s_read_expression) := ⟨rfl, rfl, rfl, by decide +kernel, rfl, by decide +kernel, by decide +kernel⟩
theorem ok_read_expression {f C ab fi fF ft fb ftd : Addr} {fd fdi fdF fdt fdb fdd : FuncData} (F : Fun K "read_expression" "read_expression" s_read_expression f fd) (T : TRx P w K mg C ab fi fF ft fb ftd)
    (b_init : Binds K fdi ["self"] []) (G_init : FnOk P w K mg base CX0 1 fi fdi ["self"] (spIn C)) (b_fits : Binds K fdF ["self", "sign"] []) (G_fits : FnOk P w K mg base CX0 1 fF fdF ["self", "sign"] (spFi C))
    (b_take : Binds K fdt ["self", "sign"] []) (G_take : FnOk P w K mg base CX0 4 ft fdt ["self", "sign"] (spTk C)) (b_bind : Binds K fdb ["self", "binds"] []) (G_bind : FnOk P w K mg base CX0 2 fb fdb ["self", "binds"] (spBi C))
    (F_tidied : Fun K "tidied" "tidied" s_tidied ftd fdd) (b_tidied : Binds K fdd ["expression"] []) (G_tidied : FnOk P w K mg base CX0 4 ftd fdd ["expression"] (spIO K)) : FnOk P w K mg base CX0 5 f fd ["text"] spRx := by
  refine F.ok sc_read_expression (fun vs H Q E h => ?_) (fun cdv A outer s H vs Q E hr h => ?_)
  · obtain ⟨T, R0, rfl, _⟩ := h
    rfl
  · obtain ⟨Tx, R0, rfl, ren, t9, n1, ok0, k⟩ := h
    have hu := hr.units
    have hsz : sizeLine = 16777216 := PySem.sizeLine_eq
    obtain ⟨wt', rd', R', R1, fs1, j, run, m1, p1, q1, l1, g1, nn1, B1⟩ := parse ren [] [] [] 0 [] ⟨rfl, fun x r e => by simp at e⟩ (fun _ w0 hw0 => nomatch hw0)
    have B := B1 0 (by omega) [] [j] R1 .nil
    refine exQ (qpss_cons (qps_set (i := 1) sc_read_expression.nd rfl (by first | exact Or.inl rfl | exact Or.inr rfl) (qpe_make0 T.mkR G_init (hr.mono (by decide)) rfl T.m_Reading b_init .nil pass0))
    (qpss_cons (qps_for PassesOwn.never rfl (qpi_enumerate rfl T.n_enumerate (qpa_cons (qpv 0) qpa_nil)) (qpg_tup (n := 2) rfl (qpgs_cons (qpg_name (i := 2) sc_read_expression.nd rfl (by first | exact Or.inl rfl | exact Or.inr rfl)) (qpgs_cons (qpg_name (i := 3) sc_read_expression.nd rfl (by first | exact Or.inl rfl | exact Or.inr rfl)) qpgs_nil)) (K := K) rfl) (qpss_cons (qps_if (qpt_not (qpt_val (qpe_meth (qpv 1) T.cls T.d_fits G_fits (hr.mono (by decide)) b_fits .nil pass0 (qpa_cons (qpv 3) qpa_nil)))) (qpss_one qps_never) qpss_nil)
    (qpss_one (qps_expr (qpe_meth (qpv 1) T.cls T.d_take G_take (hr.mono (by decide)) b_take .nil pass0 (qpa_cons (qpv 3) qpa_nil))))))
    (qpss_cons (qps_if (QW.pt (qpw_or (qpt_val (qpe_fldK (K := K) rfl (qpv 1))) (qpw_or1 (qpt_cmpR op_gt (qpe_fldK (K := K) rfl (qpv 1)) qpe_int (nomark _))))) (qpss_one qps_never) qpss_nil)
    (qpss_cons (qps_expr (qpe_meth (qpv 1) T.cls T.d_bind G_bind (hr.mono (by decide)) b_bind .nil pass0 (qpa_cons (qpe_dgetK (P := P) (w := w) (K := K) rfl rfl rfl (qpe_glob (v := .ref _) rfl T.m_BINDS rfl) qpe_str (fun _ _ => rfl)) qpa_nil)))
    (qpss_one (qps_ret (qpe_call G_tidied (hr.mono (by decide)) rfl T.m_tidied F_tidied.kp b_tidied .nil pass0 (qpa_cons (qpe_callTy call_tupleU (by rfl) T.n_tuple bt_tuple (qpa_cons (qpe_fldK (K := K) rfl (qpv 1)) qpa_nil)) qpa_nil)))))))) ?_
    simp!
    intro x dx hx hdx nxd
    have nd : x ≠ dx := nxd.symm
    have hx1 : upd H dx (HO.own x) x = none := by rw [upd_ne nd]; exact hx
    have k0 : Kp [] H (upd (upd H dx (HO.own x)) x (HO.ins C dx [])) := ((Kp.refl [] H).new hdx).new hx1
    refine ⟨x, dx, rfl, upd_same, fun pr pd pw H2 I hpr hpd hpw k2 => ⟨rfl, ?_⟩⟩
    have fr : ∀ b ∈ [x, pr, pd, pw], H b = none := fun b hb => by
      simp only [List.mem_cons, List.not_mem_nil, or_false] at hb
      rcases hb with rfl | rfl | rfl | rfl
      · exact hx
      · exact k0.free hpr
      · exact k0.free hpd
      · exact k0.free hpw
    have k02 : Kp [] H H2 := Kp.fresh k0 k2 fun b hb => by rw [List.mem_singleton.mp hb]; exact hx
    refine loop_T (fun i σ H' => ∃ (wt : List W4) (rd : List Nat) (R : List RE) (op : Nat) (b : Bool) (v2 v3 : Option V), σ = [some (.str Tx), some (.ref x), v2, v3] ∧ RdI H' x C dx pr pd pw wt rd R (op : Int) b ∧ Run (Tx.cps.toList.drop i) wt rd R op b wt' rd' R' 0 false ∧ R.length + wt.length + rd.length ≤ 3 * i ∧ Kp [] H H') ⟨[], [], [], 0, true, none, none, rfl, I, run, by simp, k02⟩ ?_ ?_
    · rintro i σ H3 Tt hi ⟨wt, rd, R, op, b, v2, v3, rfl, I3, rn, l3, k3⟩ hTt
      refine ⟨Tt, enumV Tx i, rfl, SqT.of upd_same, rfl, ⟨_, _, rfl, ⟨_, _, rfl, rfl, ?_⟩⟩⟩
      have I4 := I3.new (o := .tup (enumV Tx i)) hTt
      have k4 := k3.new (o := .tup (enumV Tx i)) hTt
      generalize upd H3 Tt (.tup (enumV Tx i)) = H4 at I4 k4 ⊢
      have hil : i < Tx.cps.toList.length := by simpa [Str.length] using hi
      have dr : Tx.cps.toList.drop i = Tx.cps.toList.getD i 0 :: Tx.cps.toList.drop (i + 1) := by
        rw [List.drop_eq_getElem_cons hil, List.getD_eq_getElem?_getD, List.getElem?_eq_getElem hil]; rfl
      rw [dr] at rn
      generalize Tx.cps.toList.getD i 0 = c at rn ⊢
      cases rn with
      | cons sg rn =>
        have sl := sg.len
        have tl : Tx.cps.toList.length = Tx.length := by simp [Str.length]
        simp!
        refine ⟨dx, _, I4.hx, lk_m _ _ _ _ _ _ (by decide +kernel), ?_⟩
        refine ⟨x, dx, pr, pd, pw, c, wt, rd, R, op, b, _, _, _, _, _, rfl, I4, sg, fun H5 k5 => ⟨_, rfl, ?_⟩⟩
        have I5 := I4.kp0 k5
        rw [if_neg (by simp)]
        refine ⟨dx, _, I5.hx, lk_m _ _ _ _ _ _ (by decide +kernel), ?_⟩
        refine ⟨x, dx, pr, pd, pw, c, wt, rd, R, op, b, _, _, _, _, _, rfl, I5, sg, by omega, fun H6 I6 k6 => ?_⟩
        exact ⟨_, _, _, _, _, _, _, ⟨rfl, rfl⟩, I6, rn, by omega, Kp.fresh (k4.trans k5) k6 fr⟩
    · rintro σ H3 ⟨wt, rd, R, op, b, v2, v3, rfl, I3, rn, l3, k3⟩
      have e0 : Tx.cps.toList.drop Tx.length = [] := List.drop_eq_nil_of_le (by simp [Str.length])
      rw [e0] at rn
      cases rn
      have bl := B.len
      simp!
      refine I3.due T.rc rfl ⟨_, rfl, ?_⟩
      rw [if_neg (by simp)]
      refine I3.opened T.rc rfl ⟨_, rfl, ?_⟩
      rw [if_neg (by simp)]
      refine ⟨dx, _, I3.hx, lk_m _ _ _ _ _ _ (by decide +kernel), KB, T.kb, .inr (ew .or), rfl, _, KB_at (.op .or), ?_⟩
      refine ⟨x, dx, pr, pd, pw, 0, _, _, _, _, _, _, _, _, rfl, I3, by omega, B, by omega, by omega, fun H4 I4 k4 => ?_⟩
      have k4' := Kp.fresh k3 k4 fr
      refine I4.rows T.rc rfl ?_
      obtain ⟨us, hr4, rr4⟩ := I4.hr
      refine rTupleU_lst hr4 fun l hl => ?_
      have k5 : Kp [] H4 (upd H4 l (.tup us)) := (Kp.refl [] H4).new hl
      have rt : RowsT (upd H4 l (.tup us)) us (R1.map keyR) := (rr4.kp k5).rowsT
      have okr := okR_of fun k r e => (m1.at_ k r e).1
      refine ⟨l, us, R1.map keyR, rfl, SqT.of upd_same, rt, okr, fun r hr => ?_, by rw [List.length_map]; omega, by rw [List.length_map]; omega, fun q us' F H5 tp hq fz rts k6 => ?_⟩
      · obtain ⟨e, _, rfl⟩ := List.mem_map.mp hr
        cases e <;> simp [keyR]
      · refine k q us' F H5 (m1.tid ok0 (by omega) ?_ tp) (k4'.free (k5.free hq)) fz rts (((k4'.trans k5).trans k6))
        have : R1.length - 1 = j := by omega
        rw [this, g1]; omega
end
def eh : RE → Str
  | .nothing => "nothing"
  | .blank => "blank"
  | .letter _ => "letter"
  | .no _ => "not"
  | .bin w _ _ => ew w
def bwd : BW → Int
  | .or => 0
  | .and => 1
  | .beh => 2
def bnd : RE → Int
  | .no _ => 3
  | .bin w _ _ => bwd w
  | _ => 4
def swd : BW → Str
  | .or => "|"
  | .and => "&"
  | .beh => ""
theorem eh_at (r : RE) : atI (erowV r) 0 = some (.str (eh r)) := by
  cases r <;> exact atI_of (by decide) rfl
def ow : RE → Nat
  | .no _ => 3
  | .bin w _ _ => bn w
  | _ => 4
theorem bnd_ow (r : RE) : bnd r = (ow r : Int) := by
  cases r with
  | bin w i j => cases w <;> rfl
  | _ => rfl
structure LB (rs : List RE) (L : Nat → Nat) : Prop where
  at_ : ∀ (k : Nat) (r : RE), rs[k]? = some r → match r with
    | .no j => L j + 7 ≤ L k
    | .bin _ i j => L i + L j + 7 ≤ L k
    | _ => 7 ≤ L k
  le : ∀ k, L k ≤ 5000
def KL : List (Key × V) := [(.inr "or", .int 0), (.inr "and", .int 1), (.inr "behind", .int 2), (.inr "not", .int 3)]
def KM : List (Key × V) := [(.inr "nothing", .str "0"), (.inr "blank", .str ".")]
theorem kl_at (r : RE) : (valV (mergeK [] KL) (.inr (eh r))).getD (.int 4) = .int (bnd r) := by
  cases r with
  | bin w i j => cases w <;> rfl
  | _ => rfl
theorem cps_app (a b : Str) : (a ++ b).cps.toList = a.cps.toList ++ b.cps.toList := by simp [Str.cps_append]
theorem len_app (a b : Str) : (a ++ b).length = a.length + b.length := by simp [Str.length, Str.cps_append]
theorem leaf_txt {rs : List RE} {i : Nat} {r : RE} (e : rs[i]? = some r) (ok : r.okz i) (h4 : ow r = 4) : ∃ x : Str, ((valV (mergeK [] KM) (.inr (eh r))).getD ((erowV r).getLast?.getD .non)) = .str x ∧ x.length = 1 ∧ ∀ b, Ren rs i b x.cps.toList := by
  cases r with
  | nothing => exact ⟨_, rfl, by decide +kernel, fun b => .leaf (c := 48) e rfl⟩
  | blank => exact ⟨_, rfl, by decide +kernel, fun b => .leaf (c := 46) e rfl⟩
  | letter z =>
    have hl : z.cps.toList.length = 1 := by have : z.length = 1 := ok.1; simpa [Str.length] using this
    obtain ⟨c, hc⟩ : ∃ c, z.cps.toList = [c] := by
      cases hz : z.cps.toList with
      | nil => rw [hz] at hl; cases hl
      | cons c t =>
        rw [hz] at hl
        cases t with
        | nil => exact ⟨c, rfl⟩
        | cons _ _ => simp at hl
    have cz : 97 ≤ c ∧ c ≤ 122 := ok.2 c (by rw [hc]; exact .head _)
    have ez : z = sgn c := by
      have : z.cps = #[c] := by rw [← Array.toList_inj]; simpa using hc
      show z = ⟨#[c]⟩
      rw [← this]
    refine ⟨z, rfl, ok.1, fun b => ?_⟩
    rw [hc]
    refine .leaf e ?_
    unfold lf
    rw [if_neg (by omega), if_neg (by omega), if_pos cz, ez]
  | no j => exact absurd h4 (by simp [ow])
  | bin w j l => exact absurd h4 (by cases w <;> simp [ow, bn])
def spWr (n : Nat) : Sp := fun vs H Q _ => ∃ (a : Addr) (us : List V) (rs : List RE) (L : Nat → Nat) (i b : Nat), vs = [.ref a, .int (i : Int), .int (b : Int)] ∧ H a = some (.tup us) ∧ Exp H us rs ∧ LB rs L ∧ i < rs.length ∧ i ≤ n ∧ ∀ (T : Str) (H' : Hp), Ren rs i b T.cps.toList → T.length ≤ L i → Kp [] H H' → Q (.str T) H'
structure TLW (mg : Str → Option Value) (f : Addr) : Prop where
  m__law_written : mg "_law_written" = some (.ref f)
section
variable {P : Program} {w : World} {K : PySem.W.Frag} {mg : Str → Option Value} {base : Heap}
abbrev s__law_written : Stmt := top 26
theorem sc__law_written : FnScope ["_law_rows", "_law_at", "_law_bond", "_law_row", "_law_own", "_law_text"] ["_law_rows", "_law_at", "_law_bond"] (defScope s__law_written) := ⟨rfl, rfl, rfl, by decide +kernel, rfl, by decide +kernel, by decide +kernel⟩
theorem ok__law_written {f : Addr} {fd : FuncData} (F : Fun K "_law_written" "_law_written" s__law_written f fd) (T : TLW mg f) (b__law_written : Binds K fd ["_law_rows", "_law_at", "_law_bond"] []) : ∀ n, FnOk P w K mg base CX0 (n + 1) f fd ["_law_rows", "_law_at", "_law_bond"] (spWr n) := by
  intro n
  induction n using Nat.strongRecOn with
  | ind n ih =>
  refine F.ok sc__law_written (fun vs H Q E h => ?_) (fun cdv A outer s H vs Q E hr h => ?_)
  · obtain ⟨a, us, rs, L, i, b, rfl, _⟩ := h
    rfl
  · obtain ⟨a, us, rs, L, i, b, rfl, ha, ex, lb, hi, hin, k⟩ := h
    have hu := hr.units
    have hu1 := hu_of hr
    have hsz : sizeLine = 16777216 := PySem.sizeLine_eq
    have F__law_written := F
    have G__law_written : FnOk P w K mg base CX0 n f fd ["_law_rows", "_law_at", "_law_bond"] (fun vs H Q E => ∃ m, m < n ∧ spWr m vs H Q E) := ⟨fun vs H Q E ⟨m, hm, h⟩ => (ih m hm).len _ _ _ _ h, fun A outer s H args us vs Q E hr he hb hv ⟨m, hm, h⟩ => ((ih m hm).mono (by omega : m + 1 ≤ n)).run A outer s H args us vs Q E hr he hb hv h⟩
    refine exQ (qpss_cons (qps_set (i := 3) sc__law_written.nd rfl (by first | exact Or.inl rfl | exact Or.inr rfl) (qpe_ix ix_U (qpv 0) (qpv 1) (fun _ _ => rfl)))
    (qpss_cons (qps_set (i := 4) sc__law_written.nd rfl (by first | exact Or.inl rfl | exact Or.inr rfl) (qpe_dget2 hu1 (qpe_disp (qpps_cons qpe_str qpe_int (qpps_cons qpe_str qpe_int (qpps_cons qpe_str qpe_int (qpps_cons qpe_str qpe_int qpps_nil))))) (qpe_ix ix_U (qpv 3) qpe_int (fun _ _ => rfl)) qpe_int ⟨rfl, rfl, rfl, rfl⟩))
    (qpss_mid (qps_if (qpt_cmpR (op_eqU hu) (qpv 4) qpe_int (nomark _)) (qpss_one (qps_ret (qpe_dget2 hu1 (qpe_disp (qpps_cons qpe_str qpe_str (qpps_cons qpe_str qpe_str qpps_nil))) (qpe_ix ix_U (qpv 3) qpe_int (fun _ _ => rfl)) (qpe_ix ix_U (qpv 3) (qpe_un un_neg qpe_int) (fun _ _ => rfl)) ⟨rfl, rfl, rfl, rfl⟩))) qpss_nil)
    (qpss_mid (qps_if (qpt_cmpR (op_eqU hu) (qpv 4) qpe_int (nomark _)) (qpss_one (qps_set (i := 5) sc__law_written.nd rfl (by first | exact Or.inl rfl | exact Or.inr rfl) (qpe_op op_addW qpe_str (qpe_call G__law_written hr rfl T.m__law_written F__law_written.kp b__law_written .nil pass0 (qpa_cons (qpv 0) (qpa_cons (qpe_ix ix_U (qpv 3) qpe_int (fun _ _ => rfl)) (qpa_cons qpe_int qpa_nil))))))) (qpss_one (qps_set (i := 5) sc__law_written.nd rfl (by first | exact Or.inl rfl | exact Or.inr rfl) (qpe_op op_addW (qpe_op op_addW (qpe_call G__law_written hr rfl T.m__law_written F__law_written.kp b__law_written .nil pass0 (qpa_cons (qpv 0) (qpa_cons (qpe_ix ix_U (qpv 3) qpe_int (fun _ _ => rfl)) (qpa_cons (qpv 4) qpa_nil)))) (qpe_ix ix_U (qpe_lst (qpa_cons qpe_str (qpa_cons qpe_str (qpa_cons qpe_str qpa_nil)))) (qpv 4) (fun _ _ => rfl))) (qpe_call G__law_written hr rfl T.m__law_written F__law_written.kp b__law_written .nil pass0 (qpa_cons (qpv 0) (qpa_cons (qpe_ix ix_U (qpv 3) qpe_int (fun _ _ => rfl)) (qpa_cons (qpe_op op_addW (qpv 4) qpe_int) qpa_nil))))))))
    (qpss_mid (qps_if (qpt_cmpR op_ltU (qpv 4) (qpv 2) (nomark _)) (qpss_one (qps_ret (qpe_op op_addW (qpe_op op_addW qpe_str (qpv 5)) qpe_str))) qpss_nil)
    (qpss_one (qps_ret (qpv 5)))))))) ?_
    obtain ⟨c, hc1, hc2⟩ := ex.get hi
    have er : rs[i]? = some (rs.getD i .nothing) := by rw [List.getD_eq_getElem?_getD, List.getElem?_eq_getElem hi]; rfl
    have okr := ex.ok i _ er
    have lbr := lb.at_ i _ er
    have lbi := lb.le i
    generalize rs.getD i .nothing = r at hc2 okr er lbr
    have bo := bnd_ow r
    simp!
    refine ⟨us, by rw [ha]; rfl, _, atI_nat hc1, fun p hp => ⟨KL, rfl, by decide, .inl ⟨_, .inl upd_same⟩, ?_⟩⟩
    have k0 : Kp [] H (upd H p (.dK (mergeK [] KL))) := (Kp.refl [] H).new hp
    have ep : upd H p (.dK (mergeK [] KL)) p = some (.dK (mergeK [] KL)) := upd_same
    generalize upd H p (.dK (mergeK [] KL)) = H0 at k0 ep ⊢
    have hc0 := k0.tup _ _ hc2
    simp! [hc0]
    refine ⟨_, eh_at r, _, DGet.k (k := .inr (eh r)) ep, ?_⟩
    rw [kl_at r, bo]
    refine ⟨fun σ H' => [some (.ref a), some (.int (i : Int)), some (.int (b : Int)), some (.ref c), some (.int (ow r : Int)), none] = σ ∧ Kp [] H H' ∧ ow r ≠ 4, ?_, ?_⟩
    · simp! [hc0]
      refine ite2 (fun h4 p2 hp2 => ?_) (fun h => ⟨k0, fun z => h (by rw [z]; rfl)⟩)
      have k9 := k0.new (o := .dK (mergeK [] KM)) hp2
      obtain ⟨x, ex1, xl, xr⟩ := leaf_txt er okr (by omega)
      have li : 7 ≤ L i := by cases r <;> first | exact lbr | (simp only at lbr; omega)
      refine ⟨KM, rfl, by decide, .inl ⟨_, .inl upd_same⟩, _, by rw [k9.tup _ _ hc2]; rfl, _, eh_at r, _, by rw [k9.tup _ _ hc2]; rfl, (erowV r).getLast?.getD .non, ?_, _, DGet.k (k := .inr (eh r)) upd_same, by rw [ex1]; exact k x _ (xr b) (by omega) k9⟩
      cases r <;> exact atI_m1 rfl
    rintro _ H1 ⟨rfl, k1, n4⟩
    have hc1' := k1.tup _ _ hc2
    refine ⟨fun σ H' => ∃ T0 : Str, [some (.ref a), some (.int (i : Int)), some (.int (b : Int)), some (.ref c), some (.int (ow r : Int)), some (.str T0)] = σ ∧ (∀ b', b' ≤ ow r → Ren rs i b' T0.cps.toList) ∧ T0.length + 2 ≤ L i ∧ Kp [] H H', ?_, ?_⟩
    · simp! [hc1']
      refine ite2 (fun h3 => ?_) (fun h3 => ?_)
      · cases r with
        | no j =>
          have hj : j < i := okr
          refine ⟨_, atI_of (by decide) rfl, j, by omega, a, us, rs, L, j, 3, rfl, k1.tup _ _ ha, ex.kp k1, lb, by omega, Nat.le_refl _, fun T1 H2 rn1 l1 k2 => ?_⟩
          show rAddW (.str (Str.ofString "-")) (.str T1) H2 _
          rw [rAddW_str]
          have l2 : (Str.ofString "-").length = 1 := by decide +kernel
          have lbr : L j + 7 ≤ L i := lbr
          refine ⟨by omega, _, rfl, fun b' hb' => ?_, by rw [len_app]; omega, k1.trans k2⟩
          rw [cps_app]
          exact .no er hb' rn1
        | bin ww j l => cases ww <;> exact absurd h3 (by simp [ow, bn])
        | _ => exact absurd rfl n4
      · cases r with
        | bin ww j l =>
          have hj : j < i := okr.1
          have hl : l < i := okr.2
          have hb := bn_le ww
          have lbr : L j + L l + 7 ≤ L i := lbr
          refine ⟨_, atI_of (by decide) rfl, j, by omega, a, us, rs, L, j, bn ww, rfl, k1.tup _ _ ha, ex.kp k1, lb, by omega, Nat.le_refl _, fun T1 H2 rn1 l1 k2 => ⟨by omega, fun p2 hp2 => ⟨.str (swd ww), by cases ww <;> rfl, ?_⟩⟩⟩
          have l3 : (swd ww).length ≤ 1 := by cases ww <;> decide +kernel
          rw [rAddW_str]
          have k3 := (k1.trans k2).new (o := .lst [V.str (Str.ofString "|"), V.str (Str.ofString "&"), V.str (Str.ofString "")]) hp2
          have lj := lb.le j
          refine ⟨by omega, _, by rw [k3.tup _ _ hc2]; rfl, _, atI_of (by decide) rfl, l, by omega, a, us, rs, L, l, bn ww + 1, rfl, k3.tup _ _ ha, ex.kp k3, lb, by omega, Nat.le_refl _, fun T2 H4 rn2 l2 k4 => ?_⟩
          show rAddW (.str (T1 ++ swd ww)) (.str T2) H4 _
          rw [rAddW_str]
          have l4 := len_app T1 (swd ww)
          have ll := lb.le l
          refine ⟨by omega, _, rfl, fun b' hb' => ?_, by rw [len_app]; omega, k3.trans k4⟩
          rw [cps_app, cps_app, List.append_assoc, show (swd ww).cps.toList = wl ww by cases ww <;> rfl]
          exact .op er hb' rn1 rn2
        | no j => exact absurd rfl h3
        | _ => exact absurd rfl n4
    rintro _ H2 ⟨T0, rfl, rn, tl, k2⟩
    refine ⟨fun σ H' => [some (.ref a), some (.int (i : Int)), some (.int (b : Int)), some (.ref c), some (.int (ow r : Int)), some (.str T0)] = σ ∧ Kp [] H H' ∧ ¬ ow r < b, ?_, ?_⟩
    · simp!
      refine ite2 (fun hb => ?_) (fun hb => ⟨k2, fun z => hb (by omega)⟩)
      have l2 : (Str.ofString "(").length = 1 := by decide +kernel
      have l3 : (Str.ofString ")").length = 1 := by decide +kernel
      have l4 := len_app (Str.ofString "(") T0
      have l5 := len_app (Str.ofString "(" ++ T0) (Str.ofString ")")
      refine ⟨by omega, by omega, k _ _ ?_ (by omega) k2⟩
      rw [cps_app, cps_app]
      exact .par (rn 0 (Nat.zero_le _))
    rintro _ H3 ⟨rfl, k3, nb⟩
    simp!
    exact k _ _ (rn b (by omega)) (by omega) k3
end
theorem Ren.pars {rs : List RE} {i : Nat} {t : List Nat} (h : Ren rs i 0 t) : ∀ (m b : Nat), 1 ≤ m → Ren rs i b (List.replicate m 40 ++ (t ++ List.replicate m 41))
  | 0, _, h1 => by omega
  | 1, b, _ => .par h
  | m + 2, b, _ => by
    have := Ren.par (b := b) (Ren.pars h (m + 1) 0 (by omega))
    rw [List.replicate_succ (n := m + 1), List.replicate_succ' (n := m + 1)]
    simpa [List.append_assoc] using this
def spLo (n : Nat) : Sp := fun vs H Q _ => ∃ (bx a : Addr) (o : HO) (mr : Nat) (us : List V) (rs : List RE) (L : Nat → Nat) (i b : Nat), vs = [.ref bx, .int (mr : Int), .ref a, .int (i : Int), .int (b : Int)] ∧ H bx = some o ∧ BoxO o ∧ mr ≤ 2 ∧ H a = some (.tup us) ∧ Exp H us rs ∧ LB rs L ∧ rs.length ≤ 1000 ∧ i < rs.length ∧ i ≤ n ∧ ∀ (T : Str) (o' : HO) (H' : Hp), Ren rs i b T.cps.toList → T.length ≤ L i → H' bx = some o' → BoxO o' → Kp [bx] H H' → Q (.str T) H'
structure TLo (mg : Str → Option Value) (f ft : Addr) : Prop where
  m__law_loose : mg "_law_loose" = some (.ref f)
  m__law_take : mg "_law_take" = some (.ref ft)
  n_str : mg "str" = none
  n_max : mg "max" = none
  n_int : mg "int" = none
section
variable {P : Program} {w : World} {K : PySem.W.Frag} {mg : Str → Option Value} {base : Heap}
abbrev s__law_loose : Stmt := top 28
theorem sc__law_loose : FnScope ["_law_box_here", "_law_more", "_law_rows", "_law_at", "_law_bond", "_law_row", "_law_own", "_law_text", "_law_many"] ["_law_box_here", "_law_more", "_law_rows", "_law_at", "_law_bond"] (defScope s__law_loose) := ⟨rfl, rfl, rfl, by decide +kernel, rfl, by decide +kernel, by decide +kernel⟩
theorem ok__law_loose {f ft : Addr} {fd fdt : FuncData} (F : Fun K "_law_loose" "_law_loose" s__law_loose f fd) (T : TLo mg f ft) (b__law_loose : Binds K fd ["_law_box_here", "_law_more", "_law_rows", "_law_at", "_law_bond"] []) (F__law_take : Fun K "_law_take" "_law_take" s__law_take ft fdt) (b__law_take : Binds K fdt ["_law_box_here", "_law_wide"] []) (G__law_take : FnOk P w K mg base CX0 1 ft fdt ["_law_box_here", "_law_wide"] spTake) : ∀ n, FnOk P w K mg base CX0 (n + 2) f fd ["_law_box_here", "_law_more", "_law_rows", "_law_at", "_law_bond"] (spLo n) := by
  intro n
  induction n using Nat.strongRecOn with
  | ind n ih =>
  refine F.ok sc__law_loose (fun vs H Q E h => ?_) (fun cdv A outer s H vs Q E hr h => ?_)
  · obtain ⟨bx, a, o, mr, us, rs, L, i, b, rfl, _⟩ := h
    rfl
  · obtain ⟨bx, a, o, mr, us, rs, L, i, b, rfl, hb, ho, m2, ha, ex, lb, r9, hi, hin, k⟩ := h
    have hu := hr.units
    have hu1 := hu_of hr
    have hsz : sizeLine = 16777216 := PySem.sizeLine_eq
    have F__law_loose := F
    have G__law_loose : FnOk P w K mg base CX0 (n + 1) f fd ["_law_box_here", "_law_more", "_law_rows", "_law_at", "_law_bond"] (fun vs H Q E => ∃ m, m < n ∧ spLo m vs H Q E) := ⟨fun vs H Q E ⟨m, hm, h⟩ => (ih m hm).len _ _ _ _ h, fun A outer s H args us vs Q E hr he hb hv ⟨m, hm, h⟩ => ((ih m hm).mono (by omega : m + 2 ≤ n + 1)).run A outer s H args us vs Q E hr he hb hv h⟩
    refine exQ (qpss_cons (qps_set (i := 5) sc__law_loose.nd rfl (by first | exact Or.inl rfl | exact Or.inr rfl) (qpe_ix ix_U (qpv 2) (qpv 3) (fun _ _ => rfl)))
    (qpss_cons (qps_set (i := 6) sc__law_loose.nd rfl (by first | exact Or.inl rfl | exact Or.inr rfl) (qpe_dget2 hu1 (qpe_disp (qpps_cons qpe_str qpe_int (qpps_cons qpe_str qpe_int (qpps_cons qpe_str qpe_int (qpps_cons qpe_str qpe_int qpps_nil))))) (qpe_ix ix_U (qpv 5) qpe_int (fun _ _ => rfl)) qpe_int ⟨rfl, rfl, rfl, rfl⟩))
    (qpss_cons (qps_set (i := 7) sc__law_loose.nd rfl (by first | exact Or.inl rfl | exact Or.inr rfl) (qpe_dget2 hu1 (qpe_disp (qpps_cons qpe_str qpe_str (qpps_cons qpe_str qpe_str qpps_nil))) (qpe_ix ix_U (qpv 5) qpe_int (fun _ _ => rfl)) (qpe_callTy call_strB (by rfl) T.n_str bt_str (qpa_cons (qpe_ix ix_U (qpv 5) (qpe_un un_neg qpe_int) (fun _ _ => rfl)) qpa_nil)) ⟨rfl, rfl, rfl, rfl⟩))
    (qpss_mid (qps_if (qpt_cmpR (op_eqU hu) (qpv 6) qpe_int (nomark _)) (qpss_one (qps_set (i := 7) sc__law_loose.nd rfl (by first | exact Or.inl rfl | exact Or.inr rfl) (qpe_op op_addW qpe_str (qpe_call G__law_loose hr rfl T.m__law_loose F__law_loose.kp b__law_loose .nil pass0 (qpa_cons (qpv 0) (qpa_cons (qpv 1) (qpa_cons (qpv 2) (qpa_cons (qpe_ix ix_U (qpv 5) qpe_int (fun _ _ => rfl)) (qpa_cons qpe_int qpa_nil))))))))) qpss_nil)
    (qpss_mid (qps_if (qpt_cmpR op_ltU (qpv 6) qpe_int (nomark _)) (qpss_cons (qps_set (i := 7) sc__law_loose.nd rfl (by first | exact Or.inl rfl | exact Or.inr rfl) (qpe_op op_addW (qpe_call G__law_loose hr rfl T.m__law_loose F__law_loose.kp b__law_loose .nil pass0 (qpa_cons (qpv 0) (qpa_cons (qpv 1) (qpa_cons (qpv 2) (qpa_cons (qpe_ix ix_U (qpv 5) qpe_int (fun _ _ => rfl)) (qpa_cons (qpv 6) qpa_nil)))))) (qpe_ix ix_U (qpe_lst (qpa_cons qpe_str (qpa_cons qpe_str (qpa_cons qpe_str qpa_nil)))) (qpv 6) (fun _ _ => rfl))))
    (qpss_one (qps_set (i := 7) sc__law_loose.nd rfl (by first | exact Or.inl rfl | exact Or.inr rfl) (qpe_op op_addW (qpv 7) (qpe_call G__law_loose hr rfl T.m__law_loose F__law_loose.kp b__law_loose .nil pass0 (qpa_cons (qpv 0) (qpa_cons (qpv 1) (qpa_cons (qpv 2) (qpa_cons (qpe_ix ix_U (qpv 5) qpe_int (fun _ _ => rfl)) (qpa_cons (qpe_op op_addW (qpv 6) qpe_int) qpa_nil)))))))))) qpss_nil)
    (qpss_cons (qps_set (i := 8) sc__law_loose.nd rfl (by first | exact Or.inl rfl | exact Or.inr rfl) (qpe_op op_addW (qpe_callTy call_intU (by rfl) T.n_int bt_int (qpa_cons (qpe_cmpR op_ltU (qpv 6) (qpv 4) (nomark _)) qpa_nil)) (qpe_callB (call_maxU rfl) (by rfl) T.n_max bt_max (qpa_cons qpe_int (qpa_cons (qpe_op op_sub (qpe_call G__law_take (hr.mono (by omega)) rfl T.m__law_take F__law_take.kp b__law_take .nil pass0 (qpa_cons (qpv 0) (qpa_cons (qpe_op op_addW (qpv 1) qpe_int) qpa_nil))) qpe_int) qpa_nil)))))
    (qpss_one (qps_ret (qpe_op op_addW (qpe_op op_addW (qpe_op op_mulC qpe_str (qpv 8)) (qpv 7)) (qpe_op op_mulC qpe_str (qpv 8))))))))))) ?_
    obtain ⟨c, hc1, hc2⟩ := ex.get hi
    have er : rs[i]? = some (rs.getD i .nothing) := by rw [List.getD_eq_getElem?_getD, List.getElem?_eq_getElem hi]; rfl
    have okr := ex.ok i _ er
    have lbr := lb.at_ i _ er
    have lbi := lb.le i
    generalize rs.getD i .nothing = r at hc2 okr er lbr
    have bo := bnd_ow r
    simp!
    refine ⟨us, by rw [ha]; rfl, _, atI_nat hc1, fun p hp => ⟨KL, rfl, by decide, .inl ⟨_, .inl upd_same⟩, ?_⟩⟩
    have k0 : Kp [] H (upd H p (.dK (mergeK [] KL))) := (Kp.refl [] H).new hp
    have ep : upd H p (.dK (mergeK [] KL)) p = some (.dK (mergeK [] KL)) := upd_same
    generalize upd H p (.dK (mergeK [] KL)) = H0 at k0 ep ⊢
    have hc0 := k0.tup _ _ hc2
    simp! [hc0]
    refine ⟨_, eh_at r, _, DGet.k (k := .inr (eh r)) ep, ?_⟩
    rw [kl_at r, bo]
    intro p2 hp2
    have k9 := k0.new (o := .dK (mergeK [] KM)) hp2
    have hc9 := k9.tup _ _ hc2
    have e9 : upd H0 p2 (.dK (mergeK [] KM)) p2 = some (.dK (mergeK [] KM)) := upd_same
    refine ⟨KM, rfl, by decide, .inl ⟨_, .inl upd_same⟩, ?_⟩
    generalize upd H0 p2 (.dK (mergeK [] KM)) = H9 at k9 hc9 e9 ⊢
    have at1 : atI (erowV r) (-1) = some ((erowV r).getLast?.getD .non) := by cases r <;> exact atI_m1 rfl
    refine ⟨_, by rw [hc9]; rfl, _, eh_at r, _, by rw [hc9]; rfl, _, at1, ?_⟩
    have st : ∀ (Q' : VK), (∀ z : V, (ow r = 4 → ∃ x : Str, (valV (mergeK [] KM) (.inr (eh r))).getD z = .str x ∧ x.length = 1 ∧ ∀ b, Ren rs i b x.cps.toList) → Q' z H9) → rStrB [(erowV r).getLast?.getD .non] H9 Q' := fun Q' q => by
      cases r with
      | nothing => exact q _ fun h => leaf_txt er okr h
      | blank => exact q _ fun h => leaf_txt er okr h
      | letter z => exact q _ fun h => leaf_txt er okr h
      | no j => have hj : j < i := okr; exact ⟨by omega, by omega, q _ fun h => absurd h (by simp [ow])⟩
      | bin w j l => have hj := okr.2; exact ⟨by omega, by omega, q _ fun h => absurd h (by cases w <;> simp [ow, bn])⟩
    refine st _ fun z hz => ⟨_, DGet.k (k := .inr (eh r)) e9, ?_⟩
    have k9b : Kp [bx] H H9 := k9.mono (by simp)
    have hb9 := k9.old _ _ hb List.not_mem_nil
    generalize (valV (mergeK [] KM) (.inr (eh r))).getD z = v7 at hz ⊢
    obtain ⟨J1, hJ1⟩ : ∃ J : L2.St → Hp → Prop, J = fun σ H' => ∃ (v7 : V) (o' : HO), σ = [some (.ref bx), some (.int (mr : Int)), some (.ref a), some (.int (i : Int)), some (.int (b : Int)), some (.ref c), some (.int (ow r : Int)), some v7, none] ∧ (3 ≤ ow r → ∃ T0 : Str, v7 = .str T0 ∧ (∀ b', b' ≤ ow r → Ren rs i b' T0.cps.toList) ∧ T0.length + 6 ≤ L i) ∧ H' bx = some o' ∧ BoxO o' ∧ Kp [bx] H H' := ⟨_, rfl⟩
    refine ⟨J1, ?_, ?_⟩
    · simp! [hc9]
      refine ite2 (fun h3 => ?_) (fun h3 => ?_)
      · cases r with
        | no j =>
          have hj : j < i := okr
          have lbr : L j + 7 ≤ L i := lbr
          refine ⟨_, atI_of (by decide) rfl, j, by omega, bx, a, o, mr, us, rs, L, j, 3, rfl, hb9, ho, m2, k9.tup _ _ ha, ex.kp k9, lb, r9, by omega, Nat.le_refl _, fun T1 o1 H2 rn1 l1 hb2 ho1 k2 => ?_⟩
          show rAddW (.str (Str.ofString "-")) (.str T1) H2 _
          rw [rAddW_str]
          have l2 : (Str.ofString "-").length = 1 := by decide +kernel
          refine ⟨by omega, ?_⟩
          rw [hJ1]
          refine ⟨_, o1, rfl, fun _ => ⟨_, rfl, fun b' hb' => ?_, by rw [len_app]; omega⟩, hb2, ho1, k9b.trans k2⟩
          rw [cps_app]
          exact .no er hb' rn1
        | bin ww j l => cases ww <;> exact absurd h3 (by simp [ow, bn])
        | _ => exact absurd h3 (by simp [ow])
      · rw [hJ1]
        refine ⟨v7, o, rfl, fun h => ?_, hb9, ho, k9b⟩
        have h4 : ow r = 4 := by
          have : ow r ≤ 4 := by cases r with
            | bin w j l => cases w <;> simp [ow, bn]
            | _ => simp [ow]
          omega
        obtain ⟨x, ex1, xl, xr⟩ := hz h4
        have li : 7 ≤ L i := by cases r <;> first | exact lbr | (simp only at lbr; omega)
        exact ⟨x, ex1, fun b' _ => xr b', by omega⟩
    intro σ H1 hj
    rw [hJ1] at hj
    obtain ⟨v8, o1, rfl, g1, hb1, ho1, k1⟩ := hj
    have hc1' := k1.tup _ _ hc2
    obtain ⟨J2, hJ2⟩ : ∃ J : L2.St → Hp → Prop, J = fun σ H' => ∃ (T0 : Str) (o' : HO), σ = [some (.ref bx), some (.int (mr : Int)), some (.ref a), some (.int (i : Int)), some (.int (b : Int)), some (.ref c), some (.int (ow r : Int)), some (.str T0), none] ∧ (∀ b', b' ≤ ow r → Ren rs i b' T0.cps.toList) ∧ T0.length + 6 ≤ L i ∧ H' bx = some o' ∧ BoxO o' ∧ Kp [bx] H H' := ⟨_, rfl⟩
    refine ⟨J2, ?_, ?_⟩
    · simp! [hc1']
      refine ite2 (fun h3 => ?_) (fun h3 => ?_)
      · cases r with
        | bin ww j l =>
          have hj : j < i := okr.1
          have hl : l < i := okr.2
          have hb' := bn_le ww
          have lbr : L j + L l + 7 ≤ L i := lbr
          refine ⟨_, atI_of (by decide) rfl, j, by omega, bx, a, o1, mr, us, rs, L, j, bn ww, rfl, hb1, ho1, m2, k1.tup _ _ ha, ex.kp k1, lb, r9, by omega, Nat.le_refl _, fun T1 o3 H3 rn1 l1 hb3 ho3 k3 => ⟨by omega, fun p3 hp3 => ⟨.str (swd ww), by cases ww <;> rfl, ?_⟩⟩⟩
          have l3 : (swd ww).length ≤ 1 := by cases ww <;> decide +kernel
          rw [rAddW_str]
          have k4 := (k1.trans k3).new (o := .lst [V.str (Str.ofString "|"), V.str (Str.ofString "&"), V.str (Str.ofString "")]) hp3
          have hb4 : upd H3 p3 (.lst [V.str (Str.ofString "|"), V.str (Str.ofString "&"), V.str (Str.ofString "")]) bx = some o3 := by rw [upd_ne (ne_of_none hb3 hp3)]; exact hb3
          have lj := lb.le j
          refine ⟨by omega, _, by rw [k4.tup _ _ hc2]; rfl, _, atI_of (by decide) rfl, l, by omega, bx, a, o3, mr, us, rs, L, l, bn ww + 1, rfl, hb4, ho3, m2, k4.tup _ _ ha, ex.kp k4, lb, r9, by omega, Nat.le_refl _, fun T2 o5 H5 rn2 l2 hb5 ho5 k5 => ?_⟩
          show rAddW (.str (T1 ++ swd ww)) (.str T2) H5 _
          rw [rAddW_str]
          have l4 := len_app T1 (swd ww)
          have ll := lb.le l
          refine ⟨by omega, ?_⟩
          rw [hJ2]
          refine ⟨_, o5, rfl, fun b' hb' => ?_, by rw [len_app]; omega, hb5, ho5, k4.trans k5⟩
          rw [cps_app, cps_app, List.append_assoc, show (swd ww).cps.toList = wl ww by cases ww <;> rfl]
          exact .op er hb' rn1 rn2
        | no j => exact absurd h3 (by simp [ow])
        | _ => exact absurd h3 (by simp [ow])
      · obtain ⟨T0, rfl, q1, q2⟩ := g1 (by omega)
        rw [hJ2]
        exact ⟨T0, o1, rfl, q1, q2, hb1, ho1, k1⟩
    intro σ H2 hj
    rw [hJ2] at hj
    obtain ⟨T0, o2, rfl, q1, q2, hb2, ho2, k2⟩ := hj
    simp!
    refine ⟨bx, _, o2, rfl, hb2, ho2, by omega, by omega, fun d o3 d0 d1 ho3 => ⟨d, rfl, ?_⟩⟩
    have em : ∃ m : Nat, ((if (ow r : Int) < (b : Int) then 1 else 0) + if d - 2 > 0 then d - 2 else 0 : Int) = (m : Int) ∧ m ≤ 3 ∧ (ow r < b → 1 ≤ m) := by
      refine ⟨((if (ow r : Int) < (b : Int) then 1 else 0) + if d - 2 > 0 then d - 2 else 0 : Int).toNat, ?_, ?_, ?_⟩
      · split <;> split <;> omega
      · split <;> split <;> omega
      · intro h; rw [if_pos (by omega)]; split <;> omega
    obtain ⟨m, em, m3, mp⟩ := em
    rw [em]
    obtain ⟨cc, ss, eo2, _⟩ := id ho2
    have kk : Kp [bx] H (upd H2 bx o3) := k2.set (by rw [hb2, eo2]) (.inl (.head _))
    refine ⟨40, m, rfl, rfl, by omega, ?_⟩
    have lr : ∀ c, (repC c m).length = m := fun c => by simp [repC, Str.length]
    have l1 := len_app (repC 40 m) T0
    have l2 := len_app (repC 40 m ++ T0) (repC 41 m)
    have r1 := lr 40
    have r2 := lr 41
    show rAddW (.str (repC 40 m)) (.str T0) (upd H2 bx o3) _
    rw [rAddW_str]
    refine ⟨by omega, 41, m, rfl, rfl, by omega, ?_⟩
    show rAddW (.str (repC 40 m ++ T0)) (.str (repC 41 m)) (upd H2 bx o3) _
    rw [rAddW_str]
    refine ⟨by omega, k _ o3 _ ?_ (by omega) upd_same ho3 kk⟩
    rw [cps_app, cps_app, show (repC 40 m).cps.toList = List.replicate m 40 by simp [repC], show (repC 41 m).cps.toList = List.replicate m 41 by simp [repC]]
    by_cases c0 : m = 0
    · subst c0
      simp only [List.replicate_zero, List.nil_append, List.append_nil]
      exact q1 b (by omega)
    · rw [List.append_assoc]
      exact Ren.pars (q1 0 (Nat.zero_le _)) m b (by omega)
end
theorem cut1' (x : V) (l : List V) : cutV (x :: l) (some 1) none = l := by
  unfold cutV
  rw [show (1 : Int) = ((1 : Nat) : Int) from rfl, HT.sIx_nat, HT.sIx_none]
  simp
structure Shp (r : Row) : Prop where
  hd : ∃ (w : Str) (rest : Row), r = .inr w :: rest ∧ rest.length ≤ 2 ∧ (w = "letter" → ∃ a : Str, rest = [.inr a]) ∧ (w ≠ "letter" → ∀ x ∈ rest, ∃ i : Int, x = .inl i)
  st : ∀ z : Str, (Sum.inr z : L2.Key) ∈ r → lw z
theorem Shp.len {r : Row} (h : Shp r) : r.length ≤ 3 := by
  obtain ⟨w, rest, rfl, l, _⟩ := h.hd
  simp; omega
theorem Shp.wp {r : Row} (h : Shp r) (g : Nat → Nat) : Shp (wpR g r) := by
  obtain ⟨⟨w, rest, rfl, l, h1, h2⟩, st⟩ := h
  refine ⟨⟨w, wpR g rest, rfl, by unfold wpR; rw [List.length_map]; exact l, fun e => ?_, fun e x hx => ?_⟩, fun z hz => ?_⟩
  · obtain ⟨a, rfl⟩ := h1 e
    exact ⟨a, rfl⟩
  · obtain ⟨y, hy, rfl⟩ := List.mem_map.mp hx
    obtain ⟨i, rfl⟩ := h2 e y hy
    exact ⟨_, rfl⟩
  · obtain ⟨y, hy, e⟩ := List.mem_map.mp hz
    cases y with
    | inl i => simp [mapR] at e
    | inr s => simp [mapR] at e; subst e; exact st s hy
def keyD : L2.Key → PyData
  | .inl i => .int i
  | .inr z => .str z
def rowD (r : Row) : PyData := .tuple (r.map keyD)
theorem reps_keys (H : Hp) : ∀ r : Row, Reps H (r.map kV) (r.map keyD)
  | [] => by simp [Reps]
  | k :: r => by
    refine ⟨?_, reps_keys H r⟩
    cases k <;> rfl
theorem rep_row {H : Hp} {a : Addr} {r : Row} (h : H a = some (.tup (r.map kV))) : Rep H (.ref a) (rowD r) := by
  unfold rowD
  simp only [Rep]
  exact ⟨a, _, rfl, h, reps_keys H r⟩
theorem reps_rows {H : Hp} {us : List V} {R : List Row} (h : RowsT H us R) : Reps H us (R.map rowD) := by
  induction h with
  | nil => simp [Reps]
  | cons h _ ih => obtain ⟨a, rfl, g⟩ := h; exact ⟨rep_row g, ih⟩
theorem lw_ok {z : Str} (h : lw z) : PyData.strOk z = true := by
  unfold PyData.strOk
  rw [Array.all_eq_true_iff_forall_mem]
  intro c hc
  have := h c (by simpa using hc)
  simp; omega
theorem lay_keys : ∀ {r : Row}, (∀ z : Str, (Sum.inr z : L2.Key) ∈ r → lw z) → PyData.canLayAll0 (r.map keyD) = true ∧ PyData.depthAll (r.map keyD) ≤ 1
  | [], _ => by simp [PyData.canLayAll0, PyData.depthAll]
  | .inl i :: r, h => by
    have ih := lay_keys (r := r) fun z hz => h z (.tail _ hz)
    simp [keyD, PyData.canLayAll0, PyData.canLay0, PyData.depthAll, PyData.depth, ih.1]
    exact ih.2
  | .inr z :: r, h => by
    have ih := lay_keys (r := r) fun z hz => h z (.tail _ hz)
    simp [keyD, PyData.canLayAll0, PyData.canLay0, PyData.depthAll, PyData.depth, ih.1, lw_ok (h z (.head _))]
    exact ih.2
theorem lay_rowD {r : Row} (h : Shp r) : (rowD r).canLay0 = true ∧ (rowD r).depth ≤ 2 := by
  have := lay_keys h.st
  simp [rowD, PyData.canLay0, PyData.depth, this.1]
  omega
theorem lay_rows : ∀ {R : List Row}, (∀ r ∈ R, Shp r) → PyData.canLayAll0 (R.map rowD) = true ∧ PyData.depthAll (R.map rowD) ≤ 2
  | [], _ => by simp [PyData.canLayAll0, PyData.depthAll]
  | r :: R, h => by
    have ih := lay_rows (R := R) fun x hx => h x (.tail _ hx)
    have := lay_rowD (h r (.head _))
    simp [PyData.canLayAll0, PyData.depthAll, this.1, ih.1]
    omega
theorem eqv_keys : ∀ r r' : Row, PyData.eqvAll (r.map keyD) (r'.map keyD) = decide (r = r')
  | [], [] => by simp [PyData.eqvAll]
  | [], _ :: _ => by simp [PyData.eqvAll]
  | _ :: _, [] => by simp [PyData.eqvAll]
  | k :: r, k' :: r' => by
    have ih := eqv_keys r r'
    simp only [List.map_cons, PyData.eqvAll, ih]
    cases k with
    | inl i =>
      cases k' with
      | inl j => by_cases h : i = j <;> simp [keyD, PyData.eqv, h]
      | inr j => simp [keyD, PyData.eqv]
    | inr i =>
      cases k' with
      | inl j => simp [keyD, PyData.eqv]
      | inr j => by_cases h : i = j <;> simp [keyD, PyData.eqv, h]
theorem eqv_row (r r' : Row) : PyData.eqv (rowD r) (rowD r') = decide (r = r') := by
  unfold rowD
  rw [← eqv_keys]
  simp [PyData.eqv]
theorem eqv_rows : ∀ R R' : List Row, PyData.eqvAll (R.map rowD) (R'.map rowD) = decide (R = R')
  | [], [] => by simp [PyData.eqvAll]
  | [], _ :: _ => by simp [PyData.eqvAll]
  | _ :: _, [] => by simp [PyData.eqvAll]
  | r :: R, r' :: R' => by
    have ih := eqv_rows R R'
    simp only [List.map_cons, PyData.eqvAll, ih, eqv_row]
    simp
theorem any_row (R : List Row) (r : Row) : ((R.map rowD).any fun e => PyData.eqv e (rowD r)) = R.any fun x => decide (x = r) := by
  induction R with
  | nil => rfl
  | cons x R ih => rw [List.map_cons, List.any_cons, ih, eqv_row]; rfl
theorem lw_of (s : String) (h : (Str.ofString s).cps.toList.all (fun c => decide (97 ≤ c ∧ c ≤ 122)) = true) : lw (Str.ofString s) := fun c hc => of_decide_eq_true (List.all_eq_true.mp h c hc)
theorem keyR_sh {k : Nat} {r : RE} (h : r.okz k) : Shp (keyR r) := by
  have n1 : (Str.ofString "nothing") ≠ Str.ofString "letter" := by decide +kernel
  have n2 : (Str.ofString "blank") ≠ Str.ofString "letter" := by decide +kernel
  have n3 : (Str.ofString "not") ≠ Str.ofString "letter" := by decide +kernel
  have n4 : ∀ w, ew w ≠ Str.ofString "letter" := fun w => by cases w <;> decide +kernel
  have w1 := lw_of "nothing" (by decide +kernel)
  have w2 := lw_of "blank" (by decide +kernel)
  have w3 := lw_of "not" (by decide +kernel)
  have w5 := lw_of "letter" (by decide +kernel)
  have w4 : ∀ w, lw (ew w) := fun w => by
    cases w
    · exact lw_of "or" (by decide +kernel)
    · exact lw_of "and" (by decide +kernel)
    · exact lw_of "behind" (by decide +kernel)
  cases r with
  | nothing => exact ⟨⟨_, [], rfl, by simp, fun e => absurd e n1, by simp⟩, fun z hz => by simp [keyR] at hz; subst hz; exact w1⟩
  | blank => exact ⟨⟨_, [], rfl, by simp, fun e => absurd e n2, by simp⟩, fun z hz => by simp [keyR] at hz; subst hz; exact w2⟩
  | letter a => exact ⟨⟨_, [.inr a], rfl, by simp, fun _ => ⟨a, rfl⟩, fun e => absurd rfl e⟩, fun z hz => by
      simp [keyR] at hz
      rcases hz with rfl | rfl
      · exact w5
      · exact h.2⟩
  | no j => exact ⟨⟨_, [.inl (j : Int)], rfl, by simp, fun e => absurd e n3, fun _ x hx => ⟨_, by simpa using hx⟩⟩, fun z hz => by simp [keyR] at hz; subst hz; exact w3⟩
  | bin w j l => exact ⟨⟨_, [.inl (j : Int), .inl (l : Int)], rfl, by simp, fun e => absurd e (n4 w), fun _ x hx => by simp at hx; rcases hx with rfl | rfl <;> exact ⟨_, rfl⟩⟩, fun z hz => by simp [keyR] at hz; subst hz; exact w4 w⟩
theorem stp_pre {R : List Row} {h : Nat → Nat} (ok : OkR R) (H : Hd R h) {v : Nat} (vl : v < R.length) (cm : List Nat) : (∃ t, stp (chd R h) cm v = cm ++ t) ∧ v ∈ stp (chd R h) cm v := by
  unfold stp
  split
  · exact ⟨⟨[], by simp⟩, by assumption⟩
  · obtain ⟨t, e⟩ := wk_pre (chd_dn ok H) v vl cm
    exact ⟨⟨t ++ [v], by rw [e, List.append_assoc]⟩, wk_self (chd_dn ok H) vl cm⟩
def cmj (R : List Row) (h : Nat → Nat) (cm ps : List Nat) : List Nat := (ps.map h).foldl (stp (chd R h)) cm
theorem cmj_snoc (R : List Row) (h : Nat → Nat) (cm ps : List Nat) (p : Nat) : cmj R h cm (ps ++ [p]) = stp (chd R h) (cmj R h cm ps) (h p) := by
  unfold cmj
  rw [List.map_append, List.foldl_append]; rfl
theorem RE.mpR {rs : List RE} {h g : Nat → Nat} {i : Nat} {r : RE} (e : rs[i]? = some r) : wpR g (RwA (rs.map keyR) h i) = keyR (r.mp fun y => g (h y)) := by
  unfold RwA
  rw [wpR_comp, List.getD_eq_getElem?_getD, List.getElem?_map, e]
  exact keyR_mp _ _
theorem own_of {rs : List RE} {i : Nat} {r : RE} (e : rs[i]? = some r) : own (rs.map keyR) i = ptR (keyR r) := by
  unfold own
  rw [List.getD_eq_getElem?_getD, List.getElem?_map, e]; rfl
theorem len_ltN {n : Nat} {S : List Nat} (nd : S.Nodup) (h : ∀ r ∈ S, r < n) : S.length ≤ n := by
  have q := nodup_leN (zs := List.range n) nd fun x hx => List.mem_range.mpr (h x hx)
  simpa using q
theorem own_le (r : RE) : (ptR (keyR r)).length ≤ 2 := by
  cases r with
  | no j => show (1 : Nat) ≤ 2; decide
  | bin w j l => show (2 : Nat) ≤ 2; decide
  | _ => exact Nat.zero_le _
structure LdI (H : Hp) (l : Addr) (R : List Row) (h : Nat → Nat) (cm : List Nat) : Prop where
  vs : ∃ vs, H l = some (.lst vs) ∧ RowsT H vs (layL R h cm)
  lay : Lay R h cm
theorem LdI.kp {H H' : Hp} {l : Addr} {R : List Row} {h : Nat → Nat} {cm : List Nat} (I : LdI H l R h cm) {S : List Addr} (k : Kp S H H') (n : l ∉ S) : LdI H' l R h cm :=
  let ⟨vs, e, r⟩ := I.vs
  ⟨⟨vs, k.old _ _ e n, r.kp k⟩, I.lay⟩
theorem Exp.okR {H : Hp} {us : List V} {rs : List RE} (E : Exp H us rs) : OkR (rs.map keyR) := fun k r e => by
  rw [List.getElem?_map] at e
  obtain ⟨s, es, rfl⟩ := Option.map_eq_some_iff.mp e
  exact keyR_ok (E.ok k s es)
theorem lay_shp {rs : List RE} (ok : ∀ (k : Nat) (r : RE), rs[k]? = some r → r.okz k) {h : Nat → Nat} {cm : List Nat} (L : Lay (rs.map keyR) h cm) : ∀ r ∈ layL (rs.map keyR) h cm, Shp r := fun r hr => by
  obtain ⟨v, hv, rfl⟩ := List.mem_map.mp hr
  have vl := L.lt v hv
  rw [List.length_map] at vl
  have e : rs[v]? = some rs[v] := List.getElem?_eq_getElem vl
  have : RwA (rs.map keyR) h v = wpR h (keyR rs[v]) := by
    unfold RwA
    rw [List.getD_eq_getElem?_getD, List.getElem?_map, e]; rfl
  rw [this]
  exact ((keyR_sh (ok v _ e)).wp h).wp _
def spLa (n : Nat) : Sp := fun vs H Q _ => ∃ (a l : Addr) (us : List V) (rs : List RE) (i : Nat) (h : Nat → Nat) (cm : List Nat), vs = [.ref a, .int (i : Int), .ref l] ∧ H a = some (.tup us) ∧ Exp H us rs ∧ rs.length ≤ 1000 ∧ Hd (rs.map keyR) h ∧ LdI H l (rs.map keyR) h cm ∧ i < rs.length ∧ i ≤ n ∧
  ∀ H', LdI H' l (rs.map keyR) h (stp (chd (rs.map keyR) h) cm (h i)) → Kp [l] H H' → Q (nV ((stp (chd (rs.map keyR) h) cm (h i)).idxOf (h i))) H'
structure TLa (mg : Str → Option Value) (f : Addr) : Prop where
  m__law_laid : mg "_law_laid" = some (.ref f)
  n_tuple : mg "tuple" = none
section
variable {P : Program} {w : World} {K : PySem.W.Frag} {mg : Str → Option Value} {base : Heap}
abbrev s__law_laid : Stmt := top 23
theorem sc__law_laid : FnScope ["_law_rows", "_law_at", "_law_laid_here", "_law_row"] ["_law_rows", "_law_at", "_law_laid_here"] (defScope s__law_laid) := ⟨rfl, rfl, rfl, by decide +kernel, rfl, by decide +kernel, by decide +kernel⟩
theorem ok__law_laid {f : Addr} {fd : FuncData} (F : Fun K "_law_laid" "_law_laid" s__law_laid f fd) (T : TLa mg f) (b__law_laid : Binds K fd ["_law_rows", "_law_at", "_law_laid_here"] []) : ∀ n, FnOk P w K mg base CX0 (n + 1) f fd ["_law_rows", "_law_at", "_law_laid_here"] (spLa n) := by
  intro n
  induction n using Nat.strongRecOn with
  | ind n ih =>
  refine F.ok sc__law_laid (fun vs H Q E h => ?_) (fun cdv A outer s H vs Q E hr h => ?_)
  · obtain ⟨a, l, us, rs, i, h, cm, rfl, _⟩ := h
    rfl
  · obtain ⟨a, l, us, rs, i, h, cm, rfl, ha, ex, r9, hh, I, hi, hin, k⟩ := h
    have hu := hr.units
    have hu1 := hu_of hr
    have hsz : sizeLine = 16777216 := PySem.sizeLine_eq
    have F__law_laid := F
    have G__law_laid : FnOk P w K mg base CX0 n f fd ["_law_rows", "_law_at", "_law_laid_here"] (fun vs H Q E => ∃ m, m < n ∧ spLa m vs H Q E) := ⟨fun vs H Q E ⟨m, hm, h⟩ => (ih m hm).len _ _ _ _ h, fun A outer s H args us vs Q E hr he hb hv ⟨m, hm, h⟩ => ((ih m hm).mono (by omega : m + 1 ≤ n)).run A outer s H args us vs Q E hr he hb hv h⟩
    refine exQ (qpss_cons (qps_set (i := 3) sc__law_laid.nd rfl (by first | exact Or.inl rfl | exact Or.inr rfl) (qpe_ix ix_U (qpv 0) (qpv 1) (fun _ _ => rfl)))
    (qpss_mid (qps_if (qpt_cmpR (op_neU hu) (qpe_ix ix_U (qpv 3) qpe_int (fun _ _ => rfl)) qpe_str (nomark _)) (qpss_one (qps_set (i := 3) sc__law_laid.nd rfl (by first | exact Or.inl rfl | exact Or.inr rfl) (qpe_op op_addX (qpe_tup (qpa_cons (qpe_ix ix_U (qpv 3) qpe_int (fun _ _ => rfl)) qpa_nil)) (qpe_callTy call_tupleU (by rfl) T.n_tuple bt_tuple (qpa_cons (qpe_comp rfl (compOk_of (sc := defScope s__law_laid) (N := ["_law_rows", "_law_at", "_law_laid_here", "_law_row"]) (Nc := ["_law_part", "_law_rows", "_law_laid_here"]) (js := [none, some 0, some 2]) (by decide +kernel)) (qpi_any (K := K) (qpe_slice (sl_UK (K := K) rfl) (qpv 3) (qpo_some qpe_int) qpo_none) rfl) (fun _ _ _ _ => (qpg_name (i := 0) (show List.Nodup [("_law_part" : Str), ("_law_rows" : Str), ("_law_laid_here" : Str)] from by decide +kernel) rfl (by first | exact Or.inl rfl | exact Or.inr rfl))) (fun _ _ _ _ => (qpe_call G__law_laid hr rfl T.m__law_laid F__law_laid.kp b__law_laid .nil pass0 (qpa_cons (qpv 1) (qpa_cons (qpv 0) (qpa_cons (qpv 2) qpa_nil)))))) qpa_nil))))) qpss_nil)
    (qpss_mid (qps_if (qpt_cmpR (op_notinL hu) (qpv 3) (qpv 2) (by with_unfolding_all rfl)) (qpss_one (qps_expr (qpe_bmL PySem.F.slot_list_append PySem.F.type_list_append mt_appendU (qpv 2) (qpa_cons (qpv 3) qpa_nil) mono_var))) qpss_nil)
    (qpss_one (qps_ret (qpe_bmL PySem.F.slot_list_index PySem.F.type_list_index (mt_indexD hu) (qpv 2) (qpa_cons (qpv 3) qpa_nil) mono_var)))))) ?_
    obtain ⟨c, hc1, hc2⟩ := ex.get hi
    have er : rs[i]? = some (rs.getD i .nothing) := by rw [List.getD_eq_getElem?_getD, List.getElem?_eq_getElem hi]; rfl
    have okr := ex.ok i _ er
    generalize rs.getD i .nothing = r at hc2 okr er
    have okR := ex.okR
    have il : i < (rs.map keyR).length := by rw [List.length_map]; exact hi
    have ch := chd_head hh il
    have ow' := own_of er
    obtain ⟨L1, L2', cin, es⟩ := lay_stp okR hh il I.lay
    rw [ch] at L2' cin es
    simp!
    refine ⟨us, by rw [ha]; rfl, _, atI_nat hc1, ?_⟩
    obtain ⟨J1, hJ1⟩ : ∃ J : L2.St → Hp → Prop, J = fun σ H' => ∃ c' : Addr, σ = [some (.ref a), some (.int (i : Int)), some (.ref l), some (.ref c')] ∧ H' c' = some (.tup ((wpR (fun x => (cmj (rs.map keyR) h cm (own (rs.map keyR) i)).idxOf x) (RwA (rs.map keyR) h i)).map kV)) ∧ LdI H' l (rs.map keyR) h (cmj (rs.map keyR) h cm (own (rs.map keyR) i)) ∧ Kp [l] H H' := ⟨_, rfl⟩
    refine ⟨J1, ?_, ?_⟩
    · simp! [hc2]
      refine ⟨_, eh_at r, ?_⟩
      rw [rNeU_str]
      refine ⟨_, rfl, ?_⟩
      have rowE : ∀ g : Nat → Nat, wpR (fun x => g x) (RwA (rs.map keyR) h i) = keyR (r.mp fun y => g (h y)) := fun g => RE.mpR er
      by_cases cl : ∃ z, r = .letter z
      · obtain ⟨z, rfl⟩ := cl
        rw [if_neg (by simp [eh]), hJ1]
        have o0 : own (rs.map keyR) i = [] := by rw [ow']; rfl
        rw [rowE, o0]
        exact ⟨c, rfl, by rw [keyR_V]; exact hc2, I, Kp.refl _ _⟩
      · have nl : eh r ≠ Str.ofString "letter" := by
          cases r with
          | letter z => exact absurd ⟨z, rfl⟩ cl
          | nothing => decide +kernel
          | blank => decide +kernel
          | no j => show Str.ofString "not" ≠ _; decide +kernel
          | bin w j l => cases w <;> (show Str.ofString _ ≠ _; decide +kernel)
        rw [if_pos (by simp [nl])]
        refine ⟨_, by rw [hc2]; rfl, _, eh_at r, by omega, fun p hp => ?_⟩
        have npl : l ≠ p := by obtain ⟨vs, e, _⟩ := I.vs; exact ne_of_none e hp
        obtain ⟨rest, ee⟩ : ∃ rest : List V, erowV r = .str (eh r) :: rest := by cases r <;> exact ⟨_, rfl⟩
        have er2 : rest = (ptR (keyR r)).map nV := by
          cases r with
          | letter z => exact absurd ⟨z, rfl⟩ cl
          | nothing => cases ee; rfl
          | blank => cases ee; rfl
          | no j => cases ee; rfl
          | bin w j l => cases ee; rfl
        have kp : Kp [] H (upd H p (.tup [V.str (eh r)])) := (Kp.refl [] H).new hp
        have hcp := kp.tup _ _ hc2
        have epp : upd H p (.tup [V.str (eh r)]) p = some (.tup [V.str (eh r)]) := upd_same
        generalize upd H p (.tup [V.str (eh r)]) = H1 at kp hcp epp ⊢
        rw [ee] at hcp
        refine .inr ⟨_, SqT.of hcp, fun z => ?_, fun p2 hp2 => ?_⟩
        · have := z.1
          rw [show (1 : Int) = ((1 : Nat) : Int) from rfl, HT.sIx_nat] at this
          simp at this
        rw [cut1']
        have k2 : Kp [] H (upd H1 p2 (.tup rest)) := kp.new hp2
        have ep2 : upd H1 p2 (.tup rest) p2 = some (.tup rest) := upd_same
        have epp2 : upd H1 p2 (.tup rest) p = some (.tup [V.str (eh r)]) := ((Kp.refl [] H1).new hp2).tup _ _ epp
        generalize upd H1 p2 (.tup rest) = H2 at k2 ep2 epp2 ⊢
        simp! [ep2]
        intro D hD
        rw [er2, ← ow'] at ep2
        have pm : ∀ p ∈ own (rs.map keyR) i, p < i := fun p hp => mem_ptR (okR.d il) hp
        have I20 : LdI H2 l (rs.map keyR) h cm := I.kp k2 (by simp)
        have nDl : D ∉ [l] := fun m => by
          obtain ⟨vs, e, _⟩ := I20.vs
          rw [← List.mem_singleton.mp m, hD] at e; cases e
        have hD0 : H D = none := k2.free hD
        have mem : ∀ ps : List Nat, (∀ p ∈ ps, p < i) → ∀ q ∈ ps, h q ∈ cmj (rs.map keyR) h cm ps := fun ps hps q hq => fold_mem (chd_dn okR hh) cm (fun x hx => by
          obtain ⟨y, hy, rfl⟩ := List.mem_map.mp hx
          have y1 := hps y hy
          have := hh.le y (by omega)
          omega) _ (.inr (List.mem_map.mpr ⟨q, hq, rfl⟩))
        refine loop_tup (xs := (own (rs.map keyR) i).map nV) (fun j σ H' => ∃ v : Option V, σ = [v, some (.ref a), some (.ref l)] ∧ H' D = some (.lst (((own (rs.map keyR) i).take j).map fun p => nV ((cmj (rs.map keyR) h cm ((own (rs.map keyR) i).take j)).idxOf (h p)))) ∧ LdI H' l (rs.map keyR) h (cmj (rs.map keyR) h cm ((own (rs.map keyR) i).take j)) ∧ Kp [l] H2 H') ?_ ?_ ?_ ?_
        · exact ⟨none, rfl, upd_same, I20.kp ((Kp.refl [] H2).new hD) (by simp), (Kp.refl _ H2).new hD⟩
        · rintro j σ H' _ ⟨v, rfl, _, _, k3⟩
          exact k3.tup _ _ ep2
        · rintro j x σ H3 hx ⟨v, rfl, eD, I3, k3⟩
          rw [List.getElem?_map] at hx
          obtain ⟨q, hq, rfl⟩ := Option.map_eq_some_iff.mp hx
          have qi := pm q (List.mem_of_getElem? hq)
          have tk : (own (rs.map keyR) i).take (j + 1) = (own (rs.map keyR) i).take j ++ [q] := by rw [List.take_add_one, hq]; rfl
          have k23 : Kp [l] H H3 := (k2.mono (by simp)).trans k3
          simp! [tEmit]
          refine ⟨q, by omega, a, l, us, rs, q, h, _, rfl, k23.tup _ _ ha, ex.kp k23, r9, hh, I3, by omega, Nat.le_refl _, fun H4 I4 k4 => ?_⟩
          have eD4 := k4.old _ _ eD nDl
          have ol : (own (rs.map keyR) i).length ≤ 2 := by rw [ow']; exact own_le r
          have tl : ((own (rs.map keyR) i).take j).length ≤ 2 := by rw [List.length_take]; omega
          have ql : h q < (rs.map keyR).length := by have := hh.le q (by omega); omega
          obtain ⟨⟨t4, et4⟩, hm4⟩ := stp_pre okR hh ql (cmj (rs.map keyR) h cm ((own (rs.map keyR) i).take j))
          dsimp only
          rw [tk, cmj_snoc, eD4]
          refine ⟨_, rfl, by rw [List.length_map]; omega, ?_, ?_, (k3.trans k4).set eD4 (.inr hD)⟩
          · rw [List.map_append]
            congr 1
            refine List.map_congr_left fun x hx => ?_
            rw [et4, ix_app (mem _ (fun y hy => pm y (List.mem_of_mem_take hy)) x hx)]
          · obtain ⟨vs4, e4, rt4⟩ := I4.vs
            have nl : l ≠ D := fun z => nDl (by rw [z]; exact .head _)
            exact ⟨⟨vs4, by rw [upd_ne nl]; exact e4, rt4.kp ((Kp.refl [D] H4).set eD4 (.inl (.head _)))⟩, I4.lay⟩
        · rintro σ H3 ⟨v, rfl, eD, I3, k3⟩
          rw [List.length_map, List.take_length] at eD I3
          dsimp only
          refine rTupleU_lst eD fun t ht => ?_
          have k4 : Kp [] H3 (upd H3 t (.tup ((own (rs.map keyR) i).map fun p => nV ((cmj (rs.map keyR) h cm (own (rs.map keyR) i)).idxOf (h p))))) := (Kp.refl [] H3).new ht
          have e4 : upd H3 t (.tup ((own (rs.map keyR) i).map fun p => nV ((cmj (rs.map keyR) h cm (own (rs.map keyR) i)).idxOf (h p)))) t = some (.tup ((own (rs.map keyR) i).map fun p => nV ((cmj (rs.map keyR) h cm (own (rs.map keyR) i)).idxOf (h p)))) := upd_same
          generalize upd H3 t (.tup ((own (rs.map keyR) i).map fun p => nV ((cmj (rs.map keyR) h cm (own (rs.map keyR) i)).idxOf (h p)))) = H4 at k4 e4 ⊢
          have ol : (own (rs.map keyR) i).length ≤ 2 := by rw [ow']; exact own_le r
          refine ⟨p, t, _, _, rfl, rfl, k4.tup _ _ (k3.tup _ _ epp2), e4, by simp only [List.length_map, List.length_cons, List.length_nil]; omega, fun c' H5 k5 hc' => ?_⟩
          rw [hJ1]
          refine ⟨c', rfl, ?_, (I3.kp k4 (by simp)).kp k5 (by simp), (((k2.mono (by simp)).trans k3).trans (k4.mono (by simp))).trans (k5.mono (by simp))⟩
          rw [hc', rowE, keyR_V, ow']
          cases r with
          | letter z => exact absurd ⟨z, rfl⟩ cl
          | _ => rfl
    intro σ H1 hj
    rw [hJ1] at hj
    obtain ⟨c', rfl, hc', I1, k1⟩ := hj
    obtain ⟨vs1, e1, rt1⟩ := I1.vs
    obtain ⟨J2, hJ2⟩ : ∃ J : L2.St → Hp → Prop, J = fun σ H' => σ = [some (.ref a), some (.int (i : Int)), some (.ref l), some (.ref c')] ∧ H' c' = some (.tup ((wpR (fun x => (cmj (rs.map keyR) h cm (own (rs.map keyR) i)).idxOf x) (RwA (rs.map keyR) h i)).map kV)) ∧ LdI H' l (rs.map keyR) h (stp (chd (rs.map keyR) h) cm (h i)) ∧ Kp [l] H H' := ⟨_, rfl⟩
    refine ⟨J2, ?_, ?_⟩
    · simp!
      have shp := lay_shp ex.ok I1.lay
      have rsh : Shp (wpR (fun x => (cmj (rs.map keyR) h cm (own (rs.map keyR) i)).idxOf x) (RwA (rs.map keyR) h i)) := by
        unfold RwA
        rw [List.getD_eq_getElem?_getD, List.getElem?_map, er]
        exact ((keyR_sh okr).wp h).wp _
      have lr := lay_rows shp
      have l1 := lay_rowD rsh
      refine ⟨l, vs1, _, _, rfl, e1, reps_rows rt1, rep_row hc', lr.1, l1.1, by omega, _, rfl, ?_⟩
      rw [any_row]
      have row_h : wpR (fun x => (cmj (rs.map keyR) h cm (own (rs.map keyR) i)).idxOf x) (RwA (rs.map keyR) h i) = wpR (fun x => (cmj (rs.map keyR) h cm (own (rs.map keyR) i)).idxOf x) (RwA (rs.map keyR) h (h i)) := by rw [hh.same i il]
      have vl : h i < (rs.map keyR).length := by have := hh.le i il; omega
      have mm := layL_mem I1.lay hh vl (hh.idem il) (by rw [ch]; exact cin)
      rw [← row_h] at mm
      have es' : stp (chd (rs.map keyR) h) cm (h i) = if h i ∈ cmj (rs.map keyR) h cm (own (rs.map keyR) i) then cmj (rs.map keyR) h cm (own (rs.map keyR) i) else cmj (rs.map keyR) h cm (own (rs.map keyR) i) ++ [h i] := es
      by_cases c0 : h i ∈ cmj (rs.map keyR) h cm (own (rs.map keyR) i)
      · rw [if_pos c0] at es'
        have : ((layL (rs.map keyR) h (cmj (rs.map keyR) h cm (own (rs.map keyR) i))).any fun x => decide (x = wpR (fun x => (cmj (rs.map keyR) h cm (own (rs.map keyR) i)).idxOf x) (RwA (rs.map keyR) h i))) = true := List.any_eq_true.mpr ⟨_, mm.mpr c0, by simp⟩
        rw [this, if_neg (by simp), hJ2, es']
        exact ⟨rfl, hc', I1, k1⟩
      · rw [if_neg c0] at es'
        have : ((layL (rs.map keyR) h (cmj (rs.map keyR) h cm (own (rs.map keyR) i))).any fun x => decide (x = wpR (fun x => (cmj (rs.map keyR) h cm (own (rs.map keyR) i)).idxOf x) (RwA (rs.map keyR) h i))) = false := by
          rw [List.any_eq_false]
          intro x hx z
          exact c0 (mm.mp (by rw [← of_decide_eq_true z]; exact hx))
        rw [this, if_pos (by simp), e1]
        have cl : (cmj (rs.map keyR) h cm (own (rs.map keyR) i)).length ≤ rs.length := by
          have := len_ltN I1.lay.nd I1.lay.lt
          rwa [List.length_map] at this
        have vl1 : vs1.length = (cmj (rs.map keyR) h cm (own (rs.map keyR) i)).length := by have := Paired.length rt1; rwa [layL, List.length_map] at this
        have ks : Kp [l] H1 (upd H1 l (.lst (vs1 ++ [V.ref c']))) := (Kp.refl _ H1).set e1 (.inl (.head _))
        refine ⟨rfl, vs1, rfl, by omega, ?_⟩
        rw [hJ2, es']
        refine ⟨rfl, ks.tup _ _ hc', ⟨⟨_, upd_same, ?_⟩, by rw [← es']; exact L1⟩, k1.trans ks⟩
        rw [layL_snoc I1.lay (by rw [ch]; exact cin), ← row_h]
        exact Paired.snoc (rt1.kp ks) ⟨c', rfl, ks.tup _ _ hc'⟩
    intro σ H2 hj
    rw [hJ2] at hj
    obtain ⟨rfl, hc2', I2, k2⟩ := hj
    obtain ⟨vs2, e2, rt2⟩ := I2.vs
    simp!
    refine ⟨by rw [e2]; rfl, ?_⟩
    have shp := lay_shp ex.ok I2.lay
    have lr := lay_rows shp
    have vl : h i < (rs.map keyR).length := by have := hh.le i il; omega
    have es' : stp (chd (rs.map keyR) h) cm (h i) = if h i ∈ cmj (rs.map keyR) h cm (own (rs.map keyR) i) then cmj (rs.map keyR) h cm (own (rs.map keyR) i) else cmj (rs.map keyR) h cm (own (rs.map keyR) i) ++ [h i] := es
    obtain ⟨t2, et2⟩ : ∃ t, stp (chd (rs.map keyR) h) cm (h i) = cmj (rs.map keyR) h cm (own (rs.map keyR) i) ++ t := by
      rw [es']
      split
      · exact ⟨[], by simp⟩
      · exact ⟨_, rfl⟩
    have hm := (stp_pre okR hh vl cm).2
    have rowq : wpR (fun x => (cmj (rs.map keyR) h cm (own (rs.map keyR) i)).idxOf x) (RwA (rs.map keyR) h i) = wpR (fun x => (stp (chd (rs.map keyR) h) cm (h i)).idxOf x) (RwA (rs.map keyR) h (h i)) := by
      rw [hh.same i il, et2]
      refine wpR_congr fun p hp => (ix_app (cin p ?_)).symm
      rw [← ch]
      unfold chd
      rw [hh.same i il]; exact hp
    rw [rowq] at hc2'
    have at2 := layL_at (R := rs.map keyR) (h := h) hm
    have rsh := shp _ (List.mem_of_getElem? at2)
    have l1 := lay_rowD rsh
    refine ⟨vs2, _, _, _, e2, reps_rows rt2, rep_row hc2', lr.1, l1.1, by omega, ⟨_, by rw [List.getElem?_map, at2]; rfl, by rw [eqv_row]; simp⟩, fun m d hm' hd => ?_, k _ I2 k2⟩
    rw [List.getElem?_map] at hd
    obtain ⟨x, hx, rfl⟩ := Option.map_eq_some_iff.mp hd
    rw [eqv_row]
    refine decide_eq_false fun z => ?_
    subst z
    have := nd_ix (layL_nd I2.lay hh) hx at2
    omega
end
theorem cut_last (xs : List V) : cutV xs none (some (-1)) = xs.take (xs.length - 1) := by
  unfold cutV
  have : HT.sIx xs.length xs.length (some (-1)) = xs.length - 1 := by
    show (if (-1 : Int) < 0 then ((-1 : Int) + (xs.length : Int)).toNat else min (-1 : Int).toNat xs.length) = _
    rw [if_pos (by decide)]
    omega
  rw [this, HT.sIx_none]
  simp
theorem Exp.take {H : Hp} {us : List V} {rs : List RE} (E : Exp H us rs) (n : Nat) : Exp H (us.take n) (rs.take n) := by
  refine ⟨?_, fun k r e => E.ok k r ?_⟩
  · have := E.at_
    clear E
    induction this generalizing n with
    | nil => simp; exact .nil
    | cons h _ ih =>
      cases n with
      | zero => exact .nil
      | succ n => exact .cons h (ih n)
  · rw [List.getElem?_take] at e
    split at e
    · exact e
    · cases e
theorem LB.take {rs : List RE} {L : Nat → Nat} (h : LB rs L) (n : Nat) : LB (rs.take n) L := ⟨fun k r e => h.at_ k r (by
  rw [List.getElem?_take] at e
  split at e
  · exact e
  · cases e), h.le⟩
def spTd : Sp := fun vs H Q _ => ∃ (a : Addr) (us : List V) (rs : List RE), vs = [.ref a] ∧ H a = some (.tup us) ∧ Exp H us rs ∧ 1 ≤ rs.length ∧ rs.length ≤ 60 ∧ ∀ (q : Addr) (us' : List V) (F : List Row) (H' : Hp), TidP (rs.map keyR) F → (∀ r ∈ F, Shp r) → H' q = some (.tup us') → RowsT H' us' F → Kp [] H H' → Q (.ref q) H'
structure TTd (mg : Str → Option Value) (fl : Addr) : Prop where
  n_len : mg "len" = none
  n_tuple : mg "tuple" = none
  m__law_laid : mg "_law_laid" = some (.ref fl)
def spKd : Sp := fun vs H Q _ => ∃ (a : Addr) (us : List V) (R : List Row), vs = [.ref a] ∧ FzT H a us ∧ RowsT H us R ∧ R.length ≤ 1000 ∧ (∀ r ∈ R, r.length ≤ 100) ∧ ∀ H', Kp [] H H' → Q (.bl true) H'
structure TKd (K : PySem.W.Frag) (mg : Str → Option Value) : Prop where
  n_tuple : mg "tuple" = none
  n_isinstance : mg "isinstance" = none
  n_int : mg "int" = none
  n_str : mg "str" = none
  n_bool : mg "bool" = none
  tt : PySem.W.kitOne K (.type "tuple") (.type "tuple") = some true
  ia : PySem.W.kitAny K (.type "int") [.type "int", .type "str"] = some true
  sa : PySem.W.kitAny K (.type "str") [.type "int", .type "str"] = some true
  ib : PySem.W.kitOne K (.type "int") (.type "bool") = some false
  sb : PySem.W.kitOne K (.type "str") (.type "bool") = some false
def spFt : Sp := fun vs H Q _ => ∃ (a : Addr) (us : List V) (rs : List RE) (L : Nat → Nat), vs = [.ref a, .int 200] ∧ H a = some (.tup us) ∧ Exp H us rs ∧ LB rs L ∧ L 0 ≤ 200 ∧ 1 ≤ rs.length ∧ rs.length ≤ 60 ∧ ∀ (a' : Addr) (us' : List V) (rs' : List RE) (H' : Hp), H' a' = some (.tup us') → Exp H' us' rs' → LB rs' L → 1 ≤ rs'.length → rs'.length ≤ rs.length → Kp [] H H' → Q (.ref a') H'
structure TFt (mg : Str → Option Value) (fw : Addr) : Prop where
  n_len : mg "len" = none
  m__law_written : mg "_law_written" = some (.ref fw)
section
variable {P : Program} {w : World} {K : PySem.W.Frag} {mg : Str → Option Value} {base : Heap}
abbrev s__law_tidy : Stmt := top 24
theorem sc__law_tidy : FnScope ["_law_rows", "_law_laid_here"] ["_law_rows"] (defScope s__law_tidy) := ⟨rfl, rfl, rfl, by decide +kernel, rfl, by decide +kernel, by decide +kernel⟩
theorem ok__law_tidy {f fl : Addr} {fd fdl : FuncData} (F : Fun K "_law_tidy" "_law_tidy" s__law_tidy f fd) (T : TTd mg fl) (F__law_laid : Fun K "_law_laid" "_law_laid" s__law_laid fl fdl) (b__law_laid : Binds K fdl ["_law_rows", "_law_at", "_law_laid_here"] []) (G0 : ∀ n, FnOk P w K mg base CX0 (n + 1) fl fdl ["_law_rows", "_law_at", "_law_laid_here"] (spLa n)) : FnOk P w K mg base CX0 62 f fd ["_law_rows"] spTd := by
  have G__law_laid := G0 60
  refine F.ok sc__law_tidy (fun vs H Q E h => ?_) (fun cdv A outer s H vs Q E hr h => ?_)
  · obtain ⟨a, us, rs, rfl, _⟩ := h
    rfl
  · obtain ⟨a, us, rs, rfl, ha, ex, n1, n9, k⟩ := h
    have hu := hr.units
    have hsz : sizeLine = 16777216 := PySem.sizeLine_eq
    have ul := ex.len
    obtain ⟨h, hh⟩ := Hd.ex ex.okR
    refine exQ (qpss_cons (qps_set (i := 1) sc__law_tidy.nd rfl (by first | exact Or.inl rfl | exact Or.inr rfl) (qpe_lst qpa_nil))
    (qpss_cons (qps_expr (qpe_call G__law_laid (hr.mono (by decide)) rfl T.m__law_laid F__law_laid.kp b__law_laid .nil pass0 (qpa_cons (qpv 0) (qpa_cons (qpe_op op_sub (qpe_callB call_lenU (by rfl) T.n_len bt_len (qpa_cons (qpv 0) qpa_nil)) qpe_int) (qpa_cons (qpv 1) qpa_nil)))))
    (qpss_one (qps_ret (qpe_callTy call_tupleU (by rfl) T.n_tuple bt_tuple (qpa_cons (qpv 1) qpa_nil)))))) ?_
    simp!
    refine ⟨by omega, fun l hl => ?_⟩
    have k0 : Kp [] H (upd H l (.lst [])) := (Kp.refl [] H).new hl
    have e0 : upd H l (.lst []) l = some (.lst []) := upd_same
    generalize upd H l (.lst []) = H0 at k0 e0 ⊢
    have ha0 := k0.tup _ _ ha
    rw [ha0]
    refine ⟨us, rfl, ?_⟩
    refine ⟨a, l, us, rs, rs.length - 1, h, [], by rw [ul]; simp; omega, ha0, ex.kp k0, by omega, hh, ⟨⟨[], e0, .nil⟩, Lay.nil⟩, by omega, by omega, fun H1 I1 k1 => ?_⟩
    obtain ⟨vs1, e1, rt1⟩ := I1.vs
    have tp : layL (rs.map keyR) h (stp (chd (rs.map keyR) h) [] (h (rs.length - 1))) = tidR (rs.map keyR) h := by
      have := lay_tid ex.okR hh (by rw [List.length_map]; exact n1)
      rw [List.length_map] at this
      exact this
    have shp := lay_shp ex.ok I1.lay
    rw [tp] at rt1 shp
    refine rTupleU_lst e1 fun q hq => ?_
    have k2 : Kp [] H1 (upd H1 q (.tup vs1)) := (Kp.refl [] H1).new hq
    exact k q vs1 _ _ ⟨h, hh, rfl⟩ shp upd_same (rt1.kp k2) ((Kp.fresh k0 k1 fun s hs => by rw [List.mem_singleton.mp hs]; exact hl).trans k2)
abbrev s__law_kinds : Stmt := top 25
theorem sc__law_kinds : FnScope ["_law_rows", "_law_row", "_law_part"] ["_law_rows"] (defScope s__law_kinds) := ⟨rfl, rfl, rfl, by decide +kernel, rfl, by decide +kernel, by decide +kernel⟩
theorem ok__law_kinds {f : Addr} {fd : FuncData} (F : Fun K "_law_kinds" "_law_kinds" s__law_kinds f fd) (T : TKd K mg) : FnOk P w K mg base CX0 1 f fd ["_law_rows"] spKd := by
  refine F.ok sc__law_kinds (fun vs H Q E h => ?_) (fun cdv A outer s H vs Q E hr h => ?_)
  · obtain ⟨a, us, R, rfl, _⟩ := h
    rfl
  · obtain ⟨a, us, R, rfl, fz, rt, l2, l3, k⟩ := h
    have hu := hr.units
    have hsz : sizeLine = 16777216 := PySem.sizeLine_eq
    have ul : us.length = R.length := Paired.length rt
    refine exQ (qpss_mid (qps_if (qpt_not (qpt_val (qpe_callB (call_isF (K := K) rfl) (by rfl) T.n_isinstance bt_isinstance (qpa_cons (qpv 0) (qpa_cons (qpe_bltn (v := .ty "tuple") rfl T.n_tuple bt_tuple rfl) qpa_nil))))) (qpss_one (qps_ret qpe_bl)) qpss_nil)
    (qpss_cons (qps_for PassesOwn.never rfl (qpi_tup (K := K) (qpv 0) rfl) (qpg_name (i := 1) sc__law_kinds.nd rfl (by first | exact Or.inl rfl | exact Or.inr rfl)) (qpss_mid (qps_if (qpt_not (qpt_val (qpe_callB (call_isinstanceK (K := K) rfl) (by rfl) T.n_isinstance bt_isinstance (qpa_cons (qpv 1) (qpa_cons (qpe_bltn (v := .ty "tuple") rfl T.n_tuple bt_tuple rfl) qpa_nil))))) (qpss_one (qps_ret qpe_bl)) qpss_nil)
    (qpss_one (qps_for PassesOwn.never rfl (qpi_any (K := K) (qpv 1) rfl) (qpg_name (i := 2) sc__law_kinds.nd rfl (by first | exact Or.inl rfl | exact Or.inr rfl)) (qpss_one (qps_if (QW.pt (qpw_or (qpt_not (qpt_val (qpe_callB (call_is2 (K := K) rfl) (by rfl) T.n_isinstance bt_isinstance (qpa_cons (qpv 2) (qpa_cons (qpe_tup (qpa_cons (qpe_bltn (v := .ty "int") rfl T.n_int bt_int rfl) (qpa_cons (qpe_bltn (v := .ty "str") rfl T.n_str bt_str rfl) qpa_nil))) qpa_nil))))) (qpw_or1 (qpt_val (qpe_callB (call_isinstanceK (K := K) rfl) (by rfl) T.n_isinstance bt_isinstance (qpa_cons (qpv 2) (qpa_cons (qpe_bltn (v := .ty "bool") rfl T.n_bool bt_bool rfl) qpa_nil))))))) (qpss_one (qps_ret qpe_bl)) qpss_nil))))))
    (qpss_one (qps_ret qpe_bl)))) ?_
    refine ⟨fun σ' H' => σ' = [some (.ref a), none, none] ∧ H = H', ?_, ?_⟩
    · simp!
      refine ⟨a, us, _, true, rfl, fz, T.tt, ?_⟩
      simp
    rintro _ _ ⟨rfl, rfl⟩
    simp!
    refine ⟨⟨us, fz.sq⟩, ?_⟩
    refine loop_tups (xs := us) (fun i σ H' => ∃ (v1 v2 : Option V), σ = [some (.ref a), v1, v2] ∧ Kp [] H H') ⟨none, none, rfl, Kp.refl _ _⟩ ?_ ?_ ?_
    · rintro i σ H' _ ⟨v1, v2, rfl, kp⟩
      exact (fz.kp kp (by simp)).sq
    · rintro i x σ H1 hx ⟨v1, v2, rfl, kp⟩
      have hil : i < R.length := by rw [← ul]; exact (List.getElem?_eq_some_iff.mp hx).1
      obtain ⟨c, hc, hcr⟩ := (rt.kp kp).get hil
      rw [hx] at hc
      cases hc
      simp!
      refine ⟨fun σ' H' => σ' = [some (.ref a), some (.ref c), v2] ∧ H1 = H', ?_, ?_⟩
      · simp! [hcr]
        exact ⟨_, .tup hcr, _, T.tt, by rw [if_neg (by decide)]; trivial⟩
      rintro _ _ ⟨rfl, rfl⟩
      simp! [hcr]
      refine loop_tup (xs := (R.getD i []).map kV) (fun j σ H' => ∃ v2, σ = [some (.ref a), some (.ref c), v2] ∧ Kp [] H H') ⟨v2, rfl, kp⟩ ?_ ?_ ?_
      · rintro j σ H' _ ⟨_, rfl, k2⟩
        obtain ⟨c2, hc2, hcr2⟩ := (rt.kp k2).get hil
        rw [hx] at hc2
        cases hc2
        exact hcr2
      · rintro j y σ H2 hy ⟨v3, rfl, k2⟩
        simp!
        refine ⟨by omega, fun p hp => ?_⟩
        have k3 := k2.new (o := .tup [V.ty "int", V.ty "str"]) hp
        rcases kV_or (List.mem_of_getElem? hy) with ⟨z, rfl, _⟩ | ⟨n, rfl, _⟩
        · refine ⟨_, p, true, rfl, upd_same, .inr ⟨z, rfl, T.sa⟩, _, rfl, ?_⟩
          rw [if_neg (by simp)]
          refine ⟨_, .str _, _, T.sb, ?_⟩
          rw [if_neg (by simp)]; exact k3
        · refine ⟨_, p, true, rfl, upd_same, .inl ⟨n, rfl, T.ia⟩, _, rfl, ?_⟩
          rw [if_neg (by simp)]
          refine ⟨_, .int _, _, T.ib, ?_⟩
          rw [if_neg (by simp)]; exact k3
      · rintro σ H2 ⟨v3, rfl, k2⟩
        exact ⟨_, _, rfl, k2⟩
    · rintro σ H1 ⟨v1, v2, rfl, kp⟩
      simp!
      exact k _ kp
abbrev s__law_fitting : Stmt := top 27
theorem sc__law_fitting : FnScope ["_law_rows", "_law_most"] ["_law_rows", "_law_most"] (defScope s__law_fitting) := ⟨rfl, rfl, rfl, by decide +kernel, rfl, by decide +kernel, by decide +kernel⟩
theorem ok__law_fitting {f fw : Addr} {fd fdw : FuncData} (F : Fun K "_law_fitting" "_law_fitting" s__law_fitting f fd) (T : TFt mg fw) (F__law_written : Fun K "_law_written" "_law_written" s__law_written fw fdw) (b__law_written : Binds K fdw ["_law_rows", "_law_at", "_law_bond"] []) (G0 : ∀ n, FnOk P w K mg base CX0 (n + 1) fw fdw ["_law_rows", "_law_at", "_law_bond"] (spWr n)) : FnOk P w K mg base CX0 62 f fd ["_law_rows", "_law_most"] spFt := by
  have G__law_written := G0 60
  refine F.ok sc__law_fitting (fun vs H Q E h => ?_) (fun cdv A outer s H vs Q E hr h => ?_)
  · obtain ⟨a, us, rs, L, rfl, _⟩ := h
    rfl
  · obtain ⟨a, us, rs, L, rfl, ha, ex, lb, l0, n1, n9, k⟩ := h
    have hu := hr.units
    have hsz : sizeLine = 16777216 := PySem.sizeLine_eq
    refine exQ (qpss_cons (qps_while PassesOwn.never (qpt_cmpR op_gt (qpe_callB call_lenU (by rfl) T.n_len bt_len (qpa_cons (qpe_call G__law_written (hr.mono (by decide)) rfl T.m__law_written F__law_written.kp b__law_written .nil pass0 (qpa_cons (qpv 0) (qpa_cons (qpe_op op_sub (qpe_callB call_lenU (by rfl) T.n_len bt_len (qpa_cons (qpv 0) qpa_nil)) qpe_int) (qpa_cons qpe_int qpa_nil)))) qpa_nil)) (qpv 1) (nomark _)) (qpss_one (qps_set (i := 0) sc__law_fitting.nd rfl (by first | exact Or.inl rfl | exact Or.inr rfl) (qpe_slice (sl_UK (K := K) rfl) (qpv 0) qpo_none (qpo_some (qpe_un un_neg qpe_int))))))
    (qpss_one (qps_ret (qpv 0)))) ?_
    simp!
    obtain ⟨W, hW⟩ : ∃ W : Nat → L2.St → Hp → Prop, W = fun μ σ H' => ∃ (a1 : Addr) (us1 : List V) (rs1 : List RE), σ = [some (.ref a1), some (.int 200)] ∧ H' a1 = some (.tup us1) ∧ Exp H' us1 rs1 ∧ LB rs1 L ∧ 1 ≤ rs1.length ∧ rs1.length ≤ rs.length ∧ Kp [] H H' ∧ μ = rs1.length := ⟨_, rfl⟩
    refine ⟨W, ?_, ?_⟩
    · rw [hW]
      exact ⟨_, a, us, rs, rfl, ha, ex, lb, n1, Nat.le_refl _, Kp.refl _ _, rfl⟩
    intro μ σ H1 hw
    rw [hW] at hw
    obtain ⟨a1, us1, rs1, rfl, ha1, ex1, lb1, n11, n91, k1, rfl⟩ := hw
    have ul := ex1.len
    simp! [ha1]
    refine ⟨a1, us1, rs1, L, rs1.length - 1, 0, by rw [ul]; simp; omega, ha1, ex1, lb1, by omega, by omega, fun T1 H2 rn tl k2 => ?_⟩
    show rLenU [V.str T1] H2 _
    rw [rLenU_str]
    have l5 := lb1.le (rs1.length - 1)
    refine ⟨by omega, _, rfl, ?_⟩
    by_cases c : (200 : Int) < (T1.length : Int)
    · rw [if_pos c]
      have n2 : 2 ≤ rs1.length := by
        apply Classical.byContradiction
        intro z
        have : rs1.length - 1 = 0 := by omega
        rw [this] at tl
        omega
      refine ⟨fun σ' H' => ∃ m', m' < rs1.length ∧ W m' σ' H', fun _ _ h => h, ?_⟩
      refine rSlU.tup (k2.tup _ _ ha1) (fun z => ?_) fun p hp => ?_
      · have := z.2
        have e : HT.sIx us1.length us1.length (some (-1)) = us1.length - 1 := by
          show (if (-1 : Int) < 0 then ((-1 : Int) + (us1.length : Int)).toNat else min (-1 : Int).toNat us1.length) = _
          rw [if_pos (by decide)]; omega
        omega
      · rw [cut_last]
        have k3 : Kp [] H2 (upd H2 p (.tup (us1.take (us1.length - 1)))) := (Kp.refl [] H2).new hp
        refine ⟨(rs1.take (us1.length - 1)).length, by rw [List.length_take]; omega, ?_⟩
        rw [hW]
        exact ⟨p, _, rs1.take (us1.length - 1), rfl, upd_same, ((ex1.kp k2).kp k3).take _, lb1.take _, by rw [List.length_take]; omega, by rw [List.length_take]; omega, (k1.trans k2).trans k3, rfl⟩
    · rw [if_neg c]
      exact k a1 us1 rs1 H2 (k2.tup _ _ ha1) (ex1.kp k2) lb1 n11 n91 (k1.trans k2)
end
def leafE : RE → Prop
  | .nothing => True
  | .blank => True
  | .letter _ => True
  | _ => False
def CH (rs : List RE) : Prop := ∀ (k : Nat) (r : RE), rs[k]? = some r → leafE r ∨ (1 ≤ k ∧ r = .no (k - 1)) ∨ (2 ≤ k ∧ leafE (rs.getD (k - 1) (.no 0)) ∧ ∃ w, r = .bin w (k - 2) (k - 1) ∨ r = .bin w (k - 1) (k - 2))
theorem CH.no {rs : List RE} (h : CH rs) (h1 : 1 ≤ rs.length) : CH (rs ++ [.no (rs.length - 1)]) := fun k r e => by
  by_cases hk : k < rs.length
  · rw [List.getElem?_append_left hk] at e
    rcases h k r e with q | q | ⟨q1, q2, q3⟩
    · exact .inl q
    · exact .inr (.inl q)
    · refine .inr (.inr ⟨q1, ?_, q3⟩)
      rw [List.getD_eq_getElem?_getD, List.getElem?_append_left (by omega), ← List.getD_eq_getElem?_getD]; exact q2
  · have hk' : k = rs.length := by
      have := (List.getElem?_eq_some_iff.mp e).1
      simp at this
      omega
    subst hk'
    rw [List.getElem?_append_right (Nat.le_refl _)] at e
    simp at e
    subst e
    exact .inr (.inl ⟨h1, rfl⟩)
theorem CH.two {rs : List RE} (h : CH rs) (h1 : 1 ≤ rs.length) {lf : RE} (hl : leafE lf) (w : BW) (c : Bool) : CH (rs ++ [lf] ++ [if c then .bin w (rs.length - 1) rs.length else .bin w rs.length (rs.length - 1)]) := fun k r e => by
  by_cases hk : k < rs.length
  · rw [List.append_assoc, List.getElem?_append_left hk] at e
    rcases h k r e with q | q | ⟨q1, q2, q3⟩
    · exact .inl q
    · exact .inr (.inl q)
    · refine .inr (.inr ⟨q1, ?_, q3⟩)
      rw [List.getD_eq_getElem?_getD, List.append_assoc, List.getElem?_append_left (by omega), ← List.getD_eq_getElem?_getD]; exact q2
  · by_cases hk2 : k = rs.length
    · subst hk2
      rw [List.getElem?_append_left (by simp), List.getElem?_append_right (Nat.le_refl _)] at e
      simp at e
      subst e
      exact .inl hl
    · have hk' : k = rs.length + 1 := by
        have := (List.getElem?_eq_some_iff.mp e).1
        simp at this
        omega
      subst hk'
      rw [List.getElem?_append_right (by simp)] at e
      simp at e
      refine .inr (.inr ⟨by omega, ?_, w, ?_⟩)
      · rw [List.getD_eq_getElem?_getD, List.getElem?_append_left (by simp), Nat.add_sub_cancel, List.getElem?_append_right (Nat.le_refl _)]
        simpa using hl
      · subst e
        cases c
        · exact .inr (by simp)
        · exact .inl (by simp)
theorem CH.one (a : Str) : CH [.letter a] := fun k r e => by
  cases k with
  | zero => cases e; exact .inl trivial
  | succ k => simp at e
def spCh : Sp := fun vs H Q _ => ∃ (b : Addr) (z : Str) (o : HO), vs = [.ref b, .str z, .int 24] ∧ H b = some o ∧ BoxO o ∧ 1 ≤ z.length ∧ z.length ≤ 1000 ∧ lw z ∧
  ∀ (t : Addr) (us : List V) (rs : List RE) (o' : HO) (H' : Hp), H' t = some (.tup us) → Exp H' us rs → 1 ≤ rs.length → rs.length ≤ 50 → CH rs → BoxO o' → H' b = some o' → Kp [b] H H' → Q (.ref t) H'
structure TCh (mg : Str → Option Value) (ft : Addr) : Prop where
  n_range : mg "range" = none
  n_len : mg "len" = none
  n_tuple : mg "tuple" = none
  m__law_take : mg "_law_take" = some (.ref ft)
section
variable {P : Program} {w : World} {K : PySem.W.Frag} {mg : Str → Option Value} {base : Heap}
abbrev s__law_chain : Stmt := top 22
theorem sc__law_chain : FnScope ["_law_box_here", "_law_letters_here", "_law_most", "_law_rows", "_law_k", "_law_kind", "_law_base", "_law_leaf", "_law_word", "_law_last"] ["_law_box_here", "_law_letters_here", "_law_most"] (defScope s__law_chain) := ⟨rfl, rfl, rfl, by decide +kernel, rfl, by decide +kernel, by decide +kernel⟩
theorem ok__law_chain {f ft : Addr} {fd fdt : FuncData} (F : Fun K "_law_chain" "_law_chain" s__law_chain f fd) (T : TCh mg ft) (F__law_take : Fun K "_law_take" "_law_take" s__law_take ft fdt) (b__law_take : Binds K fdt ["_law_box_here", "_law_wide"] [])
    (G__law_take : FnOk P w K mg base CX0 1 ft fdt ["_law_box_here", "_law_wide"] spTake) : FnOk P w K mg base CX0 2 f fd ["_law_box_here", "_law_letters_here", "_law_most"] spCh := by
  refine F.ok sc__law_chain (fun vs H Q E h => ?_) (fun cdv A outer s H vs Q E hr h => ?_)
  · obtain ⟨b, z, o, rfl, _⟩ := h
    rfl
  · obtain ⟨b, z, o, rfl, hb, ho, z1, z2, zl, k⟩ := h
    have hu := hr.units
    have hsz : sizeLine = 16777216 := PySem.sizeLine_eq
    refine ⟨_, (QSs.h (qpss_cons (qps_set (i := 3) sc__law_chain.nd rfl (by first | exact Or.inl rfl | exact Or.inr rfl) (qpe_lst (qpa_cons (qpe_tup (qpa_cons qpe_str (qpa_cons (qpe_ix ix_U (qpv 1) (qpe_call G__law_take (hr.mono (by decide)) rfl T.m__law_take F__law_take.kp b__law_take .nil pass0 (qpa_cons (qpv 0) (qpa_cons (qpe_callB call_lenU (by rfl) T.n_len bt_len (qpa_cons (qpv 1) qpa_nil)) qpa_nil))) (fun _ _ => rfl)) qpa_nil))) qpa_nil)))
    (qpss_cons (qps_for PassesOwn.never rfl (qpi_range1 rfl T.n_range (qpa_cons (qpe_call G__law_take (hr.mono (by decide)) rfl T.m__law_take F__law_take.kp b__law_take .nil pass0 (qpa_cons (qpv 0) (qpa_cons (qpv 2) qpa_nil))) qpa_nil)) (qpg_name (i := 4) sc__law_chain.nd rfl (by first | exact Or.inl rfl | exact Or.inr rfl)) (qpss_cons (qps_set (i := 5) sc__law_chain.nd rfl (by first | exact Or.inl rfl | exact Or.inr rfl) (qpe_call G__law_take (hr.mono (by decide)) rfl T.m__law_take F__law_take.kp b__law_take .nil pass0 (qpa_cons (qpv 0) (qpa_cons qpe_int qpa_nil))))
    (qpss_one (qps_if (qpt_cmpR op_ltU (qpv 5) qpe_int (nomark _)) (qpss_one (qps_expr (qpe_bmL PySem.F.slot_list_append PySem.F.type_list_append mt_appendU (qpv 3) (qpa_cons (qpe_tup (qpa_cons qpe_str (qpa_cons (qpe_op op_sub (qpe_callB call_lenU (by rfl) T.n_len bt_len (qpa_cons (qpv 3) qpa_nil)) qpe_int) qpa_nil))) qpa_nil) mono_var))) (qpss_cons (qps_set (i := 6) sc__law_chain.nd rfl (by first | exact Or.inl rfl | exact Or.inr rfl) (qpe_lst (qpa_cons (qpe_tup (qpa_cons qpe_str (qpa_cons (qpe_ix ix_U (qpv 1) (qpe_call G__law_take (hr.mono (by decide)) rfl T.m__law_take F__law_take.kp b__law_take .nil pass0 (qpa_cons (qpv 0) (qpa_cons (qpe_callB call_lenU (by rfl) T.n_len bt_len (qpa_cons (qpv 1) qpa_nil)) qpa_nil))) (fun _ _ => rfl)) qpa_nil))) (qpa_cons (qpe_tup (qpa_cons qpe_str qpa_nil)) (qpa_cons (qpe_tup (qpa_cons qpe_str qpa_nil)) qpa_nil)))))
    (qpss_cons (qps_set (i := 7) sc__law_chain.nd rfl (by first | exact Or.inl rfl | exact Or.inr rfl) (qpe_ix ix_U (qpv 6) (qpe_ix ix_U (qpe_lst (qpa_cons qpe_int (qpa_cons qpe_int (qpa_cons qpe_int (qpa_cons qpe_int (qpa_cons qpe_int (qpa_cons qpe_int qpa_nil))))))) (qpe_op op_mod (qpv 5) qpe_int) (fun _ _ => rfl)) (fun _ _ => rfl)))
    (qpss_cons (qps_set (i := 8) sc__law_chain.nd rfl (by first | exact Or.inl rfl | exact Or.inr rfl) (qpe_ix ix_U (qpe_lst (qpa_cons qpe_str (qpa_cons qpe_str (qpa_cons qpe_str qpa_nil)))) (qpe_call G__law_take (hr.mono (by decide)) rfl T.m__law_take F__law_take.kp b__law_take .nil pass0 (qpa_cons (qpv 0) (qpa_cons qpe_int qpa_nil))) (fun _ _ => rfl)))
    (qpss_cons (qps_expr (qpe_bmL PySem.F.slot_list_append PySem.F.type_list_append mt_appendU (qpv 3) (qpa_cons (qpv 7) qpa_nil) mono_var))
    (qpss_cons (qps_set (i := 9) sc__law_chain.nd rfl (by first | exact Or.inl rfl | exact Or.inr rfl) (qpe_op op_sub (qpe_callB call_lenU (by rfl) T.n_len bt_len (qpa_cons (qpv 3) qpa_nil)) qpe_int))
    (qpss_one (qps_expr (qpe_bmL PySem.F.slot_list_append PySem.F.type_list_append mt_appendU (qpv 3) (qpa_cons (qpe_ix ix_U (qpe_lst (qpa_cons (qpe_tup (qpa_cons (qpv 8) (qpa_cons (qpe_op op_sub (qpv 9) qpe_int) (qpa_cons (qpv 9) qpa_nil)))) (qpa_cons (qpe_tup (qpa_cons (qpv 8) (qpa_cons (qpv 9) (qpa_cons (qpe_op op_sub (qpv 9) qpe_int) qpa_nil)))) qpa_nil))) (qpe_call G__law_take (hr.mono (by decide)) rfl T.m__law_take F__law_take.kp b__law_take .nil pass0 (qpa_cons (qpv 0) (qpa_cons qpe_int qpa_nil))) (fun _ _ => rfl)) qpa_nil) mono_var))))))))))))
    (qpss_one (qps_ret (qpe_callTy call_tupleU (by rfl) T.n_tuple bt_tuple (qpa_cons (qpv 3) qpa_nil))))))), ?_⟩
    simp!
    refine ⟨by omega, b, z.length, o, rfl, hb, ho, by omega, by omega, fun e o1 e0 e1 ho1 => ?_⟩
    obtain ⟨ch, hch, ach⟩ := letter_at e0 e1
    simp! [ach]
    refine ⟨by omega, by omega, fun t1 ht1 => ⟨by omega, fun q hq => ?_⟩⟩
    obtain ⟨xs0, rfl⟩ := id ho.lst
    obtain ⟨xs1, rfl⟩ := id ho1.lst
    have nb1 : b ≠ t1 := ne_of_none upd_same ht1
    have nbq : b ≠ q := ne_of_none (by rw [upd_ne nb1, upd_same]) hq
    have n1q : t1 ≠ q := ne_of_none upd_same hq
    refine ⟨b, 24, _, rfl, by rw [upd_ne nbq, upd_ne nb1, upd_same], ho1, by omega, by omega, fun d o2 d0 d1 ho2 => ⟨d, rfl, by omega, by omega, ?_⟩⟩
    obtain ⟨n, rfl⟩ : ∃ n : Nat, d = (n : Int) := ⟨d.toNat, by omega⟩
    rw [Int.toNat_natCast]
    have hq0 : H q = none := by rw [upd_ne n1q.symm, upd_ne nbq.symm] at hq; exact hq
    have kb0 : Kp [b] H (upd (upd (upd H b (.lst xs1)) t1 (.tup [V.str (Str.ofString "letter"), V.str ⟨#[ch]⟩])) q (.lst [V.ref t1])) := (((Kp.refl [b] H).set hb (.inl (.head _))).new ht1).new hq
    have F0 : Fx H b q [.ref t1] [.letter ⟨#[ch]⟩] (.lst xs1) (upd (upd (upd H b (.lst xs1)) t1 (.tup [V.str (Str.ofString "letter"), V.str ⟨#[ch]⟩])) q (.lst [V.ref t1])) :=
      ⟨by rw [upd_ne nbq, upd_ne nb1, upd_same], ho1, upd_same, ⟨.cons ⟨t1, rfl, by rw [upd_ne n1q, upd_same]; rfl⟩ .nil, fun k r e => by
        cases k with
        | zero => cases e; exact ⟨rfl, fun c hc => by simp at hc; subst hc; exact zl _ hch⟩
        | succ k => simp at e⟩, kb0⟩
    have F0' := F0.box nbq ho2
    refine loop_range (fun i σ H' => ∃ (us : List V) (rs : List RE) (o : HO) (v4 v5 v6 v7 v8 v9 : Option V), σ = [some (.ref b), some (.str z), some (.int 24), some (.ref q), v4, v5, v6, v7, v8, v9] ∧ rs.length ≤ 2 * i + 1 ∧ 1 ≤ rs.length ∧ CH rs ∧ Fx H b q us rs o H') ?_ ?_ ?_
    · exact ⟨_, _, _, none, none, none, none, none, none, rfl, by simp, by simp, CH.one _, F0'⟩
    · rintro i σ H1 hi ⟨us, rs, o3, v4, v5, v6, v7, v8, v9, rfl, hl, h1, hch1, F1⟩
      have lu : us.length = rs.length := Paired.length F1.ex.at_
      simp!
      refine ⟨b, 9, _, rfl, F1.hb, F1.ho, by omega, by omega, fun kd o3 kd0 kd1 ho3 => ?_⟩
      have F2 := F1.box nbq ho3
      have eq2 := F2.hq
      simp! [eq2]
      refine ite2 (fun h3 => ?_) (fun h3 => ?_)
      · refine ⟨by omega, fun t ht => ?_⟩
        have er : [V.str (Str.ofString "not"), V.int ((us.length : Int) - 1)] = erowV (.no (rs.length - 1)) := by rw [lu, show ((rs.length : Int) - 1) = ((rs.length - 1 : Nat) : Int) by omega]; rfl
        rw [er]
        have F6 := F2.new (x := .tup (erowV (.no (rs.length - 1)))) ht
        exact ⟨us, by rw [F6.hq]; rfl, by omega, us ++ [.ref t], rs ++ [.no (rs.length - 1)], o3, _, _, _, _, _, _, ⟨rfl, rfl, rfl, rfl, rfl, rfl⟩, by simp; omega, by simp, hch1.no h1, F6.put (.no (rs.length - 1)) (show rs.length - 1 < rs.length by omega) upd_same hq0 nbq⟩
      · refine ⟨by omega, b, z.length, _, rfl, F2.hb, F2.ho, by omega, by omega, fun e o4 e0 e1 ho4 => ?_⟩
        obtain ⟨ch, hch, ach⟩ := letter_at e0 e1
        simp! [ach]
        refine ⟨by omega, by omega, fun t1 ht1 => ⟨by omega, fun t2 ht2 => ⟨by omega, fun t3 ht3 => ⟨by omega, fun t4 ht4 => ⟨by omega, fun t5 ht5 => ?_⟩⟩⟩⟩⟩
        have F3' := F1.box nbq ho4
        have F4 := (((F3'.new (x := .tup [V.str (Str.ofString "letter"), V.str ⟨#[ch]⟩]) ht1).new (x := .tup [V.str (Str.ofString "blank")]) ht2).new (x := .tup [V.str (Str.ofString "nothing")]) ht3).new (x := .lst [V.ref t1, V.ref t2, V.ref t3]) ht4
        have n12 : t1 ≠ t2 := ne_of_none upd_same ht2
        have n23 : t2 ≠ t3 := ne_of_none upd_same ht3
        have n34 : t3 ≠ t4 := ne_of_none upd_same ht4
        have n13 : t1 ≠ t3 := ne_of_none (by rw [upd_ne n12, upd_same]) ht3
        have n24 : t2 ≠ t4 := ne_of_none (by rw [upd_ne n23, upd_same]) ht4
        have n14 : t1 ≠ t4 := ne_of_none (by rw [upd_ne n13, upd_ne n12, upd_same]) ht4
        have g1 : upd (upd (upd (upd (upd H1 b o4) t1 (.tup [V.str (Str.ofString "letter"), V.str ⟨#[ch]⟩])) t2 (.tup [V.str (Str.ofString "blank")])) t3 (.tup [V.str (Str.ofString "nothing")])) t4 (.lst [V.ref t1, V.ref t2, V.ref t3]) t1 = some (.tup (erowV (.letter ⟨#[ch]⟩))) := by rw [upd_ne n14, upd_ne n13, upd_ne n12, upd_same]; rfl
        have g2 : upd (upd (upd (upd (upd H1 b o4) t1 (.tup [V.str (Str.ofString "letter"), V.str ⟨#[ch]⟩])) t2 (.tup [V.str (Str.ofString "blank")])) t3 (.tup [V.str (Str.ofString "nothing")])) t4 (.lst [V.ref t1, V.ref t2, V.ref t3]) t2 = some (.tup (erowV .blank)) := by rw [upd_ne n24, upd_ne n23, upd_same]; rfl
        have g3 : upd (upd (upd (upd (upd H1 b o4) t1 (.tup [V.str (Str.ofString "letter"), V.str ⟨#[ch]⟩])) t2 (.tup [V.str (Str.ofString "blank")])) t3 (.tup [V.str (Str.ofString "nothing")])) t4 (.lst [V.ref t1, V.ref t2, V.ref t3]) t3 = some (.tup (erowV .nothing)) := by rw [upd_ne n34, upd_same]; rfl
        have g4 : upd (upd (upd (upd (upd H1 b o4) t1 (.tup [V.str (Str.ofString "letter"), V.str ⟨#[ch]⟩])) t2 (.tup [V.str (Str.ofString "blank")])) t3 (.tup [V.str (Str.ofString "nothing")])) t4 (.lst [V.ref t1, V.ref t2, V.ref t3]) t4 = some (.lst [V.ref t1, V.ref t2, V.ref t3]) := upd_same
        revert F4 g1 g2 g3 g4 ht5
        generalize upd (upd (upd (upd (upd H1 b o4) t1 (.tup [V.str (Str.ofString "letter"), V.str ⟨#[ch]⟩])) t2 (.tup [V.str (Str.ofString "blank")])) t3 (.tup [V.str (Str.ofString "nothing")])) t4 (.lst [V.ref t1, V.ref t2, V.ref t3]) = H5
        intro ht5 F4 g1 g2 g3 g4
        obtain ⟨j, lf, tl, hj1, hj2, hlf, okl, htl⟩ : ∃ (j : Int) (lf : RE) (tl : Addr), atI [V.int 0, V.int 0, V.int 0, V.int 0, V.int 1, V.int 2] (kd % 6) = some (.int j) ∧ atI [V.ref t1, V.ref t2, V.ref t3] j = some (.ref tl) ∧ leafE lf ∧ (∀ k, lf.okz k) ∧ H5 tl = some (.tup (erowV lf)) := by
          have : kd % 6 = 0 ∨ kd % 6 = 1 ∨ kd % 6 = 2 ∨ kd % 6 = 3 ∨ kd % 6 = 4 ∨ kd % 6 = 5 := by omega
          rcases this with e | e | e | e | e | e <;> rw [e]
          · exact ⟨0, .letter ⟨#[ch]⟩, t1, rfl, rfl, trivial, fun _ => ⟨rfl, fun c hc => by simp at hc; subst hc; exact zl _ hch⟩, g1⟩
          · exact ⟨0, .letter ⟨#[ch]⟩, t1, rfl, rfl, trivial, fun _ => ⟨rfl, fun c hc => by simp at hc; subst hc; exact zl _ hch⟩, g1⟩
          · exact ⟨0, .letter ⟨#[ch]⟩, t1, rfl, rfl, trivial, fun _ => ⟨rfl, fun c hc => by simp at hc; subst hc; exact zl _ hch⟩, g1⟩
          · exact ⟨0, .letter ⟨#[ch]⟩, t1, rfl, rfl, trivial, fun _ => ⟨rfl, fun c hc => by simp at hc; subst hc; exact zl _ hch⟩, g1⟩
          · exact ⟨1, .blank, t2, rfl, rfl, trivial, fun _ => trivial, g2⟩
          · exact ⟨2, .nothing, t3, rfl, rfl, trivial, fun _ => trivial, g3⟩
        have F5 := F4.new (x := .lst [V.int 0, V.int 0, V.int 0, V.int 0, V.int 1, V.int 2]) ht5
        have g45 : upd H5 t5 (.lst [V.int 0, V.int 0, V.int 0, V.int 0, V.int 1, V.int 2]) t4 = some (.lst [V.ref t1, V.ref t2, V.ref t3]) := by rw [upd_ne (ne_of_none g4 ht5)]; exact g4
        have htl5 : upd H5 t5 (.lst [V.int 0, V.int 0, V.int 0, V.int 0, V.int 1, V.int 2]) tl = some (.tup (erowV lf)) := by rw [upd_ne (ne_of_none htl ht5)]; exact htl
        generalize upd H5 t5 (.lst [V.int 0, V.int 0, V.int 0, V.int 0, V.int 1, V.int 2]) = H6 at F5 g45 htl5 ⊢
        refine ⟨by decide, _, hj1, ?_⟩
        simp! [g45]
        refine ⟨_, hj2, by omega, fun t6 ht6 => ?_⟩
        have F7 := F5.new (x := .lst [V.str (Str.ofString "behind"), V.str (Str.ofString "or"), V.str (Str.ofString "and")]) ht6
        have nb6 : b ≠ t6 := ne_of_none F5.hb ht6
        have htl7 : upd H6 t6 (.lst [V.str (Str.ofString "behind"), V.str (Str.ofString "or"), V.str (Str.ofString "and")]) tl = some (.tup (erowV lf)) := by rw [upd_ne (ne_of_none htl5 ht6)]; exact htl5
        refine ⟨b, 3, _, rfl, F7.hb, F7.ho, by omega, by omega, fun e2 o8 e20 e21 ho8 => ?_⟩
        have F8 := F7.box nbq ho8
        have htl8 := (show Kp [b] (upd H6 t6 (.lst [V.str (Str.ofString "behind"), V.str (Str.ofString "or"), V.str (Str.ofString "and")])) (upd (upd H6 t6 (.lst [V.str (Str.ofString "behind"), V.str (Str.ofString "or"), V.str (Str.ofString "and")])) b o8) by
          obtain ⟨x9, e9⟩ := F7.ho.lst
          have h9 := F7.hb
          rw [e9] at h9
          exact (Kp.refl [b] _).set h9 (.inl (.head _))).tup _ _ htl7
        have g68 : upd (upd H6 t6 (.lst [V.str (Str.ofString "behind"), V.str (Str.ofString "or"), V.str (Str.ofString "and")])) b o8 t6 = some (.lst [V.str (Str.ofString "behind"), V.str (Str.ofString "or"), V.str (Str.ofString "and")]) := by rw [upd_ne nb6.symm, upd_same]
        generalize upd (upd H6 t6 (.lst [V.str (Str.ofString "behind"), V.str (Str.ofString "or"), V.str (Str.ofString "and")])) b o8 = H8 at F8 htl8 g68 ⊢
        obtain ⟨ww, hww⟩ : ∃ ww : BW, atI [V.str (Str.ofString "behind"), V.str (Str.ofString "or"), V.str (Str.ofString "and")] e2 = some (.str (ew ww)) := by
          have : e2 = 0 ∨ e2 = 1 ∨ e2 = 2 := by omega
          rcases this with rfl | rfl | rfl
          · exact ⟨.beh, rfl⟩
          · exact ⟨.or, rfl⟩
          · exact ⟨.and, rfl⟩
        have eq8 := F8.hq
        simp! [g68, eq8]
        refine ⟨_, hww, by omega, by omega, ?_⟩
        have ll : ((us ++ [V.ref tl]).length : Int) - 1 = (rs.length : Int) := by rw [List.length_append, lu]; simp
        have ll2 : (rs.length : Int) - 1 = ((rs.length - 1 : Nat) : Int) := by omega
        rw [ll, ll2]
        have F9 := F8.put lf (okl _) htl8 hq0 nbq
        generalize upd H8 q (.lst (us ++ [.ref tl])) = H9 at F9 ⊢
        intro p hp
        refine ⟨by omega, fun p1 hp1 => ⟨by omega, fun p2 hp2 => ?_⟩⟩
        have F12 := ((F9.new (x := .tup (erowV (.bin ww (rs.length - 1) rs.length))) hp).new (x := .tup (erowV (.bin ww rs.length (rs.length - 1)))) hp1).new (x := .lst [.ref p, .ref p1]) hp2
        have np1 : p ≠ p1 := ne_of_none upd_same hp1
        have n12' : p1 ≠ p2 := ne_of_none upd_same hp2
        have np2 : p ≠ p2 := ne_of_none (by rw [upd_ne np1, upd_same]) hp2
        have c1 : upd (upd (upd H9 p (.tup (erowV (.bin ww (rs.length - 1) rs.length)))) p1 (.tup (erowV (.bin ww rs.length (rs.length - 1))))) p2 (.lst [.ref p, .ref p1]) p = some (.tup (erowV (.bin ww (rs.length - 1) rs.length))) := by rw [upd_ne np2, upd_ne np1, upd_same]
        have c2 : upd (upd (upd H9 p (.tup (erowV (.bin ww (rs.length - 1) rs.length)))) p1 (.tup (erowV (.bin ww rs.length (rs.length - 1))))) p2 (.lst [.ref p, .ref p1]) p1 = some (.tup (erowV (.bin ww rs.length (rs.length - 1)))) := by rw [upd_ne n12', upd_same]
        have c3 : upd (upd (upd H9 p (.tup (erowV (.bin ww (rs.length - 1) rs.length)))) p1 (.tup (erowV (.bin ww rs.length (rs.length - 1))))) p2 (.lst [.ref p, .ref p1]) p2 = some (.lst [.ref p, .ref p1]) := upd_same
        have nb2 : b ≠ p2 := ne_of_none ((F9.new (x := .tup (erowV (.bin ww (rs.length - 1) rs.length))) hp).new (x := .tup (erowV (.bin ww rs.length (rs.length - 1)))) hp1).hb hp2
        show spTake _ (upd (upd (upd H9 p (.tup (erowV (.bin ww (rs.length - 1) rs.length)))) p1 (.tup (erowV (.bin ww rs.length (rs.length - 1))))) p2 (.lst [.ref p, .ref p1])) _ _
        generalize upd (upd (upd H9 p (.tup (erowV (.bin ww (rs.length - 1) rs.length)))) p1 (.tup (erowV (.bin ww rs.length (rs.length - 1))))) p2 (.lst [.ref p, .ref p1]) = H12 at F12 c1 c2 c3 ⊢
        refine ⟨b, 2, _, rfl, F12.hb, F12.ho, by omega, by omega, fun e3 o10 e30 e31 ho10 => ?_⟩
        have F13 := F12.box nbq ho10
        have k13 : Kp [b] H12 (upd H12 b o10) := by
          obtain ⟨x9, e9⟩ := F12.ho.lst
          have h9 := F12.hb
          rw [e9] at h9
          exact (Kp.refl [b] _).set h9 (.inl (.head _))
        have d1 := k13.tup _ _ c1
        have d2 := k13.tup _ _ c2
        have d3 := k13.old _ _ c3 (by simpa using nb2.symm)
        generalize upd H12 b o10 = H13 at F13 d1 d2 d3 ⊢
        simp! [d3]
        have h2 := hch1.two h1 hlf ww
        have : e3 = 0 ∨ e3 = 1 := by omega
        rcases this with rfl | rfl
        · exact ⟨_, rfl, us ++ [.ref tl], by rw [F13.hq]; rfl, by simp; omega, us ++ [.ref tl] ++ [.ref p], rs ++ [lf] ++ [.bin ww (rs.length - 1) rs.length], o10, _, _, _, _, _, _, ⟨rfl, rfl, rfl, rfl, rfl, rfl⟩, by simp; omega, by simp, h2 true, F13.put (.bin ww (rs.length - 1) rs.length) (by rw [List.length_append]; exact ⟨by simp; omega, by simp⟩) d1 hq0 nbq⟩
        · exact ⟨_, rfl, us ++ [.ref tl], by rw [F13.hq]; rfl, by simp; omega, us ++ [.ref tl] ++ [.ref p1], rs ++ [lf] ++ [.bin ww rs.length (rs.length - 1)], o10, _, _, _, _, _, _, ⟨rfl, rfl, rfl, rfl, rfl, rfl⟩, by simp; omega, by simp, h2 false, F13.put (.bin ww rs.length (rs.length - 1)) (by rw [List.length_append]; exact ⟨by simp, by simp; omega⟩) d2 hq0 nbq⟩
    · rintro σ H1 ⟨us, rs, o3, v4, v5, v6, v7, v8, v9, rfl, hl, h1, hch1, F1⟩
      have eq1 := F1.hq
      simp!
      refine rTupleU_lst eq1 fun t ht => ?_
      have F2 := F1.new (x := .tup us) ht
      exact k t us rs _ _ upd_same F2.ex h1 (by omega) hch1 F2.ho F2.hb F2.kp
end
def LX (k : Nat) : Nat := if k < 9 then 14 * 2 ^ k - 7 else 0
theorem LX_le (k : Nat) : LX k ≤ 5000 := by
  unfold LX
  split
  · rename_i h
    have := Nat.pow_le_pow_right (n := 2) (by omega) (show k ≤ 8 by omega)
    omega
  · omega
theorem lb_few {H : Hp} {us : List V} {rs : List RE} (E : Exp H us rs) (h : rs.length ≤ 8) : LB rs LX := by
  refine ⟨fun k r e => ?_, LX_le⟩
  have kl := (List.getElem?_eq_some_iff.mp e).1
  have ok := E.ok k r e
  have ek : LX k = 14 * 2 ^ k - 7 := if_pos (by omega)
  have p1 : 1 ≤ 2 ^ k := Nat.one_le_two_pow
  have lt : ∀ j, j < k → LX j = 14 * 2 ^ j - 7 ∧ 2 * 2 ^ j ≤ 2 ^ k ∧ 1 ≤ 2 ^ j := fun j hj => by
    refine ⟨if_pos (by omega), ?_, Nat.one_le_two_pow⟩
    have := Nat.pow_le_pow_right (n := 2) (by omega) (show j + 1 ≤ k by omega)
    rw [Nat.pow_succ] at this
    omega
  cases r with
  | no j => have h1 := lt j ok; show LX j + 7 ≤ LX k; omega
  | bin w i j => have h1 := lt i ok.1; have h2 := lt j ok.2; show LX i + LX j + 7 ≤ LX k; omega
  | nothing => show 7 ≤ LX k; omega
  | blank => show 7 ≤ LX k; omega
  | letter a => show 7 ≤ LX k; omega
instance (r : RE) : Decidable (leafE r) := by
  cases r <;> unfold leafE <;> infer_instance
def LC (rs : List RE) (k : Nat) : Nat := if 100 ≤ k then 0 else if leafE (rs.getD k (.no 0)) then 7 else 14 * k + 7
theorem LC_le (rs : List RE) (k : Nat) : LC rs k ≤ 14 * k + 7 ∧ LC rs k ≤ 5000 := by
  unfold LC
  split
  · omega
  · split <;> omega
theorem lb_chain {rs : List RE} (ch : CH rs) (h : rs.length ≤ 50) : LB rs (LC rs) := by
  refine ⟨fun k r e => ?_, fun k => (LC_le rs k).2⟩
  have kl := (List.getElem?_eq_some_iff.mp e).1
  have ed : rs.getD k (.no 0) = r := by rw [List.getD_eq_getElem?_getD, e]; rfl
  have n1 : ¬ 100 ≤ k := by omega
  rcases ch k r e with q | ⟨q1, rfl⟩ | ⟨q1, q2, w, q3⟩
  · have ek : LC rs k = 7 := by unfold LC; rw [if_neg n1, ed, if_pos q]
    cases r with
    | no j => exact absurd q id
    | bin w i j => exact absurd q id
    | nothing => show 7 ≤ LC rs k; omega
    | blank => show 7 ≤ LC rs k; omega
    | letter a => show 7 ≤ LC rs k; omega
  · have ek : LC rs k = 14 * k + 7 := by unfold LC; rw [if_neg n1, ed, if_neg (show ¬ leafE (RE.no (k - 1)) from id)]
    have := (LC_le rs (k - 1)).1
    show LC rs (k - 1) + 7 ≤ LC rs k
    omega
  · have e1 : LC rs (k - 1) = 7 := by unfold LC; rw [if_neg (by omega), if_pos q2]
    have := (LC_le rs (k - 2)).1
    rcases q3 with rfl | rfl
    · have ek : LC rs k = 14 * k + 7 := by unfold LC; rw [if_neg n1, ed, if_neg (show ¬ leafE (RE.bin w (k - 2) (k - 1)) from id)]
      show LC rs (k - 2) + LC rs (k - 1) + 7 ≤ LC rs k
      omega
    · have ek : LC rs k = 14 * k + 7 := by unfold LC; rw [if_neg n1, ed, if_neg (show ¬ leafE (RE.bin w (k - 1) (k - 2)) from id)]
      show LC rs (k - 1) + LC rs (k - 2) + 7 ≤ LC rs k
      omega
theorem wpR_self {r : Row} {k : Nat} (h : RowOk k r) : wpR (fun x => x) r = r := by
  unfold wpR
  refine (List.map_congr_left fun x hx => ?_).trans (List.map_id _)
  cases x with
  | inl i => have := h i hx; show (Sum.inl ((i.toNat : Nat) : Int) : L2.Key) = .inl i; rw [Int.toNat_of_nonneg this.1]
  | inr s => rfl
theorem TidP.one {R F G : List Row} (ok : OkR R) (n1 : 1 ≤ R.length) (a : TidP R F) (b : TidP R G) : F = G := by
  obtain ⟨h1, H1, rfl⟩ := a
  obtain ⟨h2, H2, rfl⟩ := b
  exact Hom.tid (φ := fun x => x) ⟨fun x hx => hx, fun x hx => wpR_self (ok.d hx)⟩ ok ok H1 H2 n1 n1 rfl
theorem TidP.shp {rs : List RE} (okz : ∀ (k : Nat) (r : RE), rs[k]? = some r → r.okz k) (n1 : 1 ≤ rs.length) {F : List Row} (t : TidP (rs.map keyR) F) : (∀ r ∈ F, Shp r) ∧ F.length ≤ rs.length := by
  obtain ⟨h, H, rfl⟩ := t
  have ok : OkR (rs.map keyR) := fun k r e => by
    rw [List.getElem?_map] at e
    obtain ⟨s, es, rfl⟩ := Option.map_eq_some_iff.mp e
    exact keyR_ok (okz k s es)
  have O := ord_ok ok H (by rw [List.length_map]; exact n1)
  refine ⟨fun r hr => ?_, ?_⟩
  · obtain ⟨v, hv, rfl⟩ := List.mem_map.mp hr
    have vl := O.lt v hv
    rw [List.length_map] at vl
    have e : rs[v]? = some rs[v] := List.getElem?_eq_getElem vl
    have : RwA (rs.map keyR) h v = wpR h (keyR rs[v]) := by
      unfold RwA
      rw [List.getD_eq_getElem?_getD, List.getElem?_map, e]; rfl
    rw [this]
    exact ((keyR_sh (okz v _ e)).wp h).wp _
  · rw [tid_len]
    have := len_ltN O.nd O.lt
    rwa [List.length_map] at this
theorem shaped_rows {F : List Row} (h : ∀ r ∈ F, Shp r) : SeqAt.shaped (.tuple (F.map rowD)) = true := by
  have y := lay_rows h
  simp [SeqAt.shaped, PyData.canLay0, PyData.depth, y.1]
  omega
def spRt (K : PySem.W.Frag) : Sp := fun vs H Q _ => ∃ (a : Addr) (k : Int) (ns : List Int), vs = [.ref a, .int k] ∧ SqL K H a (ns.map V.int) ∧ 0 ≤ k ∧ k ≤ 1000 ∧ ∀ H', Kp [] H H' → Q (.bl true) H'
structure TRt (mg : Str → Option Value) (fb fl fe ft fc ff fo fw fr fk fy : Addr) : Prop where
  n_len : mg "len" = none
  m__law_box : mg "_law_box" = some (.ref fb)
  m__law_letters : mg "_law_letters" = some (.ref fl)
  m__law_expression : mg "_law_expression" = some (.ref fe)
  m__law_take : mg "_law_take" = some (.ref ft)
  m__law_chain : mg "_law_chain" = some (.ref fc)
  m__law_fitting : mg "_law_fitting" = some (.ref ff)
  m__law_loose : mg "_law_loose" = some (.ref fo)
  m__law_written : mg "_law_written" = some (.ref fw)
  m_read_expression : mg "read_expression" = some (.ref fr)
  m__law_kinds : mg "_law_kinds" = some (.ref fk)
  m__law_tidy : mg "_law_tidy" = some (.ref fy)
section
variable {P : Program} {w : World} {K : PySem.W.Frag} {mg : Str → Option Value} {base : Heap}
abbrev s__law_right : Stmt := top 29
theorem sc__law_right : FnScope ["_law_script", "_law_k", "_law_box_here", "_law_letters_here", "_law_more", "_law_rows", "_law_text", "_law_found"] ["_law_script", "_law_k"] (defScope s__law_right) := ⟨rfl, rfl, rfl, by decide +kernel, rfl, by decide +kernel, by decide +kernel⟩
theorem ok__law_right {f fb fl fe ft fc ff fo fw fr fk fy : Addr} {fd fdb fdl fde fdt fdc fdf fdo fdw fdr fdk fdy : FuncData} (F : Fun K "_law_right" "_law_right" s__law_right f fd) (T : TRt mg fb fl fe ft fc ff fo fw fr fk fy)
    (F__law_box : Fun K "_law_box" "_law_box" s__law_box fb fdb) (b__law_box : Binds K fdb ["_law_script", "_law_k"] []) (G__law_box : FnOk P w K mg base CX0 1 fb fdb ["_law_script", "_law_k"] (spBox K))
    (F__law_letters : Fun K "_law_letters" "_law_letters" s__law_letters fl fdl) (b__law_letters : Binds K fdl ["_law_box_here", "_law_most"] []) (G__law_letters : FnOk P w K mg base CX0 2 fl fdl ["_law_box_here", "_law_most"] spLetters)
    (F__law_expression : Fun K "_law_expression" "_law_expression" s__law_expression fe fde) (b__law_expression : Binds K fde ["_law_box_here", "_law_letters_here", "_law_most"] []) (G__law_expression : FnOk P w K mg base CX0 3 fe fde ["_law_box_here", "_law_letters_here", "_law_most"] spExp)
    (F__law_take : Fun K "_law_take" "_law_take" s__law_take ft fdt) (b__law_take : Binds K fdt ["_law_box_here", "_law_wide"] []) (G__law_take : FnOk P w K mg base CX0 1 ft fdt ["_law_box_here", "_law_wide"] spTake)
    (F__law_chain : Fun K "_law_chain" "_law_chain" s__law_chain fc fdc) (b__law_chain : Binds K fdc ["_law_box_here", "_law_letters_here", "_law_most"] []) (G__law_chain : FnOk P w K mg base CX0 2 fc fdc ["_law_box_here", "_law_letters_here", "_law_most"] spCh)
    (F__law_fitting : Fun K "_law_fitting" "_law_fitting" s__law_fitting ff fdf) (b__law_fitting : Binds K fdf ["_law_rows", "_law_most"] []) (G__law_fitting : FnOk P w K mg base CX0 62 ff fdf ["_law_rows", "_law_most"] spFt)
    (F__law_loose : Fun K "_law_loose" "_law_loose" s__law_loose fo fdo) (b__law_loose : Binds K fdo ["_law_box_here", "_law_more", "_law_rows", "_law_at", "_law_bond"] []) (Go : ∀ n, FnOk P w K mg base CX0 (n + 2) fo fdo ["_law_box_here", "_law_more", "_law_rows", "_law_at", "_law_bond"] (spLo n))
    (F__law_written : Fun K "_law_written" "_law_written" s__law_written fw fdw) (b__law_written : Binds K fdw ["_law_rows", "_law_at", "_law_bond"] []) (Gw : ∀ n, FnOk P w K mg base CX0 (n + 1) fw fdw ["_law_rows", "_law_at", "_law_bond"] (spWr n))
    (F_read_expression : Fun K "read_expression" "read_expression" s_read_expression fr fdr) (b_read_expression : Binds K fdr ["text"] []) (G_read_expression : FnOk P w K mg base CX0 5 fr fdr ["text"] spRx)
    (F__law_kinds : Fun K "_law_kinds" "_law_kinds" s__law_kinds fk fdk) (b__law_kinds : Binds K fdk ["_law_rows"] []) (G__law_kinds : FnOk P w K mg base CX0 1 fk fdk ["_law_rows"] spKd)
    (F__law_tidy : Fun K "_law_tidy" "_law_tidy" s__law_tidy fy fdy) (b__law_tidy : Binds K fdy ["_law_rows"] []) (G__law_tidy : FnOk P w K mg base CX0 62 fy fdy ["_law_rows"] spTd) : FnOk P w K mg base CX0 63 f fd ["_law_script", "_law_k"] (spRt K) := by
  have G__law_loose := Go 60
  have G__law_written := Gw 60
  refine F.ok sc__law_right (fun vs H Q E h => ?_) (fun cdv A outer s H vs Q E hr h => ?_)
  · obtain ⟨a, k, ns, rfl, _⟩ := h
    rfl
  · obtain ⟨a, k, ns, rfl, ha, k0, k9, q⟩ := h
    have hu := hr.units
    have hsz : sizeLine = 16777216 := PySem.sizeLine_eq
    refine exQ (qpss_cons (qps_set (i := 2) sc__law_right.nd rfl (by first | exact Or.inl rfl | exact Or.inr rfl) (qpe_call G__law_box (hr.mono (by decide)) rfl T.m__law_box F__law_box.kp b__law_box .nil pass0 (qpa_cons (qpv 0) (qpa_cons (qpv 1) qpa_nil))))
    (qpss_cons (qps_set (i := 3) sc__law_right.nd rfl (by first | exact Or.inl rfl | exact Or.inr rfl) (qpe_call G__law_letters (hr.mono (by decide)) rfl T.m__law_letters F__law_letters.kp b__law_letters .nil pass0 (qpa_cons (qpv 2) (qpa_cons qpe_int qpa_nil))))
    (qpss_cons (qps_set (i := 4) sc__law_right.nd rfl (by first | exact Or.inl rfl | exact Or.inr rfl) qpe_int)
    (qpss_cons (qps_set (i := 5) sc__law_right.nd rfl (by first | exact Or.inl rfl | exact Or.inr rfl) (qpe_call G__law_expression (hr.mono (by decide)) rfl T.m__law_expression F__law_expression.kp b__law_expression .nil pass0 (qpa_cons (qpv 2) (qpa_cons (qpv 3) (qpa_cons qpe_int qpa_nil)))))
    (qpss_mid (qps_if (qpt_cmpR (op_eqU hu) (qpe_call G__law_take (hr.mono (by decide)) rfl T.m__law_take F__law_take.kp b__law_take .nil pass0 (qpa_cons (qpv 2) (qpa_cons qpe_int qpa_nil))) qpe_int (nomark _)) (qpss_cons (qps_set (i := 4) sc__law_right.nd rfl (by first | exact Or.inl rfl | exact Or.inr rfl) qpe_int)
    (qpss_one (qps_set (i := 5) sc__law_right.nd rfl (by first | exact Or.inl rfl | exact Or.inr rfl) (qpe_call G__law_chain (hr.mono (by decide)) rfl T.m__law_chain F__law_chain.kp b__law_chain .nil pass0 (qpa_cons (qpv 2) (qpa_cons (qpv 3) (qpa_cons qpe_int qpa_nil))))))) qpss_nil)
    (qpss_cons (qps_set (i := 5) sc__law_right.nd rfl (by first | exact Or.inl rfl | exact Or.inr rfl) (qpe_call G__law_fitting (hr.mono (by decide)) rfl T.m__law_fitting F__law_fitting.kp b__law_fitting .nil pass0 (qpa_cons (qpv 5) (qpa_cons qpe_int qpa_nil))))
    (qpss_cons (qps_set (i := 6) sc__law_right.nd rfl (by first | exact Or.inl rfl | exact Or.inr rfl) (qpe_call G__law_loose (hr.mono (by decide)) rfl T.m__law_loose F__law_loose.kp b__law_loose .nil pass0 (qpa_cons (qpv 2) (qpa_cons (qpv 4) (qpa_cons (qpv 5) (qpa_cons (qpe_op op_sub (qpe_callB call_lenU (by rfl) T.n_len bt_len (qpa_cons (qpv 5) qpa_nil)) qpe_int) (qpa_cons qpe_int qpa_nil)))))))
    (qpss_mid (qps_if (qpt_cmpR op_gt (qpe_callB call_lenU (by rfl) T.n_len bt_len (qpa_cons (qpv 6) qpa_nil)) qpe_int (nomark _)) (qpss_one (qps_set (i := 6) sc__law_right.nd rfl (by first | exact Or.inl rfl | exact Or.inr rfl) (qpe_call G__law_written (hr.mono (by decide)) rfl T.m__law_written F__law_written.kp b__law_written .nil pass0 (qpa_cons (qpv 5) (qpa_cons (qpe_op op_sub (qpe_callB call_lenU (by rfl) T.n_len bt_len (qpa_cons (qpv 5) qpa_nil)) qpe_int) (qpa_cons qpe_int qpa_nil)))))) qpss_nil)
    (qpss_cons (qps_set (i := 7) sc__law_right.nd rfl (by first | exact Or.inl rfl | exact Or.inr rfl) (qpe_call G_read_expression (hr.mono (by decide)) rfl T.m_read_expression F_read_expression.kp b_read_expression .nil pass0 (qpa_cons (qpv 6) qpa_nil)))
    (qpss_one (qps_ret (qpe_and (qpe_call G__law_kinds (hr.mono (by decide)) rfl T.m__law_kinds F__law_kinds.kp b__law_kinds .nil pass0 (qpa_cons (qpv 7) qpa_nil)) (qpe_one (qpe_cmpR (op_eqT (K := K) rfl hu) (qpv 7) (qpe_call G__law_tidy (hr.mono (by decide)) rfl T.m__law_tidy F__law_tidy.kp b__law_tidy .nil pass0 (qpa_cons (qpv 5) qpa_nil)) (nomark _))))))))))))))) ?_
    simp!
    refine ⟨a, k, ns, rfl, ha, k0, by omega, fun bx o hbx ho => ?_⟩
    have kb : Kp [] H (upd H bx o) := (Kp.refl [] H).new hbx
    have eb : upd H bx o bx = some o := upd_same
    generalize upd H bx o = H0 at kb eb ⊢
    refine ⟨bx, 4, o, rfl, eb, ho, by omega, by omega, fun z o1 H1 hz ho1 eb1 k1 => ?_⟩
    have zl : lw z := hz.az
    have z9 := hz.hi
    refine ⟨bx, z, 8, o1, rfl, eb1, ho1, hz.lo, by omega, zl, by omega, by omega, fun t us rs o2 H2 ht ex n1 n8 ho2 eb2 k2 => ?_⟩
    have fr : ∀ s ∈ [bx], H s = none := fun s hs => by rw [List.mem_singleton.mp hs]; exact hbx
    obtain ⟨J1, hJ1⟩ : ∃ J : L2.St → Hp → Prop, J = fun σ H' => ∃ (mr : Nat) (t : Addr) (us : List V) (rs : List RE) (L : Nat → Nat) (o : HO), σ = [some (.ref a), some (.int k), some (.ref bx), some (.str z), some (.int (mr : Int)), some (.ref t), none, none] ∧ mr ≤ 2 ∧ H' t = some (.tup us) ∧ Exp H' us rs ∧ LB rs L ∧ L 0 ≤ 200 ∧ 1 ≤ rs.length ∧ rs.length ≤ 50 ∧ H' bx = some o ∧ BoxO o ∧ Kp [bx] H0 H' := ⟨_, rfl⟩
    refine ⟨J1, ?_, ?_⟩
    · simp!
      refine ⟨bx, 3, o2, rfl, eb2, ho2, by omega, by omega, fun d o3 d0 d1 ho3 => ?_⟩
      obtain ⟨xs2, eo2⟩ := id ho2.lst
      have k3 : Kp [bx] H2 (upd H2 bx o3) := (Kp.refl _ H2).set (by rw [eb2, eo2]) (.inl (.head _))
      have eb3 : upd H2 bx o3 bx = some o3 := upd_same
      generalize upd H2 bx o3 = H3 at k3 eb3 ⊢
      rw [rEqU_int]
      refine ⟨_, rfl, ite2 (fun _ => ?_) (fun _ => ?_)⟩
      · refine ⟨bx, z, o3, rfl, eb3, ho3, hz.lo, by omega, zl, fun t us rs o4 H4 ht ex n1 n5 ch ho4 eb4 k4 => ?_⟩
        rw [hJ1]
        refine ⟨1, t, us, rs, LC rs, o4, rfl, by omega, ht, ex, lb_chain ch n5, ?_, n1, n5, eb4, ho4, ((k1.trans k2).trans k3).trans k4⟩
        have := (LC_le rs 0).1
        omega
      · rw [hJ1]
        exact ⟨2, t, us, rs, LX, o3, rfl, by omega, k3.tup _ _ ht, ex.kp k3, lb_few ex n8, by decide, n1, by omega, eb3, ho3, (k1.trans k2).trans k3⟩
    intro σ H3 hj
    rw [hJ1] at hj
    obtain ⟨mr, t, us, rs, L, o3, rfl, m2, ht, ex, lb, l0, n1, n5, eb3, ho3, k3⟩ := hj
    simp!
    refine ⟨t, us, rs, L, rfl, ht, ex, lb, l0, n1, by omega, fun a4 us4 rs4 H4 ha4 ex4 lb4 n14 n54 k4 => ?_⟩
    have ul4 := ex4.len
    have eb4 := k4.old _ _ eb3 List.not_mem_nil
    show rLenU [V.ref a4] H4 _
    rw [rLenU_ref, ha4]
    refine ⟨us4, rfl, _, rfl, ?_⟩
    refine ⟨bx, a4, o3, mr, us4, rs4, L, rs4.length - 1, 0, by rw [ul4]; simp; omega, eb4, ho3, m2, ha4, ex4, lb4, by omega, by omega, by omega, fun T1 o5 H5 rn tl eb5 ho5 k5 => ?_⟩
    have l5 := lb4.le (rs4.length - 1)
    have k05 : Kp [bx] H0 H5 := (k3.trans (k4.mono (by simp))).trans k5
    have ha5 := k5.tup _ _ ha4
    have ex5 := ex4.kp k5
    obtain ⟨J2, hJ2⟩ : ∃ J : L2.St → Hp → Prop, J = fun σ H' => ∃ (T : Str), σ = [some (.ref a), some (.int k), some (.ref bx), some (.str z), some (.int (mr : Int)), some (.ref a4), some (.str T), none] ∧ Ren rs4 (rs4.length - 1) 0 T.cps.toList ∧ T.length ≤ 5000 ∧ Kp [bx] H0 H' ∧ H' a4 = some (.tup us4) ∧ Exp H' us4 rs4 := ⟨_, rfl⟩
    refine ⟨J2, ?_, ?_⟩
    · simp! [ha5]
      refine ⟨by omega, ?_⟩
      refine ite2 (fun _ => ?_) (fun _ => ?_)
      · refine ⟨a4, us4, rs4, L, rs4.length - 1, 0, by rw [ul4]; simp; omega, ha5, ex5, lb4, by omega, by omega, fun T2 H6 rn2 tl2 k6 => ?_⟩
        rw [hJ2]
        exact ⟨T2, rfl, rn2, by omega, k05.trans (k6.mono (by simp)), k6.tup _ _ ha5, ex5.kp k6⟩
      · rw [hJ2]
        exact ⟨T1, rfl, rn, by omega, k05, ha5, ex5⟩
    intro σ H6 hj
    rw [hJ2] at hj
    obtain ⟨T2, rfl, rn2, tl2, k6, ha6, ex6⟩ := hj
    simp!
    refine ⟨T2, rs4, rfl, rn2, tl2, n14, ex6.okR, fun q1 us7 F1 H7 tp1 hq1 fz1 rt1 k7 => ?_⟩
    have k06 : Kp [] H H6 := Kp.fresh kb k6 fr
    obtain ⟨sh1, ln1⟩ := tp1.shp ex6.ok n14
    refine ⟨q1, us7, F1, rfl, fz1, rt1, by omega, fun r hr => by have := (sh1 r hr).len; omega, fun H8 k8 => ?_⟩
    refine ⟨true, rfl, ?_⟩
    rw [if_pos rfl]
    have k68 : Kp [] H6 H8 := k7.trans k8
    refine ⟨a4, us4, rs4, rfl, k68.tup _ _ ha6, ex6.kp k68, n14, by omega, fun q2 us9 F2 H9 tp2 sh2 hq2 rt2 k9 => ?_⟩
    have e12 : F1 = F2 := TidP.one ex6.okR (by rw [List.length_map]; exact n14) tp1 tp2
    subst e12
    have k79 : Kp [] H7 H9 := k8.trans k9
    refine ⟨q1, q2, us7, us9, F1.map rowD, F1.map rowD, rfl, rfl, (fz1.kp k79 (by simp)).sq, SqT.of hq2, reps_rows (rt1.kp k79), reps_rows rt2, shaped_rows sh2, shaped_rows sh2, ?_⟩
    rw [eqv_rows, decide_eq_true rfl]
    exact q _ ((k06.trans k7).trans k79)
end
def DR (a : Str) (m : Nat) : List RE := .letter a :: (List.range m).map fun k => .no k
theorem DR_len (a : Str) (m : Nat) : (DR a m).length = m + 1 := by simp [DR]
theorem DR_at (a : Str) (m k : Nat) (h : k < m) : (DR a m)[k + 1]? = some (.no k) := by
  unfold DR
  rw [List.getElem?_cons_succ, List.getElem?_map, List.getElem?_range h]; rfl
theorem lf_let {c : Nat} (h : 97 ≤ c ∧ c ≤ 122) : lf c = some (.letter (sgn c)) := by
  unfold lf
  rw [if_neg (by omega), if_neg (by omega), if_pos h]
theorem DR_ren {c : Nat} (hc : 97 ≤ c ∧ c ≤ 122) (m : Nat) : ∀ k, k ≤ m → ∀ b, b ≤ 3 → Ren (DR (sgn c) m) k b (List.replicate k 45 ++ [c])
  | 0, _, b, _ => .leaf rfl (lf_let hc)
  | k + 1, h, b, hb => by
    rw [List.replicate_succ]
    exact .no (DR_at _ _ k (by omega)) hb (DR_ren hc m k (by omega) 3 (by omega))
theorem DR_okz {c : Nat} (hc : 97 ≤ c ∧ c ≤ 122) (m : Nat) : ∀ (k : Nat) (r : RE), (DR (sgn c) m)[k]? = some r → r.okz k := fun k r e => by
  cases k with
  | zero => cases e; exact ⟨rfl, fun d hd => by simp [sgn] at hd; subst hd; exact hc⟩
  | succ k =>
    have kl := (List.getElem?_eq_some_iff.mp e).1
    rw [DR_len] at kl
    rw [DR_at _ _ k (by omega)] at e
    cases e
    exact Nat.lt_succ_self k
theorem DR_okR {c : Nat} (hc : 97 ≤ c ∧ c ≤ 122) (m : Nat) : OkR ((DR (sgn c) m).map keyR) := fun k r e => by
  rw [List.getElem?_map] at e
  obtain ⟨s, es, rfl⟩ := Option.map_eq_some_iff.mp e
  exact keyR_ok (DR_okz hc m k s es)
theorem DR_wk {c : Nat} (hc : 97 ≤ c ∧ c ≤ 122) (m : Nat) : ∀ k, k ≤ m → wk (own ((DR (sgn c) m).map keyR)) k [] = List.range (k + 1) := by
  have d := own_dn (DR_okR hc m)
  have ln : ((DR (sgn c) m).map keyR).length = m + 1 := by rw [List.length_map, DR_len]
  intro k
  induction k with
  | zero =>
    intro _
    rw [wk_eq d (by omega)]
    have : own ((DR (sgn c) m).map keyR) 0 = [] := by rw [own_of (r := .letter (sgn c)) rfl]; rfl
    rw [this]; rfl
  | succ k ih =>
    intro h
    rw [wk_eq d (by omega)]
    have : own ((DR (sgn c) m).map keyR) (k + 1) = [k] := by rw [own_of (DR_at _ _ k (by omega))]; rfl
    rw [this, List.foldl_cons, List.foldl_nil]
    show stp _ [] k ++ [k + 1] = _
    rw [show stp (own ((DR (sgn c) m).map keyR)) [] k = wk (own ((DR (sgn c) m).map keyR)) k [] from if_neg (by simp), ih (by omega), List.range_succ (n := k + 1)]
theorem DR_tid {c : Nat} (hc : 97 ≤ c ∧ c ≤ 122) (m : Nat) {F : List Row} (t : TidP ((DR (sgn c) m).map keyR) F) : F = (DR (sgn c) m).map keyR := by
  obtain ⟨h, H, rfl⟩ := t
  have ln : ((DR (sgn c) m).map keyR).length = m + 1 := by rw [List.length_map, DR_len]
  refine tid_id (DR_okR hc m) (by omega) H (fun i j r hi hj => ?_) ?_
  · have il := (List.getElem?_eq_some_iff.mp hi).1
    have jl := (List.getElem?_eq_some_iff.mp hj).1
    rw [List.getElem?_map] at hi hj
    cases i with
    | zero =>
      cases j with
      | zero => rfl
      | succ j =>
        rw [DR_at _ _ j (by omega)] at hj
        have h1 : keyR (.letter (sgn c)) = r := Option.some.inj hi
        have h2 : keyR (.no j) = r := Option.some.inj hj
        rw [← h2] at h1
        exact absurd (List.cons.inj h1).1 (by decide +kernel)
    | succ i =>
      rw [DR_at _ _ i (by omega)] at hi
      have h1 : keyR (.no i) = r := Option.some.inj hi
      cases j with
      | zero =>
        have h2 : keyR (.letter (sgn c)) = r := Option.some.inj hj
        rw [← h2] at h1
        exact absurd (List.cons.inj h1).1 (by decide +kernel)
      | succ j =>
        rw [DR_at _ _ j (by omega)] at hj
        have h2 : keyR (.no j) = r := Option.some.inj hj
        rw [← h2] at h1
        have := Sum.inl.inj (List.cons.inj (List.cons.inj h1).2).1
        omega
  · rw [ln, show m + 1 - 1 = m by omega]
    exact DR_wk hc m m (Nat.le_refl _)
def noT (i : Nat) (x : V) (H : Hp) : Prop := ∃ t, x = .ref t ∧ H t = some (.tup [.str "not", .int (0 + (i : Int))])
theorem noT_firm (i : Nat) : Firm (noT i) := fun S x H1 H2 k ⟨t, e, h⟩ => ⟨t, e, k.tup _ _ h⟩
theorem noT_rows {H : Hp} : ∀ {l : List Nat} {xs : List V}, Paired (fun i x => noT i x H) l xs → RowsT H xs ((l.map fun k => RE.no k).map keyR) := fun h => by
  induction h with
  | nil => exact .nil
  | @cons i x l xs h _ ih =>
    obtain ⟨t, e, g⟩ := h
    refine .cons ⟨t, e, ?_⟩ ih
    rw [g, Int.zero_add]; rfl
def spDp (K : PySem.W.Frag) : Sp := fun vs H Q _ => ∃ (a : Addr) (ns : List Int), vs = [.ref a] ∧ SqL K H a (ns.map V.int) ∧ ∀ H', Kp [] H H' → Q (.bl true) H'
structure TDp (mg : Str → Option Value) (fb ft fr : Addr) : Prop where
  n_range : mg "range" = none
  n_tuple : mg "tuple" = none
  m__law_box : mg "_law_box" = some (.ref fb)
  m__law_take : mg "_law_take" = some (.ref ft)
  m_read_expression : mg "read_expression" = some (.ref fr)
structure TLaw (mg : Str → Option Value) (fp fr : Addr) : Prop where
  n_len : mg "len" = none
  n_range : mg "range" = none
  m__law_deep_right : mg "_law_deep_right" = some (.ref fp)
  m__law_right : mg "_law_right" = some (.ref fr)
section
variable {P : Program} {w : World} {K : PySem.W.Frag} {mg : Str → Option Value} {base : Heap}
abbrev s__law_deep_right : Stmt := top 30
theorem sc__law_deep_right : FnScope ["_law_script", "_law_box_here", "_law_letter", "_law_many", "_law_due"] ["_law_script"] (defScope s__law_deep_right) := ⟨rfl, rfl, rfl, by decide +kernel, rfl, by decide +kernel, by decide +kernel⟩
theorem ok__law_deep_right {f fb ft fr : Addr} {fd fdb fdt fdr : FuncData} (F : Fun K "_law_deep_right" "_law_deep_right" s__law_deep_right f fd) (T : TDp mg fb ft fr)
    (F__law_box : Fun K "_law_box" "_law_box" s__law_box fb fdb) (b__law_box : Binds K fdb ["_law_script", "_law_k"] []) (G__law_box : FnOk P w K mg base CX0 1 fb fdb ["_law_script", "_law_k"] (spBox K))
    (F__law_take : Fun K "_law_take" "_law_take" s__law_take ft fdt) (b__law_take : Binds K fdt ["_law_box_here", "_law_wide"] []) (G__law_take : FnOk P w K mg base CX0 1 ft fdt ["_law_box_here", "_law_wide"] spTake)
    (F_read_expression : Fun K "read_expression" "read_expression" s_read_expression fr fdr) (b_read_expression : Binds K fdr ["text"] []) (G_read_expression : FnOk P w K mg base CX0 5 fr fdr ["text"] spRx) : FnOk P w K mg base CX0 6 f fd ["_law_script"] (spDp K) := by
  refine F.ok sc__law_deep_right (fun vs H Q E h => ?_) (fun cdv A outer s H vs Q E hr h => ?_)
  · obtain ⟨a, ns, rfl, _⟩ := h
    rfl
  · obtain ⟨a, ns, rfl, ha, q⟩ := h
    have hu := hr.units
    have hsz : sizeLine = 16777216 := PySem.sizeLine_eq
    refine exQ (qpss_cons (qps_set (i := 1) sc__law_deep_right.nd rfl (by first | exact Or.inl rfl | exact Or.inr rfl) (qpe_call G__law_box (hr.mono (by decide)) rfl T.m__law_box F__law_box.kp b__law_box .nil pass0 (qpa_cons (qpv 0) (qpa_cons qpe_int qpa_nil))))
    (qpss_cons (qps_set (i := 2) sc__law_deep_right.nd rfl (by first | exact Or.inl rfl | exact Or.inr rfl) (qpe_ix ix_U qpe_str (qpe_call G__law_take (hr.mono (by decide)) rfl T.m__law_take F__law_take.kp b__law_take .nil pass0 (qpa_cons (qpv 1) (qpa_cons qpe_int qpa_nil))) (fun _ _ => rfl)))
    (qpss_cons (qps_for PassesOwn.never rfl (qpi_any (K := K) (qpe_lst (qpa_cons qpe_int (qpa_cons (qpe_op op_addW qpe_int (qpe_call G__law_take (hr.mono (by decide)) rfl T.m__law_take F__law_take.kp b__law_take .nil pass0 (qpa_cons (qpv 1) (qpa_cons qpe_int qpa_nil)))) qpa_nil))) rfl) (qpg_name (i := 3) sc__law_deep_right.nd rfl (by first | exact Or.inl rfl | exact Or.inr rfl)) (qpss_cons (qps_set (i := 4) sc__law_deep_right.nd rfl (by first | exact Or.inl rfl | exact Or.inr rfl) (qpe_op op_addW (qpe_tup (qpa_cons (qpe_tup (qpa_cons qpe_str (qpa_cons (qpv 2) qpa_nil))) qpa_nil)) (qpe_callTy call_tupleU (by rfl) T.n_tuple bt_tuple (qpa_cons (qpe_comp rfl (compOk_of (sc := defScope s__law_deep_right) (N := ["_law_script", "_law_box_here", "_law_letter", "_law_many", "_law_due"]) (Nc := ["_law_k"]) (js := [none]) (by decide +kernel)) (qpi_range1 rfl T.n_range (qpa_cons (qpv 3) qpa_nil)) (fun _ _ _ _ => (qpg_name (i := 0) (show List.Nodup [("_law_k" : Str)] from by decide +kernel) rfl (by first | exact Or.inl rfl | exact Or.inr rfl))) (fun _ _ _ _ => (qpe_tup (qpa_cons qpe_str (qpa_cons (qpv 0) qpa_nil))))) qpa_nil))))
    (qpss_mid (qps_if (qpt_cmpR (op_neT (K := K) rfl hu) (qpe_call G_read_expression (hr.mono (by decide)) rfl T.m_read_expression F_read_expression.kp b_read_expression .nil pass0 (qpa_cons (qpe_op op_addW (qpe_op op_mulC qpe_str (qpv 3)) (qpv 2)) qpa_nil)) (qpv 4) (nomark _)) (qpss_one (qps_ret qpe_bl)) qpss_nil)
    (qpss_one (qps_if (qpt_cmpR (op_neT (K := K) rfl hu) (qpe_call G_read_expression (hr.mono (by decide)) rfl T.m_read_expression F_read_expression.kp b_read_expression .nil pass0 (qpa_cons (qpe_op op_addW (qpe_op op_addW (qpe_op op_mulC qpe_str (qpv 3)) (qpv 2)) (qpe_op op_mulC qpe_str (qpv 3))) qpa_nil)) (qpe_slice (sl_UK (K := K) rfl) (qpv 4) qpo_none (qpo_some qpe_int)) (nomark _)) (qpss_one (qps_ret qpe_bl)) qpss_nil)))))
    (qpss_one (qps_ret qpe_bl))))) ?_
    simp!
    refine ⟨a, 0, ns, rfl, ha, by omega, by omega, fun bx o hbx ho => ?_⟩
    have kb : Kp [] H (upd H bx o) := (Kp.refl [] H).new hbx
    have eb : upd H bx o bx = some o := upd_same
    generalize upd H bx o = H0 at kb eb ⊢
    refine ⟨bx, 26, o, rfl, eb, ho, by omega, by omega, fun d o1 d0 d1 ho1 => ?_⟩
    obtain ⟨xs0, eo⟩ := id ho.lst
    have k1 : Kp [bx] H0 (upd H0 bx o1) := (Kp.refl _ H0).set (by rw [eb, eo]) (.inl (.head _))
    have eb1 : upd H0 bx o1 bx = some o1 := upd_same
    generalize upd H0 bx o1 = H1 at k1 eb1 ⊢
    obtain ⟨ch, hch, ach⟩ := letter_at (z := Str.ofString "abcdefghijklmnopqrstuvwxyz") d0 (by rw [show ((Str.ofString "abcdefghijklmnopqrstuvwxyz").length : Int) = 26 by decide +kernel]; exact d1)
    have hc : 97 ≤ ch ∧ ch ≤ 122 := lw_of "abcdefghijklmnopqrstuvwxyz" (by decide +kernel) ch hch
    simp! [ach]
    refine ⟨by decide +kernel, bx, 60, o1, rfl, eb1, ho1, by omega, by omega, fun e o2 e0 e1 ho2 => ?_⟩
    obtain ⟨xs1, eo1⟩ := id ho1.lst
    have k2 : Kp [bx] H1 (upd H1 bx o2) := (Kp.refl _ H1).set (by rw [eb1, eo1]) (.inl (.head _))
    generalize upd H1 bx o2 = H2 at k2 ⊢
    have k02 : Kp [] H H2 := Kp.fresh kb (k1.trans k2) fun s hs => by rw [List.mem_singleton.mp hs]; exact hbx
    simp!
    refine ⟨by omega, fun p hp => ?_⟩
    have k3 := k02.new (o := .lst [V.int 60, V.int (1 + e)]) hp
    have ep : upd H2 p (.lst [V.int 60, V.int (1 + e)]) p = some (.lst [V.int 60, V.int (1 + e)]) := upd_same
    generalize upd H2 p (.lst [V.int 60, V.int (1 + e)]) = H3 at k3 ep ⊢
    refine loop_list (xs := [V.int 60, V.int (1 + e)]) (fun i σ H' => ∃ v3 v4 : Option V, σ = [some (.ref a), some (.ref bx), some (.str (sgn ch)), v3, v4] ∧ Kp [] H3 H') ⟨none, none, rfl, Kp.refl _ _⟩ ?_ ?_ ?_
    · rintro i σ H' _ ⟨_, _, rfl, kk⟩
      exact kk.old _ _ ep List.not_mem_nil
    · rintro i x σ H4 hx ⟨v3, v4, rfl, k4⟩
      obtain ⟨m, rfl, m1, m6⟩ : ∃ m : Nat, x = .int (m : Int) ∧ 1 ≤ m ∧ m ≤ 60 := by
        have := List.mem_of_getElem? hx
        simp only [List.mem_cons, List.not_mem_nil, or_false] at this
        rcases this with rfl | rfl
        · exact ⟨60, rfl, by omega, by omega⟩
        · exact ⟨(1 + e).toNat, by rw [Int.toNat_of_nonneg (by omega)], by omega, by omega⟩
      clear hx
      simp!
      refine ⟨by omega, fun p1 hp1 => ⟨by omega, fun p2 hp2 => ⟨by omega, by omega, fun D hD => ?_⟩⟩⟩
      have k5 := (k4.new (o := .tup [V.str (Str.ofString "letter"), V.str (sgn ch)]) hp1).new (o := .tup [V.ref p1]) hp2
      have e1 : upd (upd H4 p1 (.tup [V.str (Str.ofString "letter"), V.str (sgn ch)])) p2 (.tup [V.ref p1]) p1 = some (.tup [V.str (Str.ofString "letter"), V.str (sgn ch)]) := by rw [upd_ne (ne_of_none upd_same hp2), upd_same]
      have e2 : upd (upd H4 p1 (.tup [V.str (Str.ofString "letter"), V.str (sgn ch)])) p2 (.tup [V.ref p1]) p2 = some (.tup [V.ref p1]) := upd_same
      generalize upd (upd H4 p1 (.tup [V.str (Str.ofString "letter"), V.str (sgn ch)])) p2 (.tup [V.ref p1]) = H5 at k5 e1 e2 hD ⊢
      rw [Int.toNat_natCast]
      refine comp_rangeK noT noT_firm hD (by omega) (fun i H' Q' hi k' q => ?_) fun v1 xs H6 k6 hx6 pr6 => ?_
      · simp!
        exact ⟨by omega, fun t ht => q _ _ ((Kp.refl [] H').new ht) ⟨t, rfl, upd_same⟩⟩
      have xl : xs.length = m := by have := Paired.length pr6; simpa using this.symm
      dsimp only
      refine rTupleU_lst hx6 fun t ht => ?_
      have k7 : Kp [] H6 (upd H6 t (.tup xs)) := (Kp.refl [] H6).new ht
      have e7 : upd H6 t (.tup xs) t = some (.tup xs) := upd_same
      generalize upd H6 t (.tup xs) = H7 at k7 e7 ⊢
      have k57 := k6.trans k7
      refine rAddW.tup (k57.tup _ _ e2) e7 (by simp) (by intro z; rw [z] at xl; simp at xl; omega) (by simp; omega) fun u hu' => ?_
      have k8 : Kp [] H7 (upd H7 u (.tup ([V.ref p1] ++ xs))) := (Kp.refl [] H7).new hu'
      have e8 : upd H7 u (.tup ([V.ref p1] ++ xs)) u = some (.tup (V.ref p1 :: xs)) := upd_same
      have k58 := k57.trans k8
      have rt8 : RowsT (upd H7 u (.tup ([V.ref p1] ++ xs))) (V.ref p1 :: xs) ((DR (sgn ch) m).map keyR) := .cons ⟨p1, rfl, k58.tup _ _ e1⟩ (noT_rows (Paired.mapP pr6 fun i x h => noT_firm i [] x _ _ (k7.trans k8) h))
      generalize upd H7 u (.tup ([V.ref p1] ++ xs)) = H8 at k8 e8 k58 rt8 ⊢
      have k38 : Kp [] H3 H8 := k5.trans k58
      have shD : ∀ r ∈ (DR (sgn ch) m).map keyR, Shp r := fun r hr => by
        obtain ⟨e, he, rfl⟩ := List.mem_map.mp hr
        obtain ⟨j, hj⟩ := List.getElem?_of_mem he
        exact keyR_sh (DR_okz hc m j e hj)
      refine ⟨fun σ' H' => σ' = [some (.ref a), some (.ref bx), some (.str (sgn ch)), some (.int (m : Int)), some (.ref u)] ∧ Kp [] H8 H', ?_, ?_⟩
      · simp!
        refine ⟨45, m, rfl, rfl, by omega, ?_⟩
        have l1 : (repC 45 m).length = m := by simp [repC, Str.length]
        have l2 : (sgn ch).length = 1 := rfl
        have l3 := len_app (repC 45 m) (sgn ch)
        show rAddW (.str (repC 45 m)) (.str (sgn ch)) H8 _
        rw [rAddW_str]
        refine ⟨by omega, repC 45 m ++ sgn ch, DR (sgn ch) m, rfl, ?_, by omega, by rw [DR_len]; omega, DR_okR hc m, fun q1 us9 F9 H9 tp hq1 fz rt9 k9 => ?_⟩
        · rw [cps_app, show (repC 45 m).cps.toList = List.replicate m 45 by simp [repC], DR_len, show m + 1 - 1 = m by omega]
          exact DR_ren hc m m (Nat.le_refl _) 0 (by omega)
        · have ef := DR_tid hc m tp
          subst ef
          refine ⟨q1, u, us9, _, _, _, rfl, rfl, fz.sq, SqT.of (k9.tup _ _ e8), reps_rows rt9, reps_rows (rt8.kp k9), shaped_rows shD, shaped_rows shD, ?_⟩
          rw [eqv_rows, decide_eq_true rfl]
          refine ⟨_, rfl, ?_⟩
          rw [if_neg (by simp)]; exact k9
      rintro _ H9 ⟨rfl, k9⟩
      simp!
      have l1 : ∀ c, (repC c m).length = m := fun c => by simp [repC, Str.length]
      have l40 := l1 40
      have l41 := l1 41
      have l2 : (sgn ch).length = 1 := rfl
      have l3 := len_app (repC 40 m) (sgn ch)
      have l4 := len_app (repC 40 m ++ sgn ch) (repC 41 m)
      refine ⟨40, m, rfl, rfl, by omega, ?_⟩
      show rAddW (.str (repC 40 m)) (.str (sgn ch)) H9 _
      rw [rAddW_str]
      refine ⟨by omega, 41, m, rfl, rfl, by omega, ?_⟩
      show rAddW (.str (repC 40 m ++ sgn ch)) (.str (repC 41 m)) H9 _
      rw [rAddW_str]
      refine ⟨by omega, repC 40 m ++ sgn ch ++ repC 41 m, DR (sgn ch) 0, rfl, ?_, by omega, by rw [DR_len]; omega, DR_okR hc 0, fun q1 us10 F10 H10 tp hq1 fz rt10 k10 => ?_⟩
      · rw [cps_app, cps_app, show (repC 40 m).cps.toList = List.replicate m 40 by simp [repC], show (repC 41 m).cps.toList = List.replicate m 41 by simp [repC], List.append_assoc]
        exact Ren.pars (DR_ren hc 0 0 (Nat.le_refl _) 0 (by omega)) m 0 m1
      have ef := DR_tid hc 0 tp
      subst ef
      have e10 := k10.tup _ _ (k9.tup _ _ e8)
      refine rSlU.tup e10 (fun z => ?_) fun u2 hu2 => ?_
      · have z2 := z.2
        rw [show (1 : Int) = ((1 : Nat) : Int) from rfl, HT.sIx_nat] at z2
        simp only [List.length_cons] at z2
        omega
      have ec : cutV (V.ref p1 :: xs) none (some 1) = [V.ref p1] := by
        unfold cutV
        rw [HT.sIx_none, show (1 : Int) = ((1 : Nat) : Int) from rfl, HT.sIx_nat]
        simp
      rw [ec]
      have k11 : Kp [] H10 (upd H10 u2 (.tup [V.ref p1])) := (Kp.refl [] H10).new hu2
      have kall : Kp [] H8 (upd H10 u2 (.tup [V.ref p1])) := (k9.trans k10).trans k11
      have rt11 : RowsT (upd H10 u2 (.tup [V.ref p1])) [V.ref p1] ((DR (sgn ch) 0).map keyR) := .cons ⟨p1, rfl, kall.tup _ _ (k58.tup _ _ e1)⟩ .nil
      have sh0 : ∀ r ∈ (DR (sgn ch) 0).map keyR, Shp r := fun r hr => by
        obtain ⟨e, he, rfl⟩ := List.mem_map.mp hr
        obtain ⟨j, hj⟩ := List.getElem?_of_mem he
        exact keyR_sh (DR_okz hc 0 j e hj)
      refine ⟨q1, u2, us10, _, _, _, rfl, rfl, (fz.kp k11 (by simp)).sq, SqT.of upd_same, reps_rows (rt10.kp k11), reps_rows rt11, shaped_rows sh0, shaped_rows sh0, ?_⟩
      rw [eqv_rows, decide_eq_true rfl]
      refine ⟨_, rfl, ?_⟩
      rw [if_neg (by simp)]
      exact ⟨_, _, ⟨rfl, rfl⟩, k38.trans kall⟩
    · rintro σ H4 ⟨v3, v4, rfl, k4⟩
      simp!
      exact q _ (k3.trans k4)
abbrev s_law : Stmt := top 31
theorem sc_law : FnScope ["_law_script", "_law_k"] ["_law_script"] (defScope s_law) := ⟨rfl, rfl, rfl, by decide +kernel, rfl, by decide +kernel, by decide +kernel⟩
theorem ok_law {f fp fr : Addr} {fd fdp fdr : FuncData} (F : Fun K "law" "law" s_law f fd) (T : TLaw mg fp fr)
    (F__law_deep_right : Fun K "_law_deep_right" "_law_deep_right" s__law_deep_right fp fdp) (b__law_deep_right : Binds K fdp ["_law_script"] []) (G__law_deep_right : FnOk P w K mg base CX0 6 fp fdp ["_law_script"] (spDp K))
    (F__law_right : Fun K "_law_right" "_law_right" s__law_right fr fdr) (b__law_right : Binds K fdr ["_law_script", "_law_k"] []) (G__law_right : FnOk P w K mg base CX0 63 fr fdr ["_law_script", "_law_k"] (spRt K)) : FnOk P w K mg base CX0 64 f fd ["_law_script"] (spLaw K) := by
  refine F.ok sc_law (fun vs H Q E h => ?_) (fun cdv A outer s H vs Q E hr h => ?_)
  · obtain ⟨a, ns, rfl, _⟩ := h
    rfl
  · obtain ⟨a, ns, rfl, hS, hn, kQ⟩ := h
    have hu := hr.units
    have hsz : sizeLine = 16777216 := PySem.sizeLine_eq
    refine exQ (qpss_mid (qps_if (qpt_not (qpt_val (qpe_call G__law_deep_right (hr.mono (by decide)) rfl T.m__law_deep_right F__law_deep_right.kp b__law_deep_right .nil pass0 (qpa_cons (qpv 0) qpa_nil)))) (qpss_one (qps_ret qpe_bl)) qpss_nil)
    (qpss_cons (qps_for PassesOwn.never rfl (qpi_range1 rfl T.n_range (qpa_cons (qpe_op op_addW qpe_int (qpe_callB call_lenU (by rfl) T.n_len bt_len (qpa_cons (qpe_slice (sl_UK (K := K) rfl) (qpv 0) (qpo_some qpe_int) (qpo_some qpe_int)) qpa_nil))) qpa_nil)) (qpg_name (i := 1) sc_law.nd rfl (by first | exact Or.inl rfl | exact Or.inr rfl)) (qpss_one (qps_if (qpt_not (qpt_val (qpe_call G__law_right (hr.mono (by decide)) rfl T.m__law_right F__law_right.kp b__law_right .nil pass0 (qpa_cons (qpv 0) (qpa_cons (qpv 1) qpa_nil))))) (qpss_one (qps_ret qpe_bl)) qpss_nil)))
    (qpss_one (qps_ret (qpe_call G__law_right (hr.mono (by decide)) rfl T.m__law_right F__law_right.kp b__law_right .nil pass0 (qpa_cons (qpv 0) (qpa_cons qpe_int qpa_nil))))))) ?_
    refine ⟨fun σ' H' => σ' = [some (.ref a), none] ∧ Kp [] H H', ?_, ?_⟩
    · simp!
      refine ⟨a, ns, rfl, hS, fun H1 k1 => ⟨_, rfl, ?_⟩⟩
      rw [if_neg (by simp)]; exact k1
    rintro _ H00 ⟨rfl, k00⟩
    simp!
    refine rSlU.sq (k00.seq (by simp) hS) fun p hp => ?_
    have cl := cutV_length (ns.map V.int) (some 1) (some 6)
    rw [List.length_map] at cl
    generalize cutV (ns.map V.int) (some 1) (some 6) = cu at cl
    have k0 : Kp [] H (upd H00 p (.lst cu)) := k00.new hp
    have ep : upd H00 p (.lst cu) p = some (.lst cu) := upd_same
    generalize upd H00 p (.lst cu) = H0 at k0 ep ⊢
    simp! [ep]
    refine ⟨by omega, by omega, ?_⟩
    rw [show (1 + (cu.length : Int)).toNat = cu.length + 1 by omega]
    refine loop_range (fun i σ H' => ∃ v1 : Option V, σ = [some (.ref a), v1] ∧ Kp [] H H') ⟨none, rfl, k0⟩ ?_ ?_
    · rintro i σ H1 hi ⟨v1, rfl, kp⟩
      simp!
      refine ⟨a, _, ns, rfl, kp.seq (by simp) hS, by omega, by omega, fun H2 k2 => ?_⟩
      exact ⟨true, rfl, by rw [if_neg (by decide)]; exact kp.trans k2⟩
    · rintro σ H1 ⟨v1, rfl, kp⟩
      simp!
      exact ⟨a, 0, ns, rfl, kp.seq (by simp) hS, by omega, by omega, fun H2 _ => kQ H2⟩
end
theorem kdict_of {P : Program} {w : World} {K : PySem.W.Frag} {a : Addr} {kvs : List (Key × V)} {es : Array DictEntry} {ep : Nat} (lk : K.lookup a = some { cls := .type "dict", data := .dict es ep })
    (h : Paired (fun (e : DictEntry) (kv : Key × V) => ∃ x t, e.key = .str x t ∧ e.hash = PyData.keyHash w.params x ∧ kv.1 = .inr x ∧ RelV kv.2 e.val) es.toList kvs) (nd : (kvs.map Prod.fst).Nodup) : KDict P w K a kvs := by
  have key : ∀ {l : List DictEntry} {kvs : List (Key × V)}, Paired (fun (e : DictEntry) (kv : Key × V) => ∃ x t, e.key = .str x t ∧ e.hash = PyData.keyHash w.params x ∧ kv.1 = .inr x ∧ RelV kv.2 e.val) l kvs → ∃ m : List (Str × Tok × Value), l = m.map (entS w) ∧ KV kvs (m.map fun p => ((Sum.inr p.1 : Key), p.2.2)) := by
    intro l kvs h
    induction h with
    | nil => exact ⟨[], rfl, .nil⟩
    | cons h _ ih =>
      obtain ⟨x, t, e1, e2, e3, e4⟩ := h
      obtain ⟨m, f1, f2⟩ := ih
      rename_i e kv _ _ _
      refine ⟨(x, t, e.val) :: m, ?_, .cons ⟨e3, e4⟩ f2⟩
      rw [List.map_cons, ← f1]
      obtain ⟨hh, kk, vv⟩ := e
      cases e1
      cases e2
      rfl
  obtain ⟨m, e1, e2⟩ := key h
  exact KDict.of lk e1 e2 nd
theorem us1 {C : List Value → Prop} (h : ∀ v0 : Value, C [v0]) (us : List Value) (e : us.length = 1) : C us := by
  cases us with
  | nil => exact absurd e.symm (Nat.succ_ne_zero _)
  | cons v0 us =>
    cases us with
    | nil => exact h v0
    | cons _ _ => exact absurd (Nat.succ.inj (e)) (Nat.succ_ne_zero _)
theorem us2 {C : List Value → Prop} (h : ∀ v0 v1 : Value, C [v0, v1]) (us : List Value) (e : us.length = 2) : C us := by
  cases us with
  | nil => exact absurd e.symm (Nat.succ_ne_zero _)
  | cons v0 us =>
    cases us with
    | nil => exact absurd (Nat.succ.inj (e.symm)) (Nat.succ_ne_zero _)
    | cons v1 us =>
      cases us with
      | nil => exact h v0 v1
      | cons _ _ => exact absurd (Nat.succ.inj (Nat.succ.inj (e))) (Nat.succ_ne_zero _)
theorem us3 {C : List Value → Prop} (h : ∀ v0 v1 v2 : Value, C [v0, v1, v2]) (us : List Value) (e : us.length = 3) : C us := by
  cases us with
  | nil => exact absurd e.symm (Nat.succ_ne_zero _)
  | cons v0 us =>
    cases us with
    | nil => exact absurd (Nat.succ.inj (e.symm)) (Nat.succ_ne_zero _)
    | cons v1 us =>
      cases us with
      | nil => exact absurd (Nat.succ.inj (Nat.succ.inj (e.symm))) (Nat.succ_ne_zero _)
      | cons v2 us =>
        cases us with
        | nil => exact h v0 v1 v2
        | cons _ _ => exact absurd (Nat.succ.inj (Nat.succ.inj (Nat.succ.inj (e)))) (Nat.succ_ne_zero _)
theorem us5 {C : List Value → Prop} (h : ∀ v0 v1 v2 v3 v4 : Value, C [v0, v1, v2, v3, v4]) (us : List Value) (e : us.length = 5) : C us := by
  cases us with
  | nil => exact absurd e.symm (Nat.succ_ne_zero _)
  | cons v0 us =>
    cases us with
    | nil => exact absurd (Nat.succ.inj (e.symm)) (Nat.succ_ne_zero _)
    | cons v1 us =>
      cases us with
      | nil => exact absurd (Nat.succ.inj (Nat.succ.inj (e.symm))) (Nat.succ_ne_zero _)
      | cons v2 us =>
        cases us with
        | nil => exact absurd (Nat.succ.inj (Nat.succ.inj (Nat.succ.inj (e.symm)))) (Nat.succ_ne_zero _)
        | cons v3 us =>
          cases us with
          | nil => exact absurd (Nat.succ.inj (Nat.succ.inj (Nat.succ.inj (Nat.succ.inj (e.symm))))) (Nat.succ_ne_zero _)
          | cons v4 us =>
            cases us with
            | nil => exact h v0 v1 v2 v3 v4
            | cons _ _ => exact absurd (Nat.succ.inj (Nat.succ.inj (Nat.succ.inj (Nat.succ.inj (Nat.succ.inj (e)))))) (Nat.succ_ne_zero _)
theorem all_mk {l : PySem.W.OpenLaw} {w : World} {K : PySem.W.Frag} {h : Heap} {mg : Str → Option Value} {fa f1 f2 f3 f4 f5 f6 f7 f8 f9 f10 f11 f12 f13 f14 f15 f16 f17 f18 f19 f20 f21 f22 : Addr} (X : K.In h) (G : h.Ns mainGlobals mg) (hfa : mg "law" = some (.ref fa))
    {od1 od2 od3 od4 od5 od6 od7 od8 od9 od10 od11 od12 od13 od14 od15 od16 od17 od18 od19 od20 od21 od22 an1 an2 an3 an4 an5 an6 an7 an8 an9 an10 an11 an12 an13 an14 an15 an16 an17 an18 an19 an20 an21 an22 : Option Addr} {sl1 sl2 sl3 sl4 sl5 sl6 sl7 sl8 sl9 sl10 sl11 sl12 sl13 sl14 sl15 sl16 sl17 sl18 sl19 sl20 sl21 sl22 : Array (Option Value)} {oc1 kV1 dc1 pm1 cd1 ct1 oc2 kV2 dc2 pm2 cd2 ct2 oc3 kV3 dc3 pm3 cd3 ct3 oc4 kV4 dc4 pm4 cd4 ct4 oc5 kV5 dc5 pm5 cd5 ct5 oc6 kV6 dc6 pm6 cd6 ct6 oc7 kV7 dc7 pm7 cd7 ct7 oc8 kV8 dc8 pm8 cd8 ct8 oc9 kV9 dc9 pm9 cd9 ct9 oc10 kV10 dc10 pm10 cd10 ct10 oc11 kV11 dc11 pm11 cd11 ct11 oc12 kV12 dc12 pm12 cd12 ct12 oc13 kV13 dc13 pm13 cd13 ct13 oc14 kV14 dc14 pm14 cd14 ct14 oc15 kV15 dc15 pm15 cd15 ct15 oc16 kV16 dc16 pm16 cd16 ct16 oc17 kV17 dc17 pm17 cd17 ct17 oc18 kV18 dc18 pm18 cd18 ct18 oc19 kV19 dc19 pm19 cd19 ct19 oc20 kV20 dc20 pm20 cd20 ct20 oc21 kV21 dc21 pm21 cd21 ct21 oc22 kV22 dc22 pm22 cd22 ct22 : Value}
    {C ab aw : Addr} {esb esw : Array DictEntry} {epb epw : Nat} {M0 : Addr} {vd0 va0 : Option Addr} {vs0 : Array (Option Value)} {vo0 vk0 vq0 vp0 vc0 vt0 : Value} {M1 : Addr} {vd1 va1 : Option Addr} {vs1 : Array (Option Value)} {vo1 vk1 vq1 vp1 vc1 vt1 : Value} {M2 : Addr} {vd2 va2 : Option Addr} {vs2 : Array (Option Value)} {vo2 vk2 vq2 vp2 vc2 vt2 : Value} {M3 : Addr} {vd3 va3 : Option Addr} {vs3 : Array (Option Value)} {vo3 vk3 vq3 vp3 vc3 vt3 : Value} {M4 : Addr} {vd4 va4 : Option Addr} {vs4 : Array (Option Value)} {vo4 vk4 vq4 vp4 vc4 vt4 : Value} {M5 : Addr} {vd5 va5 : Option Addr} {vs5 : Array (Option Value)} {vo5 vk5 vq5 vp5 vc5 vt5 : Value} {M6 : Addr} {vd6 va6 : Option Addr} {vs6 : Array (Option Value)} {vo6 vk6 vq6 vp6 vc6 vt6 : Value}
    (a1 : PySem.W.nsIn K mainGlobals "parts_of" = some (some (.ref f1))) (l1 : K.lookup f1 = some ⟨oc1, od1, .func (PySem.W.fnOf "parts_of" "parts_of" (defArgs s_parts_of) (defBody s_parts_of) (defScope s_parts_of) .none kV1 dc1 pm1 an1 cd1 ct1), sl1⟩) (c1 : PySem.W.codeIn K cd1 "parts_of" = true) (k1 : PySem.W.keepIn K (.ref f1) = true)
    (a2 : PySem.W.nsIn K mainGlobals "with_parts" = some (some (.ref f2))) (l2 : K.lookup f2 = some ⟨oc2, od2, .func (PySem.W.fnOf "with_parts" "with_parts" (defArgs s_with_parts) (defBody s_with_parts) (defScope s_with_parts) .none kV2 dc2 pm2 an2 cd2 ct2), sl2⟩) (c2 : PySem.W.codeIn K cd2 "with_parts" = true) (k2 : PySem.W.keepIn K (.ref f2) = true)
    (a3 : PySem.W.nsIn K mainGlobals "in_order" = some (some (.ref f3))) (l3 : K.lookup f3 = some ⟨oc3, od3, .func (PySem.W.fnOf "in_order" "in_order" (defArgs s_in_order) (defBody s_in_order) (defScope s_in_order) .none kV3 dc3 pm3 an3 cd3 ct3), sl3⟩) (c3 : PySem.W.codeIn K cd3 "in_order" = true) (k3 : PySem.W.keepIn K (.ref f3) = true)
    (a4 : PySem.W.nsIn K mainGlobals "heads_of" = some (some (.ref f4))) (l4 : K.lookup f4 = some ⟨oc4, od4, .func (PySem.W.fnOf "heads_of" "heads_of" (defArgs s_heads_of) (defBody s_heads_of) (defScope s_heads_of) .none kV4 dc4 pm4 an4 cd4 ct4), sl4⟩) (c4 : PySem.W.codeIn K cd4 "heads_of" = true) (k4 : PySem.W.keepIn K (.ref f4) = true)
    (a5 : PySem.W.nsIn K mainGlobals "tidied" = some (some (.ref f5))) (l5 : K.lookup f5 = some ⟨oc5, od5, .func (PySem.W.fnOf "tidied" "tidied" (defArgs s_tidied) (defBody s_tidied) (defScope s_tidied) .none kV5 dc5 pm5 an5 cd5 ct5), sl5⟩) (c5 : PySem.W.codeIn K cd5 "tidied" = true) (k5 : PySem.W.keepIn K (.ref f5) = true)
    (a6 : PySem.W.nsIn K mainGlobals "read_expression" = some (some (.ref f6))) (l6 : K.lookup f6 = some ⟨oc6, od6, .func (PySem.W.fnOf "read_expression" "read_expression" (defArgs s_read_expression) (defBody s_read_expression) (defScope s_read_expression) .none kV6 dc6 pm6 an6 cd6 ct6), sl6⟩) (c6 : PySem.W.codeIn K cd6 "read_expression" = true) (k6 : PySem.W.keepIn K (.ref f6) = true)
    (a7 : PySem.W.nsIn K mainGlobals "row_of_sign" = some (some (.ref f7))) (l7 : K.lookup f7 = some ⟨oc7, od7, .func (PySem.W.fnOf "row_of_sign" "row_of_sign" (defArgs s_row_of_sign) (defBody s_row_of_sign) (defScope s_row_of_sign) .none kV7 dc7 pm7 an7 cd7 ct7), sl7⟩) (c7 : PySem.W.codeIn K cd7 "row_of_sign" = true) (k7 : PySem.W.keepIn K (.ref f7) = true)
    (a8 : PySem.W.nsIn K mainGlobals "_law_box" = some (some (.ref f8))) (l8 : K.lookup f8 = some ⟨oc8, od8, .func (PySem.W.fnOf "_law_box" "_law_box" (defArgs s__law_box) (defBody s__law_box) (defScope s__law_box) .none kV8 dc8 pm8 an8 cd8 ct8), sl8⟩) (c8 : PySem.W.codeIn K cd8 "_law_box" = true) (k8 : PySem.W.keepIn K (.ref f8) = true)
    (a9 : PySem.W.nsIn K mainGlobals "_law_take" = some (some (.ref f9))) (l9 : K.lookup f9 = some ⟨oc9, od9, .func (PySem.W.fnOf "_law_take" "_law_take" (defArgs s__law_take) (defBody s__law_take) (defScope s__law_take) .none kV9 dc9 pm9 an9 cd9 ct9), sl9⟩) (c9 : PySem.W.codeIn K cd9 "_law_take" = true) (k9 : PySem.W.keepIn K (.ref f9) = true)
    (a10 : PySem.W.nsIn K mainGlobals "_law_letters" = some (some (.ref f10))) (l10 : K.lookup f10 = some ⟨oc10, od10, .func (PySem.W.fnOf "_law_letters" "_law_letters" (defArgs s__law_letters) (defBody s__law_letters) (defScope s__law_letters) .none kV10 dc10 pm10 an10 cd10 ct10), sl10⟩) (c10 : PySem.W.codeIn K cd10 "_law_letters" = true) (k10 : PySem.W.keepIn K (.ref f10) = true)
    (a11 : PySem.W.nsIn K mainGlobals "_law_row_at" = some (some (.ref f11))) (l11 : K.lookup f11 = some ⟨oc11, od11, .func (PySem.W.fnOf "_law_row_at" "_law_row_at" (defArgs s__law_row_at) (defBody s__law_row_at) (defScope s__law_row_at) .none kV11 dc11 pm11 an11 cd11 ct11), sl11⟩) (c11 : PySem.W.codeIn K cd11 "_law_row_at" = true) (k11 : PySem.W.keepIn K (.ref f11) = true)
    (a12 : PySem.W.nsIn K mainGlobals "_law_expression" = some (some (.ref f12))) (l12 : K.lookup f12 = some ⟨oc12, od12, .func (PySem.W.fnOf "_law_expression" "_law_expression" (defArgs s__law_expression) (defBody s__law_expression) (defScope s__law_expression) .none kV12 dc12 pm12 an12 cd12 ct12), sl12⟩) (c12 : PySem.W.codeIn K cd12 "_law_expression" = true) (k12 : PySem.W.keepIn K (.ref f12) = true)
    (a13 : PySem.W.nsIn K mainGlobals "_law_chain" = some (some (.ref f13))) (l13 : K.lookup f13 = some ⟨oc13, od13, .func (PySem.W.fnOf "_law_chain" "_law_chain" (defArgs s__law_chain) (defBody s__law_chain) (defScope s__law_chain) .none kV13 dc13 pm13 an13 cd13 ct13), sl13⟩) (c13 : PySem.W.codeIn K cd13 "_law_chain" = true) (k13 : PySem.W.keepIn K (.ref f13) = true)
    (a14 : PySem.W.nsIn K mainGlobals "_law_laid" = some (some (.ref f14))) (l14 : K.lookup f14 = some ⟨oc14, od14, .func (PySem.W.fnOf "_law_laid" "_law_laid" (defArgs s__law_laid) (defBody s__law_laid) (defScope s__law_laid) .none kV14 dc14 pm14 an14 cd14 ct14), sl14⟩) (c14 : PySem.W.codeIn K cd14 "_law_laid" = true) (k14 : PySem.W.keepIn K (.ref f14) = true)
    (a15 : PySem.W.nsIn K mainGlobals "_law_tidy" = some (some (.ref f15))) (l15 : K.lookup f15 = some ⟨oc15, od15, .func (PySem.W.fnOf "_law_tidy" "_law_tidy" (defArgs s__law_tidy) (defBody s__law_tidy) (defScope s__law_tidy) .none kV15 dc15 pm15 an15 cd15 ct15), sl15⟩) (c15 : PySem.W.codeIn K cd15 "_law_tidy" = true) (k15 : PySem.W.keepIn K (.ref f15) = true)
    (a16 : PySem.W.nsIn K mainGlobals "_law_kinds" = some (some (.ref f16))) (l16 : K.lookup f16 = some ⟨oc16, od16, .func (PySem.W.fnOf "_law_kinds" "_law_kinds" (defArgs s__law_kinds) (defBody s__law_kinds) (defScope s__law_kinds) .none kV16 dc16 pm16 an16 cd16 ct16), sl16⟩) (c16 : PySem.W.codeIn K cd16 "_law_kinds" = true) (k16 : PySem.W.keepIn K (.ref f16) = true)
    (a17 : PySem.W.nsIn K mainGlobals "_law_written" = some (some (.ref f17))) (l17 : K.lookup f17 = some ⟨oc17, od17, .func (PySem.W.fnOf "_law_written" "_law_written" (defArgs s__law_written) (defBody s__law_written) (defScope s__law_written) .none kV17 dc17 pm17 an17 cd17 ct17), sl17⟩) (c17 : PySem.W.codeIn K cd17 "_law_written" = true) (k17 : PySem.W.keepIn K (.ref f17) = true)
    (a18 : PySem.W.nsIn K mainGlobals "_law_fitting" = some (some (.ref f18))) (l18 : K.lookup f18 = some ⟨oc18, od18, .func (PySem.W.fnOf "_law_fitting" "_law_fitting" (defArgs s__law_fitting) (defBody s__law_fitting) (defScope s__law_fitting) .none kV18 dc18 pm18 an18 cd18 ct18), sl18⟩) (c18 : PySem.W.codeIn K cd18 "_law_fitting" = true) (k18 : PySem.W.keepIn K (.ref f18) = true)
    (a19 : PySem.W.nsIn K mainGlobals "_law_loose" = some (some (.ref f19))) (l19 : K.lookup f19 = some ⟨oc19, od19, .func (PySem.W.fnOf "_law_loose" "_law_loose" (defArgs s__law_loose) (defBody s__law_loose) (defScope s__law_loose) .none kV19 dc19 pm19 an19 cd19 ct19), sl19⟩) (c19 : PySem.W.codeIn K cd19 "_law_loose" = true) (k19 : PySem.W.keepIn K (.ref f19) = true)
    (a20 : PySem.W.nsIn K mainGlobals "_law_right" = some (some (.ref f20))) (l20 : K.lookup f20 = some ⟨oc20, od20, .func (PySem.W.fnOf "_law_right" "_law_right" (defArgs s__law_right) (defBody s__law_right) (defScope s__law_right) .none kV20 dc20 pm20 an20 cd20 ct20), sl20⟩) (c20 : PySem.W.codeIn K cd20 "_law_right" = true) (k20 : PySem.W.keepIn K (.ref f20) = true)
    (a21 : PySem.W.nsIn K mainGlobals "_law_deep_right" = some (some (.ref f21))) (l21 : K.lookup f21 = some ⟨oc21, od21, .func (PySem.W.fnOf "_law_deep_right" "_law_deep_right" (defArgs s__law_deep_right) (defBody s__law_deep_right) (defScope s__law_deep_right) .none kV21 dc21 pm21 an21 cd21 ct21), sl21⟩) (c21 : PySem.W.codeIn K cd21 "_law_deep_right" = true) (k21 : PySem.W.keepIn K (.ref f21) = true)
    (a22 : PySem.W.nsIn K mainGlobals "law" = some (some (.ref f22))) (l22 : K.lookup f22 = some ⟨oc22, od22, .func (PySem.W.fnOf "law" "law" (defArgs s_law) (defBody s_law) (defScope s_law) .none kV22 dc22 pm22 an22 cd22 ct22), sl22⟩) (c22 : PySem.W.codeIn K cd22 "law" = true) (k22 : PySem.W.keepIn K (.ref f22) = true)
    (z_len : PySem.W.nsIn K mainGlobals "len" = some none)
    (z_int : PySem.W.nsIn K mainGlobals "int" = some none)
    (z_range : PySem.W.nsIn K mainGlobals "range" = some none)
    (z_list : PySem.W.nsIn K mainGlobals "list" = some none)
    (z_tuple : PySem.W.nsIn K mainGlobals "tuple" = some none)
    (z_isinstance : PySem.W.nsIn K mainGlobals "isinstance" = some none)
    (z_str : PySem.W.nsIn K mainGlobals "str" = some none)
    (z_bool : PySem.W.nsIn K mainGlobals "bool" = some none)
    (z_enumerate : PySem.W.nsIn K mainGlobals "enumerate" = some none)
    (z_max : PySem.W.nsIn K mainGlobals "max" = some none)
    (aC : PySem.W.nsIn K mainGlobals "Reading" = some (some (.ref C)))
    (Cpg : PySem.W.plainGet K C Str.empty = true)
    (Chd : PySem.W.hasDictIn K C = true)
    (Cpo : PySem.W.plainOver K C = true)
    (Csa : PySem.W.findIn K (.ref C) "__setattr__" = some (some (.builtin "object.__setattr__")))
    (Cmk : PySem.W.makesIn K C = true)
    (Ckp : PySem.W.keepIn K (.ref C) = true)
    (Nrows : PySem.W.findIn K (.ref C) "rows" = some none)
    (Nready : PySem.W.findIn K (.ref C) "ready" = some none)
    (Nwaiting : PySem.W.findIn K (.ref C) "waiting" = some none)
    (Nopened : PySem.W.findIn K (.ref C) "opened" = some none)
    (Ndue : PySem.W.findIn K (.ref C) "due" = some none)
    (fm0 : PySem.W.findIn K (.ref C) "__init__" = some (some (.ref M0)))
    (lm0 : K.lookup M0 = some ⟨vo0, vd0, .func (PySem.W.fnOf "__init__" "Reading.__init__" (defArgs s_Rd_init) (defBody s_Rd_init) (defScope s_Rd_init) .none vk0 vq0 vp0 va0 vc0 vt0), vs0⟩)
    (cm0 : PySem.W.codeIn K vc0 "Reading.__init__" = true)
    (km0 : PySem.W.keepIn K (.ref M0) = true)
    (im0 : PySem.W.isFn K (.ref M0) = true)
    (fm1 : PySem.W.findIn K (.ref C) "fits" = some (some (.ref M1)))
    (lm1 : K.lookup M1 = some ⟨vo1, vd1, .func (PySem.W.fnOf "fits" "Reading.fits" (defArgs s_Rd_fits) (defBody s_Rd_fits) (defScope s_Rd_fits) .none vk1 vq1 vp1 va1 vc1 vt1), vs1⟩)
    (cm1 : PySem.W.codeIn K vc1 "Reading.fits" = true)
    (km1 : PySem.W.keepIn K (.ref M1) = true)
    (im1 : PySem.W.isFn K (.ref M1) = true)
    (fm2 : PySem.W.findIn K (.ref C) "take" = some (some (.ref M2)))
    (lm2 : K.lookup M2 = some ⟨vo2, vd2, .func (PySem.W.fnOf "take" "Reading.take" (defArgs s_Rd_take) (defBody s_Rd_take) (defScope s_Rd_take) .none vk2 vq2 vp2 va2 vc2 vt2), vs2⟩)
    (cm2 : PySem.W.codeIn K vc2 "Reading.take" = true)
    (km2 : PySem.W.keepIn K (.ref M2) = true)
    (im2 : PySem.W.isFn K (.ref M2) = true)
    (fm3 : PySem.W.findIn K (.ref C) "wait_for_second" = some (some (.ref M3)))
    (lm3 : K.lookup M3 = some ⟨vo3, vd3, .func (PySem.W.fnOf "wait_for_second" "Reading.wait_for_second" (defArgs s_Rd_wait_for_second) (defBody s_Rd_wait_for_second) (defScope s_Rd_wait_for_second) .none vk3 vq3 vp3 va3 vc3 vt3), vs3⟩)
    (cm3 : PySem.W.codeIn K vc3 "Reading.wait_for_second" = true)
    (km3 : PySem.W.keepIn K (.ref M3) = true)
    (im3 : PySem.W.isFn K (.ref M3) = true)
    (fm4 : PySem.W.findIn K (.ref C) "begin_part" = some (some (.ref M4)))
    (lm4 : K.lookup M4 = some ⟨vo4, vd4, .func (PySem.W.fnOf "begin_part" "Reading.begin_part" (defArgs s_Rd_begin_part) (defBody s_Rd_begin_part) (defScope s_Rd_begin_part) .none vk4 vq4 vp4 va4 vc4 vt4), vs4⟩)
    (cm4 : PySem.W.codeIn K vc4 "Reading.begin_part" = true)
    (km4 : PySem.W.keepIn K (.ref M4) = true)
    (im4 : PySem.W.isFn K (.ref M4) = true)
    (fm5 : PySem.W.findIn K (.ref C) "bind" = some (some (.ref M5)))
    (lm5 : K.lookup M5 = some ⟨vo5, vd5, .func (PySem.W.fnOf "bind" "Reading.bind" (defArgs s_Rd_bind) (defBody s_Rd_bind) (defScope s_Rd_bind) .none vk5 vq5 vp5 va5 vc5 vt5), vs5⟩)
    (cm5 : PySem.W.codeIn K vc5 "Reading.bind" = true)
    (km5 : PySem.W.keepIn K (.ref M5) = true)
    (im5 : PySem.W.isFn K (.ref M5) = true)
    (fm6 : PySem.W.findIn K (.ref C) "put_row" = some (some (.ref M6)))
    (lm6 : K.lookup M6 = some ⟨vo6, vd6, .func (PySem.W.fnOf "put_row" "Reading.put_row" (defArgs s_Rd_put_row) (defBody s_Rd_put_row) (defScope s_Rd_put_row) .none vk6 vq6 vp6 va6 vc6 vt6), vs6⟩)
    (cm6 : PySem.W.codeIn K vc6 "Reading.put_row" = true)
    (km6 : PySem.W.keepIn K (.ref M6) = true)
    (im6 : PySem.W.isFn K (.ref M6) = true)
    (eb : PySem.W.nsIn K mainGlobals "BINDS" = some (some (.ref ab)))
    (lb : K.lookup ab = some { cls := .type "dict", data := .dict esb epb })
    (vb : Paired (fun (e : DictEntry) (kv : Key × V) => ∃ x t, e.key = .str x t ∧ e.hash = PyData.keyHash w.params x ∧ kv.1 = .inr x ∧ RelV kv.2 e.val) esb.toList KB)
    (nb : (KB.map Prod.fst).Nodup)
    (ew : PySem.W.nsIn K mainGlobals "WORDS" = some (some (.ref aw)))
    (lw : K.lookup aw = some { cls := .type "dict", data := .dict esw epw })
    (vw : Paired (fun (e : DictEntry) (kv : Key × V) => ∃ x t, e.key = .str x t ∧ e.hash = PyData.keyHash w.params x ∧ kv.1 = .inr x ∧ RelV kv.2 e.val) esw.toList KW)
    (nw : (KW.map Prod.fst).Nodup)
    (sw : (aw == sysModules) = false)
    : ∃ fd : FuncData, (∀ (s : Shared) (v : Value), BindsTo s fd ⟨[v], []⟩ [("_law_script", v)]) ∧ ∀ base : Heap, K.In base → base.Ns mainGlobals mg → FnOk l.prog w K mg base CX0 64 fa fd ["_law_script"] (spLaw K) := by
  have e := hfa.symm.trans (PySem.W.mg_of X G a22)
  cases e
  have F_parts_of := fun_mk (st := s_parts_of) l1 c1 k1
  have m_parts_of := PySem.W.mg_of X G a1
  have b_parts_of := F_parts_of.binds (ps := ["row"]) fun _ _ _ _ _ _ => us1 fun _ => rfl
  have F_with_parts := fun_mk (st := s_with_parts) l2 c2 k2
  have m_with_parts := PySem.W.mg_of X G a2
  have b_with_parts := F_with_parts.binds (ps := ["row", "numbers"]) fun _ _ _ _ _ _ => us2 fun _ _ => rfl
  have F_in_order := fun_mk (st := s_in_order) l3 c3 k3
  have m_in_order := PySem.W.mg_of X G a3
  have b_in_order := F_in_order.binds (ps := ["rows"]) fun _ _ _ _ _ _ => us1 fun _ => rfl
  have F_heads_of := fun_mk (st := s_heads_of) l4 c4 k4
  have m_heads_of := PySem.W.mg_of X G a4
  have b_heads_of := F_heads_of.binds (ps := ["rows"]) fun _ _ _ _ _ _ => us1 fun _ => rfl
  have F_tidied := fun_mk (st := s_tidied) l5 c5 k5
  have m_tidied := PySem.W.mg_of X G a5
  have b_tidied := F_tidied.binds (ps := ["expression"]) fun _ _ _ _ _ _ => us1 fun _ => rfl
  have F_read_expression := fun_mk (st := s_read_expression) l6 c6 k6
  have m_read_expression := PySem.W.mg_of X G a6
  have b_read_expression := F_read_expression.binds (ps := ["text"]) fun _ _ _ _ _ _ => us1 fun _ => rfl
  have F_row_of_sign := fun_mk (st := s_row_of_sign) l7 c7 k7
  have m_row_of_sign := PySem.W.mg_of X G a7
  have b_row_of_sign := F_row_of_sign.binds (ps := ["sign"]) fun _ _ _ _ _ _ => us1 fun _ => rfl
  have F__law_box := fun_mk (st := s__law_box) l8 c8 k8
  have m__law_box := PySem.W.mg_of X G a8
  have b__law_box := F__law_box.binds (ps := ["_law_script", "_law_k"]) fun _ _ _ _ _ _ => us2 fun _ _ => rfl
  have F__law_take := fun_mk (st := s__law_take) l9 c9 k9
  have m__law_take := PySem.W.mg_of X G a9
  have b__law_take := F__law_take.binds (ps := ["_law_box_here", "_law_wide"]) fun _ _ _ _ _ _ => us2 fun _ _ => rfl
  have F__law_letters := fun_mk (st := s__law_letters) l10 c10 k10
  have m__law_letters := PySem.W.mg_of X G a10
  have b__law_letters := F__law_letters.binds (ps := ["_law_box_here", "_law_most"]) fun _ _ _ _ _ _ => us2 fun _ _ => rfl
  have F__law_row_at := fun_mk (st := s__law_row_at) l11 c11 k11
  have m__law_row_at := PySem.W.mg_of X G a11
  have b__law_row_at := F__law_row_at.binds (ps := ["_law_box_here", "_law_k"]) fun _ _ _ _ _ _ => us2 fun _ _ => rfl
  have F__law_expression := fun_mk (st := s__law_expression) l12 c12 k12
  have m__law_expression := PySem.W.mg_of X G a12
  have b__law_expression := F__law_expression.binds (ps := ["_law_box_here", "_law_letters_here", "_law_most"]) fun _ _ _ _ _ _ => us3 fun _ _ _ => rfl
  have F__law_chain := fun_mk (st := s__law_chain) l13 c13 k13
  have m__law_chain := PySem.W.mg_of X G a13
  have b__law_chain := F__law_chain.binds (ps := ["_law_box_here", "_law_letters_here", "_law_most"]) fun _ _ _ _ _ _ => us3 fun _ _ _ => rfl
  have F__law_laid := fun_mk (st := s__law_laid) l14 c14 k14
  have m__law_laid := PySem.W.mg_of X G a14
  have b__law_laid := F__law_laid.binds (ps := ["_law_rows", "_law_at", "_law_laid_here"]) fun _ _ _ _ _ _ => us3 fun _ _ _ => rfl
  have F__law_tidy := fun_mk (st := s__law_tidy) l15 c15 k15
  have m__law_tidy := PySem.W.mg_of X G a15
  have b__law_tidy := F__law_tidy.binds (ps := ["_law_rows"]) fun _ _ _ _ _ _ => us1 fun _ => rfl
  have F__law_kinds := fun_mk (st := s__law_kinds) l16 c16 k16
  have m__law_kinds := PySem.W.mg_of X G a16
  have b__law_kinds := F__law_kinds.binds (ps := ["_law_rows"]) fun _ _ _ _ _ _ => us1 fun _ => rfl
  have F__law_written := fun_mk (st := s__law_written) l17 c17 k17
  have m__law_written := PySem.W.mg_of X G a17
  have b__law_written := F__law_written.binds (ps := ["_law_rows", "_law_at", "_law_bond"]) fun _ _ _ _ _ _ => us3 fun _ _ _ => rfl
  have F__law_fitting := fun_mk (st := s__law_fitting) l18 c18 k18
  have m__law_fitting := PySem.W.mg_of X G a18
  have b__law_fitting := F__law_fitting.binds (ps := ["_law_rows", "_law_most"]) fun _ _ _ _ _ _ => us2 fun _ _ => rfl
  have F__law_loose := fun_mk (st := s__law_loose) l19 c19 k19
  have m__law_loose := PySem.W.mg_of X G a19
  have b__law_loose := F__law_loose.binds (ps := ["_law_box_here", "_law_more", "_law_rows", "_law_at", "_law_bond"]) fun _ _ _ _ _ _ => us5 fun _ _ _ _ _ => rfl
  have F__law_right := fun_mk (st := s__law_right) l20 c20 k20
  have m__law_right := PySem.W.mg_of X G a20
  have b__law_right := F__law_right.binds (ps := ["_law_script", "_law_k"]) fun _ _ _ _ _ _ => us2 fun _ _ => rfl
  have F__law_deep_right := fun_mk (st := s__law_deep_right) l21 c21 k21
  have m__law_deep_right := PySem.W.mg_of X G a21
  have b__law_deep_right := F__law_deep_right.binds (ps := ["_law_script"]) fun _ _ _ _ _ _ => us1 fun _ => rfl
  have F_law := fun_mk (st := s_law) l22 c22 k22
  have m_law := PySem.W.mg_of X G a22
  have b_law := F_law.binds (ps := ["_law_script"]) fun _ _ _ _ _ _ => us1 fun _ => rfl
  have n_len := PySem.W.mg_none_of X G z_len
  have n_int := PySem.W.mg_none_of X G z_int
  have n_range := PySem.W.mg_none_of X G z_range
  have n_list := PySem.W.mg_none_of X G z_list
  have n_tuple := PySem.W.mg_none_of X G z_tuple
  have n_isinstance := PySem.W.mg_none_of X G z_isinstance
  have n_str := PySem.W.mg_none_of X G z_str
  have n_bool := PySem.W.mg_none_of X G z_bool
  have n_enumerate := PySem.W.mg_none_of X G z_enumerate
  have n_max := PySem.W.mg_none_of X G z_max
  refine ⟨PySem.W.fnOf "law" "law" (defArgs s_law) (defBody s_law) (defScope s_law) .none kV22 dc22 pm22 an22 cd22 ct22, fun s v => .of_eq rfl, fun base _ _ => ?_⟩
  have ss : PySem.W.kitOne K (.type "str") (.type "str") = some true := if_pos (by simp)
  have ii : PySem.W.kitOne K (.type "int") (.type "int") = some true := if_pos (by simp)
  have tt : PySem.W.kitOne K (.type "tuple") (.type "tuple") = some true := if_pos (by simp)
  have is_ : PySem.W.kitOne K (.type "int") (.type "str") = some false := by
    unfold PySem.W.kitOne
    rw [if_neg (by decide)]
    unfold PySem.W.kitCls
    first | rfl | decide +kernel | simp
  have si : PySem.W.kitOne K (.type "str") (.type "int") = some false := by
    unfold PySem.W.kitOne
    rw [if_neg (by decide)]
    unfold PySem.W.kitCls
    first | rfl | decide +kernel | simp
  have ib : PySem.W.kitOne K (.type "int") (.type "bool") = some false := by
    unfold PySem.W.kitOne
    rw [if_neg (by decide)]
    unfold PySem.W.kitCls
    first | rfl | decide +kernel | simp
  have sb : PySem.W.kitOne K (.type "str") (.type "bool") = some false := by
    unfold PySem.W.kitOne
    rw [if_neg (by decide)]
    unfold PySem.W.kitCls
    first | rfl | decide +kernel | simp
  have hT : TPa K mg := ⟨n_isinstance, n_int, n_str, n_tuple, n_bool, ii, si, ss, is_, ib, tt⟩
  have ia : PySem.W.kitAny K (.type "int") [.type "int", .type "str"] = some true := by unfold PySem.W.kitAny; rw [ii]
  have sa : PySem.W.kitAny K (.type "str") [.type "int", .type "str"] = some true := by unfold PySem.W.kitAny; rw [si]; show PySem.W.kitAny K (.type "str") [.type "str"] = _; unfold PySem.W.kitAny; rw [ss]
  have m_Reading := PySem.W.mg_of X G aC
  have m_BINDS := PySem.W.mg_of X G eb
  have m_WORDS := PySem.W.mg_of X G ew
  have kb : KDict l.prog w K ab KB := kdict_of lb vb nb
  have kw : KDict l.prog w K aw KW := kdict_of lw vw nw
  have cls : Cls K C := ⟨Cpg, Chd, Cpo, Csa⟩
  have rc : RC K C := ⟨cls, Nrows, Nready, Nwaiting, Nopened, Ndue⟩
  have F_init := fun_mk (st := s_Rd_init) lm0 cm0 km0
  have b_init := F_init.binds (ps := ["self"]) fun _ _ _ _ _ _ => us1 fun _ => rfl
  have F_fits := fun_mk (st := s_Rd_fits) lm1 cm1 km1
  have b_fits := F_fits.binds (ps := ["self", "sign"]) fun _ _ _ _ _ _ => us2 fun _ _ => rfl
  have d_fits : Meth K C "fits" M1 := ⟨fm1, im1, km1⟩
  have F_take := fun_mk (st := s_Rd_take) lm2 cm2 km2
  have b_take := F_take.binds (ps := ["self", "sign"]) fun _ _ _ _ _ _ => us2 fun _ _ => rfl
  have d_take : Meth K C "take" M2 := ⟨fm2, im2, km2⟩
  have F_wait_for_second := fun_mk (st := s_Rd_wait_for_second) lm3 cm3 km3
  have b_wait_for_second := F_wait_for_second.binds (ps := ["self", "word"]) fun _ _ _ _ _ _ => us2 fun _ _ => rfl
  have d_wait_for_second : Meth K C "wait_for_second" M3 := ⟨fm3, im3, km3⟩
  have F_begin_part := fun_mk (st := s_Rd_begin_part) lm4 cm4 km4
  have b_begin_part := F_begin_part.binds (ps := ["self", "sign"]) fun _ _ _ _ _ _ => us2 fun _ _ => rfl
  have d_begin_part : Meth K C "begin_part" M4 := ⟨fm4, im4, km4⟩
  have F_bind := fun_mk (st := s_Rd_bind) lm5 cm5 km5
  have b_bind := F_bind.binds (ps := ["self", "binds"]) fun _ _ _ _ _ _ => us2 fun _ _ => rfl
  have d_bind : Meth K C "bind" M5 := ⟨fm5, im5, km5⟩
  have F_put_row := fun_mk (st := s_Rd_put_row) lm6 cm6 km6
  have b_put_row := F_put_row.binds (ps := ["self", "row"]) fun _ _ _ _ _ _ => us2 fun _ _ => rfl
  have d_put_row : Meth K C "put_row" M6 := ⟨fm6, im6, km6⟩
  have mkR : Mk K C M0 := ⟨Cmk, fm0, im0, Ckp⟩
  have g__law_take := ok__law_take (P := l.prog) (w := w) (mg := mg) (base := base) F__law_take
  have g__law_box := ok__law_box (P := l.prog) (w := w) (base := base) F__law_box ⟨n_len, n_int⟩
  have g__law_letters := ok__law_letters (P := l.prog) (w := w) (base := base) F__law_letters ⟨n_len, n_list, n_range, m__law_take⟩ F__law_take b__law_take g__law_take
  have g__law_row_at := ok__law_row_at (P := l.prog) (w := w) (base := base) F__law_row_at ⟨m__law_take⟩ F__law_take b__law_take g__law_take
  have g__law_expression := ok__law_expression (P := l.prog) (w := w) (base := base) F__law_expression ⟨n_range, n_len, n_tuple, m__law_take, m__law_row_at⟩ F__law_take b__law_take g__law_take F__law_row_at b__law_row_at g__law_row_at
  have g__law_chain := ok__law_chain (P := l.prog) (w := w) (base := base) F__law_chain ⟨n_range, n_len, n_tuple, m__law_take⟩ F__law_take b__law_take g__law_take
  have g_parts_of := ok_parts_of (P := l.prog) (w := w) (base := base) F_parts_of hT
  have g_with_parts := ok_with_parts (P := l.prog) (w := w) (base := base) F_with_parts hT
  have g_heads_of := ok_heads_of (P := l.prog) (w := w) (base := base) F_heads_of ⟨n_enumerate, m_with_parts⟩ F_with_parts b_with_parts g_with_parts
  have g_in_order := ok_in_order (P := l.prog) (w := w) (base := base) F_in_order ⟨n_len, n_tuple, m_heads_of, m_with_parts, m_parts_of⟩ F_heads_of b_heads_of g_heads_of F_with_parts b_with_parts g_with_parts F_parts_of b_parts_of g_parts_of
  have g_tidied := ok_tidied (P := l.prog) (w := w) (base := base) F_tidied ⟨m_in_order⟩ F_in_order b_in_order g_in_order
  have g_row_of_sign := ok_row_of_sign (P := l.prog) (w := w) (mg := mg) (base := base) F_row_of_sign
  have g_put_row := ok_put_row (P := l.prog) (w := w) (base := base) F_put_row ⟨n_len, rc⟩
  have g_bind := ok_bind (P := l.prog) (w := w) (base := base) F_bind ⟨rc, cls, m_BINDS, kb, d_put_row⟩ b_put_row g_put_row
  have g_wait_for_second := ok_wait_for_second (P := l.prog) (w := w) (base := base) F_wait_for_second ⟨rc, cls, m_BINDS, kb, d_bind⟩ b_bind g_bind
  have g_begin_part := ok_begin_part (P := l.prog) (w := w) (base := base) F_begin_part ⟨rc, cls, m_row_of_sign, d_put_row⟩ F_row_of_sign b_row_of_sign g_row_of_sign b_put_row g_put_row
  have g_take := ok_take (P := l.prog) (w := w) (base := base) F_take ⟨rc, cls, m_BINDS, kb, m_WORDS, kw, sw, d_bind, d_wait_for_second, d_begin_part⟩ b_bind g_bind b_wait_for_second g_wait_for_second b_begin_part g_begin_part
  have g_fits := ok_fits (P := l.prog) (w := w) (base := base) F_fits ⟨rc, m_WORDS, kw, sw⟩
  have g_init := ok_init (P := l.prog) (w := w) (mg := mg) (base := base) F_init rc
  have g_read_expression := ok_read_expression (P := l.prog) (w := w) (base := base) F_read_expression ⟨rc, cls, mkR, m_Reading, n_enumerate, n_tuple, m_BINDS, kb, m_tidied, d_fits, d_take, d_bind⟩ b_init g_init b_fits g_fits b_take g_take b_bind g_bind F_tidied b_tidied g_tidied
  have g__law_written := ok__law_written (P := l.prog) (w := w) (base := base) F__law_written ⟨m__law_written⟩ b__law_written
  have g__law_loose := ok__law_loose (P := l.prog) (w := w) (base := base) F__law_loose ⟨m__law_loose, m__law_take, n_str, n_max, n_int⟩ b__law_loose F__law_take b__law_take g__law_take
  have g__law_laid := ok__law_laid (P := l.prog) (w := w) (base := base) F__law_laid ⟨m__law_laid, n_tuple⟩ b__law_laid
  have g__law_tidy := ok__law_tidy (P := l.prog) (w := w) (base := base) F__law_tidy ⟨n_len, n_tuple, m__law_laid⟩ F__law_laid b__law_laid g__law_laid
  have g__law_kinds := ok__law_kinds (P := l.prog) (w := w) (base := base) F__law_kinds ⟨n_tuple, n_isinstance, n_int, n_str, n_bool, tt, ia, sa, ib, sb⟩
  have g__law_fitting := ok__law_fitting (P := l.prog) (w := w) (base := base) F__law_fitting ⟨n_len, m__law_written⟩ F__law_written b__law_written g__law_written
  have g__law_right := ok__law_right (P := l.prog) (w := w) (base := base) F__law_right ⟨n_len, m__law_box, m__law_letters, m__law_expression, m__law_take, m__law_chain, m__law_fitting, m__law_loose, m__law_written, m_read_expression, m__law_kinds, m__law_tidy⟩ F__law_box b__law_box g__law_box F__law_letters b__law_letters g__law_letters F__law_expression b__law_expression g__law_expression F__law_take b__law_take g__law_take F__law_chain b__law_chain g__law_chain F__law_fitting b__law_fitting g__law_fitting F__law_loose b__law_loose g__law_loose F__law_written b__law_written g__law_written F_read_expression b_read_expression g_read_expression F__law_kinds b__law_kinds g__law_kinds F__law_tidy b__law_tidy g__law_tidy
  have g__law_deep_right := ok__law_deep_right (P := l.prog) (w := w) (base := base) F__law_deep_right ⟨n_range, n_tuple, m__law_box, m__law_take, m_read_expression⟩ F__law_box b__law_box g__law_box F__law_take b__law_take g__law_take F_read_expression b_read_expression g_read_expression
  exact ok_law F_law ⟨n_len, n_range, m__law_deep_right, m__law_right⟩ F__law_deep_right b__law_deep_right g__law_deep_right F__law_right b__law_right g__law_right
theorem walk {l : PySem.W.OpenLaw} {q : Program} {loose : List Str} {XP : (Str → Option Value) → Heap → Prop} {YP : World → Heap → Prop} {d : DefRec} {K : Params → PySem.W.Frag} (hn : l.most = some 63) (hdf : d.params.defaults = [])
    (hY : ∀ (w : World) (h : Heap), YP w h → (K w.params).In h)
    (F : ∀ (w : World) (mg : Str → Option Value) (fa : Addr) (h : Heap), (K w.params).In h → h.Ns mainGlobals mg → mg d.name = some (.ref fa) →
      ∃ fd : FuncData, (∀ (s : Shared) (u : Value), BindsTo s fd ⟨[u], []⟩ [("_law_script", u)]) ∧ ∀ base : Heap, (K w.params).In base → base.Ns mainGlobals mg → FnOk l.prog w (K w.params) mg base CX0 64 fa fd ["_law_script"] (spLaw (K w.params))) :
    PySem.W.WalkO q loose XP YP l.row.toRowW d [] (fun f vs => PySem.call f vs) :=
  L2.walk_of (n := 63) (k := 64) (x := "_law_script") (CX := fun _ => CX0) (sp := fun w => spLaw (K w.params)) hn (by decide) hdf ⟨rfl, by decide, by decide, rfl⟩ hY F (fun _ _ a ns hl _ hS => ⟨a, ns, rfl, hS, hl, fun _ => rfl⟩) fun _ _ _ _ _ z => z
end My
theorem PySem.W.Fast.tw11031583099713785375 : True := trivial
theorem PySem.W.Fast.tw11694545485786147306 : True := trivial
theorem PySem.W.Fast.tw10867281885690234755 : True := trivial
theorem PySem.W.Fast.tw9144528832039125050 : True := trivial
theorem PySem.W.Fast.tw11707512562325901139 : True := trivial
theorem PySem.W.Fast.tw15162233236202881496 : True := trivial
theorem PySem.W.Fast.tw7491052737365046261 : True := trivial
theorem PySem.W.Fast.tw16532606081226171345 : True := trivial
theorem PySem.W.Fast.tw8903671131292348332 : True := trivial
theorem PySem.W.Fast.tw4209180918750105723 : True := trivial
theorem PySem.W.Fast.tw8092090488684579855 : True := trivial
theorem PySem.W.Fast.tw7896796679274311457 : True := trivial
theorem PySem.W.Fast.tw7557616397178076964 : True := trivial
theorem PySem.W.Fast.tw15199868129386734084 : True := trivial
theorem PySem.W.Fast.tw1368423055257902728 : True := trivial
theorem PySem.W.Fast.tw4922691574215400170 : True := trivial
theorem PySem.W.Fast.tw17723119880643585355 : True := trivial
theorem PySem.W.Fast.tw5030175613603577673 : True := trivial
theorem PySem.W.Fast.tw14229243914105064209 : True := trivial
theorem PySem.W.Fast.tw15341595419302553266 : True := trivial
theorem PySem.W.Fast.tw10824971049115558700 : True := trivial
theorem PySem.W.Fast.tw13188034961012320540 : True := trivial
theorem PySem.W.Fast.tw17547778642524624299 : True := trivial
theorem PySem.W.Fast.tw10991435799407516281 : True := trivial
theorem PySem.W.Fast.tw8937168416043031693 : True := trivial
theorem PySem.W.Fast.tw12120605687434966840 : True := trivial
theorem PySem.W.Fast.tw5400940964977000312 : True := trivial
theorem PySem.W.Fast.tw251141727778662880 : True := trivial
theorem PySem.W.Fast.tw17985181181589777790 : True := trivial
theorem PySem.W.Fast.tw7148796381671727507 : True := trivial
theorem PySem.W.Fast.tw13194552809899778551 : True := trivial
theorem PySem.W.Fast.tw17020263858748640468 : True := trivial
theorem PySem.W.Fast.tw13350092151898151558 : True := trivial
theorem PySem.W.Fast.tw839019945740475274 : True := trivial
theorem PySem.W.Fast.tw4276326040508681917 : True := trivial
theorem PySem.W.Fast.tw12895700610231358092 : True := trivial
theorem PySem.W.Fast.tw7370953653744455634 : True := trivial
theorem PySem.W.Fast.tw1597108921835829705 : True := trivial
theorem PySem.W.Fast.tw15751509629349443003 : True := trivial
theorem PySem.W.Fast.tw8120937431124614506 : True := trivial
theorem PySem.W.Fast.tw9589703378593531562 : True := trivial
theorem PySem.W.Fast.tw4815955451040368622 : True := trivial
theorem PySem.W.Fast.tw8682500966830795060 : True := trivial
theorem PySem.W.Fast.tw18204528098691551512 : True := trivial
theorem PySem.W.Fast.tw680404462368023292 : True := trivial
theorem PySem.W.Fast.tw7492722652872924257 : True := trivial
theorem PySem.W.Fast.tw7239104591837892715 : True := trivial
theorem PySem.W.Fast.tw11093431582719981272 : True := trivial
theorem PySem.W.Fast.tw12815855525321929521 : True := trivial
theorem PySem.W.Fast.tw5670041877883413572 : True := trivial
theorem PySem.W.Fast.tw13380870522184590155 : True := trivial
theorem PySem.W.Fast.tw14950820742895395337 : True := trivial
theorem PySem.W.Fast.tw11313206642976030573 : True := trivial
theorem PySem.W.Fast.tw2231646368849494276 : True := trivial
theorem PySem.W.Fast.tw16770947349945873284 : True := trivial
theorem PySem.W.Fast.tw12242098873258921169 : True := trivial
theorem PySem.W.Fast.tw13752542395867421331 : True := trivial
theorem PySem.W.Fast.tw12318354045568618142 : True := trivial
theorem PySem.W.Fast.tw2364069909452331462 : True := trivial
theorem PySem.W.Fast.tw17761369601165809768 : True := trivial
theorem PySem.W.Fast.tw4997144996249400335 : True := trivial
theorem PySem.W.Fast.tw4438759120037593199 : True := trivial
theorem PySem.W.Fast.tw16069852685450479051 : True := trivial
theorem PySem.W.Fast.tw14894340370397660456 : True := trivial
theorem PySem.W.Fast.tw8405404708340207696 : True := trivial
theorem PySem.W.Fast.tw10447849475955470915 : True := trivial
theorem PySem.W.Fast.tw16963680240756631530 : True := trivial
theorem PySem.W.Fast.tw528196958366269972 : True := trivial
theorem PySem.W.Fast.tw3774685451587270274 : True := trivial
theorem PySem.W.Fast.tw303839322094321819 : True := trivial
theorem PySem.W.Fast.tw12326091158735999579 : True := trivial
theorem PySem.W.Fast.tw7089506358057345934 : True := trivial
theorem PySem.W.Fast.tw3539529045047832496 : True := trivial
theorem PySem.W.Fast.tw5604436983665366168 : True := trivial
theorem PySem.W.Fast.tw4352016492829160495 : True := trivial
theorem PySem.W.Fast.tw8952337750380245066 : True := trivial
theorem PySem.W.Fast.tw7807798412211661705 : True := trivial
theorem PySem.W.Fast.tw6721497677481123815 : True := trivial
theorem PySem.W.Fast.tw4057083921894164895 : True := trivial
theorem PySem.W.Fast.tw11858399508720747690 : True := trivial
theorem PySem.W.Fast.tw3889758320324207008 : True := trivial
theorem PySem.W.Fast.tw10775193770535711728 : True := trivial
theorem PySem.W.Fast.tw6916279729630122223 : True := trivial
theorem PySem.W.Fast.tw5206180375166131857 : True := trivial
theorem PySem.W.Fast.tw5337647383475826945 : True := trivial
theorem PySem.W.Fast.tw8515328145679513715 : True := trivial
theorem PySem.W.Fast.tw10587952312853122115 : True := trivial
theorem PySem.W.Fast.tw3625391737904919032 : True := trivial
theorem PySem.W.Fast.tw4296858093555244658 : True := trivial
theorem PySem.W.Fast.tw8277709338893416179 : True := trivial
theorem PySem.W.Fast.tw851227114722328084 : True := trivial
theorem PySem.W.Fast.tw5017530948373991946 : True := trivial
theorem PySem.W.Fast.tw1465508451628665145 : True := trivial
theorem PySem.W.Fast.tw14456817297624821210 : True := trivial
theorem PySem.W.Fast.tw12194918087371270004 : True := trivial
theorem PySem.W.Fast.tw16085194182954996346 : True := trivial
theorem PySem.W.Fast.tw430124151540800803 : True := trivial
theorem PySem.W.Fast.tw4433699940500124633 : True := trivial
theorem PySem.W.Fast.tw3570422898499264589 : True := trivial
theorem PySem.W.Fast.tw16289700447294058078 : True := trivial
theorem PySem.W.Fast.tw8073094346093916638 : True := trivial
theorem PySem.W.Fast.tw626765996445231556 : True := trivial
theorem PySem.W.Fast.tw5727537845510821429 : True := trivial
theorem PySem.W.Fast.tw11733837115365465031 : True := trivial
theorem PySem.W.Fast.tw14128450382389848143 : True := trivial
theorem PySem.W.Fast.tw15646790388529667927 : True := trivial
theorem PySem.W.Fast.tw8357539351197196258 : True := trivial
theorem PySem.W.Fast.tw8131793351032677292 : True := trivial
theorem PySem.W.Fast.tw3976657324883976063 : True := trivial
theorem PySem.W.Fast.tw3390590651882239874 : True := trivial
theorem PySem.W.Fast.tw18125256620864334160 : True := trivial
theorem PySem.W.Fast.tw12375128887316908926 : True := trivial
theorem PySem.W.Fast.tw15265282448367785480 : True := trivial
theorem PySem.W.Fast.tw11510842308115704716 : True := trivial
theorem PySem.W.Fast.tw2683754783834827813 : True := trivial
theorem PySem.W.Fast.tw212181362070060015 : True := trivial
theorem PySem.W.Fast.tw17377888301894787835 : True := trivial
theorem PySem.W.Fast.tw16668601364824387434 : True := trivial
theorem PySem.W.Fast.tw9564947167691751299 : True := trivial
theorem PySem.W.Fast.tw1435779601932944662 : True := trivial
open PySem PySem.W PyProof.Rows
set_option maxRecDepth 100000 in
set_option maxHeartbeats 0 in
theorem PySem.Challenge.cw_calmword_k27_expressions_read_holds : PySem.Challenge.rw_calmword_k27_expressions_read.Holds := by
  w_on; o_law; k_head; (case hw => w_witness2)
  k_fill
  refine My.walk (l := PySem.Challenge.rw_calmword_k27_expressions_read) rfl rfl (fun w h Y => PySem.W.kIn_of Y) ?F
  case F =>
    intro w mg fa h KX G hmg
    refine' My.all_mk KX G hmg ?a1 ?l1 ?c1 ?k1 ?a2 ?l2 ?c2 ?k2 ?a3 ?l3 ?c3 ?k3 ?a4 ?l4 ?c4 ?k4 ?a5 ?l5 ?c5 ?k5 ?a6 ?l6 ?c6 ?k6 ?a7 ?l7 ?c7 ?k7 ?a8 ?l8 ?c8 ?k8 ?a9 ?l9 ?c9 ?k9 ?a10 ?l10 ?c10 ?k10 ?a11 ?l11 ?c11 ?k11 ?a12 ?l12 ?c12 ?k12 ?a13 ?l13 ?c13 ?k13 ?a14 ?l14 ?c14 ?k14 ?a15 ?l15 ?c15 ?k15 ?a16 ?l16 ?c16 ?k16 ?a17 ?l17 ?c17 ?k17 ?a18 ?l18 ?c18 ?k18 ?a19 ?l19 ?c19 ?k19 ?a20 ?l20 ?c20 ?k20 ?a21 ?l21 ?c21 ?k21 ?a22 ?l22 ?c22 ?k22 ?z_len ?z_int ?z_range ?z_list ?z_tuple ?z_isinstance ?z_str ?z_bool ?z_enumerate ?z_max ?aC ?Cpg ?Chd ?Cpo ?Csa ?Cmk ?Ckp ?Nrows ?Nready ?Nwaiting ?Nopened ?Ndue ?fm0 ?lm0 ?cm0 ?km0 ?im0 ?fm1 ?lm1 ?cm1 ?km1 ?im1 ?fm2 ?lm2 ?cm2 ?km2 ?im2 ?fm3 ?lm3 ?cm3 ?km3 ?im3 ?fm4 ?lm4 ?cm4 ?km4 ?im4 ?fm5 ?lm5 ?cm5 ?km5 ?im5 ?fm6 ?lm6 ?cm6 ?km6 ?im6 ?eb ?lb ?vb ?nb ?ew ?lw ?vw ?nw ?sw
    (case a1 => k_is)
    (case l1 => k_is)
    (case c1 => k_is)
    (case k1 => k_is)
    (case a2 => k_is)
    (case l2 => k_is)
    (case c2 => k_is)
    (case k2 => k_is)
    (case a3 => k_is)
    (case l3 => k_is)
    (case c3 => k_is)
    (case k3 => k_is)
    (case a4 => k_is)
    (case l4 => k_is)
    (case c4 => k_is)
    (case k4 => k_is)
    (case a5 => k_is)
    (case l5 => k_is)
    (case c5 => k_is)
    (case k5 => k_is)
    (case a6 => k_is)
    (case l6 => k_is)
    (case c6 => k_is)
    (case k6 => k_is)
    (case a7 => k_is)
    (case l7 => k_is)
    (case c7 => k_is)
    (case k7 => k_is)
    (case a8 => k_is)
    (case l8 => k_is)
    (case c8 => k_is)
    (case k8 => k_is)
    (case a9 => k_is)
    (case l9 => k_is)
    (case c9 => k_is)
    (case k9 => k_is)
    (case a10 => k_is)
    (case l10 => k_is)
    (case c10 => k_is)
    (case k10 => k_is)
    (case a11 => k_is)
    (case l11 => k_is)
    (case c11 => k_is)
    (case k11 => k_is)
    (case a12 => k_is)
    (case l12 => k_is)
    (case c12 => k_is)
    (case k12 => k_is)
    (case a13 => k_is)
    (case l13 => k_is)
    (case c13 => k_is)
    (case k13 => k_is)
    (case a14 => k_is)
    (case l14 => k_is)
    (case c14 => k_is)
    (case k14 => k_is)
    (case a15 => k_is)
    (case l15 => k_is)
    (case c15 => k_is)
    (case k15 => k_is)
    (case a16 => k_is)
    (case l16 => k_is)
    (case c16 => k_is)
    (case k16 => k_is)
    (case a17 => k_is)
    (case l17 => k_is)
    (case c17 => k_is)
    (case k17 => k_is)
    (case a18 => k_is)
    (case l18 => k_is)
    (case c18 => k_is)
    (case k18 => k_is)
    (case a19 => k_is)
    (case l19 => k_is)
    (case c19 => k_is)
    (case k19 => k_is)
    (case a20 => k_is)
    (case l20 => k_is)
    (case c20 => k_is)
    (case k20 => k_is)
    (case a21 => k_is)
    (case l21 => k_is)
    (case c21 => k_is)
    (case k21 => k_is)
    (case a22 => k_is)
    (case l22 => k_is)
    (case c22 => k_is)
    (case k22 => k_is)
    (case z_len => k_is)
    (case z_int => k_is)
    (case z_range => k_is)
    (case z_list => k_is)
    (case z_tuple => k_is)
    (case z_isinstance => k_is)
    (case z_str => k_is)
    (case z_bool => k_is)
    (case z_enumerate => k_is)
    (case z_max => k_is)
    (case aC => k_is)
    (case Cpg => first | k_is | kernel_rfl)
    (case Chd => first | k_is | kernel_rfl)
    (case Cpo => first | k_is | kernel_rfl)
    (case Csa => first | k_is | kernel_rfl)
    (case Cmk => first | k_is | kernel_rfl)
    (case Ckp => first | k_is | kernel_rfl)
    (case Nrows => first | k_is | kernel_rfl)
    (case Nready => first | k_is | kernel_rfl)
    (case Nwaiting => first | k_is | kernel_rfl)
    (case Nopened => first | k_is | kernel_rfl)
    (case Ndue => first | k_is | kernel_rfl)
    (case fm0 => first | k_is | kernel_rfl)
    (case lm0 => k_is)
    (case cm0 => first | k_is | kernel_rfl)
    (case km0 => first | k_is | kernel_rfl)
    (case im0 => first | k_is | kernel_rfl)
    (case fm1 => first | k_is | kernel_rfl)
    (case lm1 => k_is)
    (case cm1 => first | k_is | kernel_rfl)
    (case km1 => first | k_is | kernel_rfl)
    (case im1 => first | k_is | kernel_rfl)
    (case fm2 => first | k_is | kernel_rfl)
    (case lm2 => k_is)
    (case cm2 => first | k_is | kernel_rfl)
    (case km2 => first | k_is | kernel_rfl)
    (case im2 => first | k_is | kernel_rfl)
    (case fm3 => first | k_is | kernel_rfl)
    (case lm3 => k_is)
    (case cm3 => first | k_is | kernel_rfl)
    (case km3 => first | k_is | kernel_rfl)
    (case im3 => first | k_is | kernel_rfl)
    (case fm4 => first | k_is | kernel_rfl)
    (case lm4 => k_is)
    (case cm4 => first | k_is | kernel_rfl)
    (case km4 => first | k_is | kernel_rfl)
    (case im4 => first | k_is | kernel_rfl)
    (case fm5 => first | k_is | kernel_rfl)
    (case lm5 => k_is)
    (case cm5 => first | k_is | kernel_rfl)
    (case km5 => first | k_is | kernel_rfl)
    (case im5 => first | k_is | kernel_rfl)
    (case fm6 => first | k_is | kernel_rfl)
    (case lm6 => k_is)
    (case cm6 => first | k_is | kernel_rfl)
    (case km6 => first | k_is | kernel_rfl)
    (case im6 => first | k_is | kernel_rfl)
    (case eb => k_is)
    (case lb => k_is)
    (case vb => exact (.cons ⟨_, _, rfl, rfl, rfl, ⟨_, rfl⟩⟩ (.cons ⟨_, _, rfl, rfl, rfl, ⟨_, rfl⟩⟩ (.cons ⟨_, _, rfl, rfl, rfl, ⟨_, rfl⟩⟩ (.cons ⟨_, _, rfl, rfl, rfl, ⟨_, rfl⟩⟩ (.cons ⟨_, _, rfl, rfl, rfl, ⟨_, rfl⟩⟩ (.cons ⟨_, _, rfl, rfl, rfl, ⟨_, rfl⟩⟩ (.cons ⟨_, _, rfl, rfl, rfl, ⟨_, rfl⟩⟩ (.cons ⟨_, _, rfl, rfl, rfl, ⟨_, rfl⟩⟩ .nil)))))))))
    (case nb => decide +kernel)
    (case ew => k_is)
    (case lw => k_is)
    (case vw => exact (.cons ⟨_, _, rfl, rfl, rfl, ⟨_, rfl⟩⟩ (.cons ⟨_, _, rfl, rfl, rfl, ⟨_, rfl⟩⟩ .nil)))
    (case nw => decide +kernel)
    (case sw => first | rfl | decide)
