import PyProof.Rows.All
import Wide.All
import OpenK.AllK
import Wide.FinOn
import Lean
import PyProof.EqAt
import PyProof.EqKinds
import PyProof.TupleCall
import PySem.Challenge.RW_calmword_k35_names_bound_anew
set_option Elab.async false
set_option linter.all false
set_option maxRecDepth 100000
namespace L2
open PySem PySem.Spec PyProof.Rows
abbrev Key := Sum Int Str
def keyIs : Key → Value → Bool
  | .inl k, v => Value.isInt k v
  | .inr x, v => Value.isStrOf x v
def keyH (w : World) : Key → Int
  | .inl k => hashInt k
  | .inr x => hashStr w x
theorem keyIs_shape : ∀ {k : Key} {v : Value}, keyIs k v = true → (∃ i t, k = Sum.inl i ∧ v = Value.int i t) ∨ (∃ x t, k = Sum.inr x ∧ v = Value.str x t)
  | .inl i, v, h => by
    obtain ⟨t, e⟩ := Value.isInt_shape (k := i) (v := v) h
    exact .inl ⟨i, t, rfl, e⟩
  | .inr x, v, h => by
    obtain ⟨t, e⟩ := Value.isStrOf_shape (x := x) (v := v) h
    exact .inr ⟨x, t, rfl, e⟩
theorem keyIs_int (i : Int) (t : Tok) : keyIs (.inl i) (.int i t) = true := by simp [keyIs, Value.isInt]
theorem keyIs_str (x : Str) (t : Tok) : keyIs (.inr x) (.str x t) = true := by simp [keyIs, Value.isStrOf]
theorem key_ll (a b : Int) : decide ((Sum.inl a : Key) = Sum.inl b) = (a == b) := by
  by_cases e : a = b
  · subst e; simp
  · have h : ¬ (Sum.inl a : Key) = Sum.inl b := fun q => e (Sum.inl.inj q)
    rw [decide_eq_false h]
    exact (beq_eq_false_iff_ne.mpr e).symm
theorem key_rr (a b : Str) : decide ((Sum.inr a : Key) = Sum.inr b) = decide (a = b) := by
  by_cases e : a = b
  · subst e; simp
  · have h : ¬ (Sum.inr a : Key) = Sum.inr b := fun q => e (Sum.inr.inj q)
    rw [decide_eq_false h, decide_eq_false e]
theorem key_lr (a : Int) (b : Str) : decide ((Sum.inl a : Key) = Sum.inr b) = false := decide_eq_false (fun q => nomatch q)
theorem key_rl (a : Str) (b : Int) : decide ((Sum.inr a : Key) = Sum.inl b) = false := decide_eq_false (fun q => nomatch q)
def mixKind (prog : Program) (w : World) : PySem.KeyKind prog w Key where
  is := keyIs
  hash := keyH w
  inj := fun v a b ha hb => by
    rcases keyIs_shape ha with ⟨i, t, rfl, rfl⟩ | ⟨x, t, rfl, rfl⟩
    · rcases keyIs_shape hb with ⟨j, u, rfl, e⟩ | ⟨y, u, rfl, e⟩
      · injection e with e1 _; rw [e1]
      · exact nomatch e
    · rcases keyIs_shape hb with ⟨j, u, rfl, e⟩ | ⟨y, u, rfl, e⟩
      · exact nomatch e
      · injection e with e1 _; rw [e1]
  byValue := fun k v h => by
    rcases keyIs_shape h with ⟨i, t, rfl, rfl⟩ | ⟨x, t, rfl, rfl⟩ <;> rfl
  pyHash := fun hv h => by
    rcases keyIs_shape hv with ⟨i, t, rfl, rfl⟩ | ⟨x, t, rfl, rfl⟩
    · exact wpAny_pyHash_int h
    · exact wpAny_pyHash_str h
  eqBool := fun hu hv h => by
    rcases keyIs_shape hu with ⟨i, t, rfl, rfl⟩ | ⟨x, t, rfl, rfl⟩
    · rcases keyIs_shape hv with ⟨j, u, rfl, rfl⟩ | ⟨y, u, rfl, rfl⟩
      · rw [key_ll] at h; exact wpAny_eqBool_int h
      · rw [key_lr] at h; exact SeqAt.EqAt.int_str i t y u _ _ _ _ h
    · rcases keyIs_shape hv with ⟨j, u, rfl, rfl⟩ | ⟨y, u, rfl, rfl⟩
      · rw [key_rl] at h; exact SeqAt.EqAt.str_int x t j u _ _ _ _ h
      · rw [key_rr] at h; exact wpAny_eqBool_str h
  «strs» := fun k x t v h => by
    rcases keyIs_shape h with ⟨i, u, rfl, e⟩ | ⟨y, u, rfl, e⟩
    · exact nomatch e
    · injection e with e1 _
      subst e1
      cases v <;> rfl
theorem mixKind_int (prog : Program) (w : World) (i : Int) (t : Tok) : (mixKind prog w).is (.inl i) (.int i t) = true := keyIs_int i t
theorem mixKind_str (prog : Program) (w : World) (x : Str) (t : Tok) : (mixKind prog w).is (.inr x) (.str x t) = true := keyIs_str x t
end L2
namespace L2
open PySem PySem.Spec PyProof.Rows
inductive V where
  | non | bl (b : Bool) | int (i : Int) | str (x : Str) | byt (b : Array UInt8) | flt (b : UInt64) | ref (a : Addr) | ty (n : String)
  deriving DecidableEq
def RelV : V → Value → Prop
  | .non, u => u = Value.none
  | .bl b, u => u = Value.bool b
  | .int i, u => ∃ t, u = Value.int i t
  | .str x, u => ∃ t, u = Value.str x t
  | .byt b, u => ∃ t, u = Value.bytes b t
  | .flt b, u => ∃ t, u = Value.float b t
  | .ref a, u => u = Value.ref a
  | .ty n, u => u = Value.type n
abbrev Vals : List V → List Value → Prop := Paired RelV
theorem Vals.length {xs : List V} {us : List Value} (r : Vals xs us) : xs.length = us.length := Paired.length r
theorem Vals.get : ∀ {xs : List V} {us : List Value} {i : Nat} {x : V}, Vals xs us → xs[i]? = some x → ∃ u, us[i]? = some u ∧ RelV x u
  | _, _, _, _, .nil, e => by simp at e
  | _, _, 0, _, .cons r _, e => by simp at e; subst e; exact ⟨_, rfl, r⟩
  | _, _, i + 1, x, .cons _ t, e => by
    obtain ⟨u, h1, h2⟩ := Vals.get (i := i) (x := x) t (by simpa using e)
    exact ⟨u, by simpa using h1, h2⟩
theorem Vals.set {x : V} {u : Value} (r : RelV x u) : ∀ {xs : List V} {us : List Value} (i : Nat), Vals xs us → Vals (xs.set i x) (us.set i u)
  | _, _, _, .nil => .nil
  | _, _, 0, .cons _ t => .cons r t
  | _, _, i + 1, .cons q t => .cons q (Vals.set r i t)
theorem Vals.append : ∀ {xs ys : List V} {us ws : List Value}, Vals xs us → Vals ys ws → Vals (xs ++ ys) (us ++ ws)
  | _, _, _, _, .nil, s => s
  | _, _, _, _, .cons r t, s => .cons r (Vals.append t s)
theorem Vals.take : ∀ {xs : List V} {us : List Value} (n : Nat), Vals xs us → Vals (xs.take n) (us.take n)
  | _, _, 0, _ => .nil
  | _, _, _ + 1, .nil => .nil
  | _, _, n + 1, .cons r t => .cons r (Vals.take n t)
theorem Vals.drop : ∀ {xs : List V} {us : List Value} (n : Nat), Vals xs us → Vals (xs.drop n) (us.drop n)
  | _, _, 0, r => r
  | _, _, _ + 1, .nil => .nil
  | _, _, n + 1, .cons _ t => Vals.drop n t
def RelO : Option V → Option Value → Prop
  | some v, some u => RelV v u
  | none, none => True
  | _, _ => False
def KV {κ : Type} : List (κ × V) → List (κ × Value) → Prop := Paired fun (p : κ × V) (q : κ × Value) => p.1 = q.1 ∧ RelV p.2 q.2
def kV : Key → V
  | .inl i => .int i
  | .inr x => .str x
inductive HO where
    | lst (xs : List V)
    | tup (xs : List V)
    | dK (kvs : List (Key × V)) | dT (kvs : List (List Key × V))
    | set (S : Int → Bool) (n : Nat)
    | ins (C dx : Addr) (fs : List (Str × V))
    | own (x : Addr)
    | xd (fs : List (Str × V))
    | met (f x : Addr)
    | rng (lo hi : Int)
    | frz (o : Obj) (u : HO)
    | tbl (ps : Array Value)
    | ext (φ : Heap → Prop)
abbrev Hp := Addr → Option HO
def upd (H : Hp) (a : Addr) (o : HO) : Hp := fun b => if b = a then some o else H b
theorem upd_same {H : Hp} {a : Addr} {o : HO} : upd H a o a = some o := by unfold upd; rw [if_pos rfl]
theorem upd_ne {H : Hp} {a b : Addr} {o : HO} (h : b ≠ a) : upd H a o b = H b := by unfold upd; rw [if_neg h]
theorem upd_upd {H : Hp} {a : Addr} {o u : HO} : upd (upd H a o) a u = upd H a u := by
  funext b; unfold upd; split <;> rfl
theorem ne_of {H : Hp} {a b : Addr} {o u : HO} (h : H a = some o) (h' : H b = some u) (d : o ≠ u) : a ≠ b := by
  intro e; subst e; rw [h] at h'; exact d (Option.some.inj h')
theorem ne_of_none {H : Hp} {a b : Addr} {o : HO} (h : H a = some o) (h' : H b = none) : a ≠ b := by
  intro e; subst e; rw [h] at h'; cases h'
section
variable (P : Program) (w : World)
def ObjOk (H : Hp) (h : Heap) (a : Addr) : HO → Prop
  | .lst xs => xs.length ≤ sizeLine ∧ ∃ (its : List Value) (n : Nat), Vals xs its ∧ h.get? a = some { cls := .type "list", data := .seq its.toArray n }
  | .tup xs => xs.length ≤ sizeLine ∧ ∃ its : List Value, Vals xs its ∧ IsTup h a its.toArray
  | .dK kvs => kvs.length ≤ sizeLine ∧ (a == sysModules) = false ∧ ∃ vs, KV kvs vs ∧ h.DictOf (mixKind P w) a vs
  | .dT kvs => kvs.length ≤ sizeLine ∧ (a == sysModules) = false ∧ ∃ xs : List (List Key × Addr × Value),
      Paired (fun (p : List Key × V) (q : List Key × Addr × Value) => p.1 = q.1 ∧ H q.2.1 = some (.tup (p.1.map kV)) ∧ RelV p.2 q.2.2) kvs xs ∧
      ∃ o es ep, h.get? a = some o ∧ o.ExactDict ∧ o.data = .dict es ep ∧ es.toList = xs.map (entryOfKey (tupleKind (mixKind P w))) ∧ (xs.map (·.1)).Nodup
  | .set S n => h.SetOf (intKind P w) a S n
  | .ins C dx fs => H dx = some (.own a) ∧ fs.length ≤ 1000 ∧ dx ≠ a ∧ h.get? a = some (PySem.W.instObj C dx) ∧
      ∃ mA, h.Ns1 dx mA ∧ (∀ f, RelO (fs.lookup f) (mA f)) ∧ PySem.Within mA (fs.map (·.1))
  | .own _ => ∃ o, h.get? a = some o
  | .xd fs => ∃ mA, h.Ns1 a mA ∧ ∀ f, RelO (fs.lookup f) (mA f)
  | .rng lo hi => ∃ t u v, h.get? a = some { cls := .type "range", data := .fields #[.int lo t, .int hi u, .int 1 v] }
  | .frz o u => h.get? a = some o ∧ ObjOk H h a u
  | .tbl ps => h.get? a = some { cls := .none, data := .fields ps }
  | .met f x => h.get? a = some (PySem.W.methodObj (.ref f) (.ref x))
  | .ext φ => φ h ∧ (∃ o, h.get? a = some o) ∧ ∀ h1 h2 : Heap, φ h1 → (∀ o, h1.get? a = some o → h2.get? a = some o) → φ h2
def HOk (H : Hp) (h : Heap) : Prop := ∀ a o, H a = some o → ObjOk P w H h a o
end
section
variable {P : Program} {w : World} {H H' : Hp} {h h' : Heap} {a : Addr} {o : HO}
theorem ObjOk.lt (x : ObjOk P w H h a o) : a < h.objs.size := by
  cases o with
  | lst xs => obtain ⟨_, _, _, _, e⟩ := x; exact Heap.lt_size e
  | tup xs => obtain ⟨_, _, _, p⟩ := x; exact p.lt
  | dK kvs => obtain ⟨_, _, _, _, o, _, _, e, _⟩ := x; exact Heap.lt_size e
  | dT kvs => obtain ⟨_, _, _, _, o, _, _, e, _⟩ := x; exact Heap.lt_size e
  | set S n => obtain ⟨o, _, _, _, e, _⟩ := x; exact Heap.lt_size e
  | ins C dx fs => obtain ⟨_, _, _, e, _⟩ := x; exact Heap.lt_size e
  | own y => obtain ⟨_, e⟩ := x; exact Heap.lt_size e
  | xd fs => obtain ⟨_, ⟨_, _, _, e, _⟩, _⟩ := x; exact Heap.lt_size e
  | rng lo hi => obtain ⟨_, _, _, e⟩ := x; exact Heap.lt_size e
  | frz ob u => obtain ⟨e, _⟩ := x; exact Heap.lt_size e
  | tbl ps => exact Heap.lt_size (show h.get? a = some _ from x)
  | met f y => exact Heap.lt_size (show h.get? a = some _ from x)
  | ext φ => obtain ⟨_, ⟨_, e⟩, _⟩ := x; exact Heap.lt_size e
theorem Paired.mapP {α β : Type} {F G : α → β → Prop} : ∀ {l₁ : List α} {l₂ : List β}, Paired F l₁ l₂ → (∀ a b, F a b → G a b) → Paired G l₁ l₂
  | _, _, .nil, _ => .nil
  | _, _, .cons r t, f => .cons (f _ _ r) (Paired.mapP t f)
theorem ObjOk.stay (x : ObjOk P w H h a o) (k : ∀ b u, (b = a ∨ H b = some (.own a)) → h.get? b = some u → h'.get? b = some u)
    (ho : ∀ b, H b = some (.own a) → H' b = some (.own a)) (ht : ∀ b xs, H b = some (.tup xs) → H' b = some (.tup xs)) : ObjOk P w H' h' a o := by
  induction o with
  | lst xs => obtain ⟨z, its, n, r, e⟩ := x; exact ⟨z, its, n, r, k _ _ (.inl rfl) e⟩
  | tup xs => obtain ⟨z, its, r, ob, e, c⟩ := x; exact ⟨z, its, r, ob, k _ _ (.inl rfl) e, c⟩
  | dK kvs => obtain ⟨z, y, vs, r, ob, es, ep, e, c⟩ := x; exact ⟨z, y, vs, r, ob, es, ep, k _ _ (.inl rfl) e, c⟩
  | dT kvs =>
    obtain ⟨z, y, xs, r, ob, es, ep, e, c⟩ := x
    exact ⟨z, y, xs, Paired.mapP r fun p q z => ⟨z.1, ht _ _ z.2.1, z.2.2⟩, ob, es, ep, k _ _ (.inl rfl) e, c⟩
  | set S n => obtain ⟨ob, es, ep, t, e, c⟩ := x; exact ⟨ob, es, ep, t, k _ _ (.inl rfl) e, c⟩
  | ins C dx fs =>
    obtain ⟨d, z, ne, e, mA, ⟨od, es, ep, e2, c⟩, r⟩ := x
    exact ⟨ho _ d, z, ne, k _ _ (.inl rfl) e, mA, ⟨od, es, ep, k _ _ (.inr d) e2, c⟩, r⟩
  | own y => obtain ⟨ob, e⟩ := x; exact ⟨ob, k _ _ (.inl rfl) e⟩
  | xd fs => obtain ⟨mA, ⟨od, es, ep, e, c⟩, r⟩ := x; exact ⟨mA, ⟨od, es, ep, k _ _ (.inl rfl) e, c⟩, r⟩
  | rng lo hi => obtain ⟨t, u, v, e⟩ := x; exact ⟨t, u, v, k _ _ (.inl rfl) e⟩
  | frz ob u ih => obtain ⟨e, q⟩ := x; exact ⟨k _ _ (.inl rfl) e, ih q⟩
  | tbl ps =>
    have e : h.get? a = some { cls := .none, data := .fields ps } := x
    show h'.get? a = some { cls := .none, data := .fields ps }
    exact k a _ (.inl rfl) e
  | met f y =>
    have e : h.get? a = some (PySem.W.methodObj (.ref f) (.ref y)) := x
    show h'.get? a = some (PySem.W.methodObj (.ref f) (.ref y))
    exact k a _ (.inl rfl) e
  | ext φ => obtain ⟨p, ⟨o, e⟩, st⟩ := x; exact ⟨st _ _ p fun o q => k _ _ (.inl rfl) q, ⟨o, k _ _ (.inl rfl) e⟩, st⟩
theorem HOk.lt (x : HOk P w H h) (e : H a = some o) : a < h.objs.size := (x a o e).lt
theorem HOk.fresh (x : HOk P w H h) (e : h.objs.size ≤ a) : H a = none := by
  cases q : H a with
  | none => rfl
  | some u => exact absurd (Nat.lt_of_lt_of_le (x.lt q) e) (Nat.lt_irrefl _)
theorem HOk.kept (x : HOk P w H h) (k : ∀ b u, h.get? b = some u → h'.get? b = some u) : HOk P w H h' := fun a o e =>
  (x a o e).stay (fun b u _ q => k b u q) (fun _ q => q) fun _ _ q => q
theorem HOk.laid (x : HOk P w H h) (k : ∀ b u, h.get? b = some u → h'.get? b = some u) (hp : h.objs.size ≤ a) (new : ObjOk P w (upd H a o) h' a o) : HOk P w (upd H a o) h' := fun b u e => by
  have hn := x.fresh hp
  by_cases hb : b = a
  · subst hb; rw [upd_same] at e; cases e; exact new
  · rw [upd_ne hb] at e
    exact (x b u e).stay (fun c v _ q => k c v q) (fun c q => by rw [upd_ne (ne_of_none q hn)]; exact q) fun c xs q => by rw [upd_ne (ne_of_none q hn)]; exact q
end
def Rd (H : Hp) (a : Addr) (u : HO) : Prop := H a = some u ∨ ∃ o, H a = some (.frz o u)
theorem Rd.ok {P : Program} {w : World} {H : Hp} {h : Heap} {a : Addr} {u : HO} (r : Rd H a u) (x : HOk P w H h) : ObjOk P w H h a u := by
  rcases r with r | ⟨o, r⟩
  · exact x a u r
  · obtain ⟨_, q⟩ := x a _ r
    exact q
def Mut : Option HO → Prop
  | some (.lst _) => True
  | some (.dK _) => True
  | some (.dT _) => True
  | some (.set _ _) => True
  | some (.ins _ _ _) => True
  | some (.ext _) => True
  | _ => False
section
variable {P : Program} {w : World} {H : Hp} {h h' : Heap} {x e : Addr} {o' : HO}
theorem HOk.write (ok : HOk P w H h) (mu : Mut (H x)) (he : e = x ∨ H e = some (.own x)) (k : ∀ b u, b ≠ e → h.get? b = some u → h'.get? b = some u) (heo : ∃ u, h'.get? e = some u)
    (new : ObjOk P w (upd H x o') h' x o') : HOk P w (upd H x o') h' := fun b u q => by
  have nown : ∀ c y, H c = some (.own y) → c ≠ x := fun c y r z => by subst z; rw [r] at mu; exact mu
  have ntup : ∀ c xs, H c = some (.tup xs) → c ≠ x := fun c xs r z => by subst z; rw [r] at mu; exact mu
  by_cases hb : b = x
  · subst hb; rw [upd_same] at q; cases q; exact new
  · rw [upd_ne hb] at q
    by_cases hbe : b = e
    · have q' : H b = some (.own x) := by
        rcases he with z | z
        · exact absurd (hbe.trans z) hb
        · rw [hbe]; exact z
      rw [q] at q'; cases q'
      obtain ⟨v, hv⟩ := heo
      exact ⟨v, by rw [hbe]; exact hv⟩
    · refine (ok b u q).stay (fun c v hc r => k c v ?_ r) (fun c r => by rw [upd_ne (nown c b r)]; exact r) fun c xs r => by rw [upd_ne (ntup c xs r)]; exact r
      rcases hc with rfl | hc
      · exact hbe
      · rintro rfl
        rcases he with z | z
        · exact nown c b hc z
        · rw [hc] at z; cases z; exact hb rfl
end
structure Un (fs ex : List Addr) (H H' : Hp) (h h' : Heap) : Prop where
  keep : ∀ b o, h.get? b = some o → H b = none → b ∉ fs → b ∉ ex → h'.get? b = some o
  slot : ∀ b o, h.get? b = some o → H b = none → b ∈ fs → b ∉ ex → ∃ sl, h'.get? b = some { o with slots := sl }
  free : ∀ b o, h.get? b = some o → H b = none → b ∉ ex → H' b = none
  there : ∀ b o, h.get? b = some o → b ∉ ex → ∃ o', h'.get? b = some o'
  tups : ∀ b xs, H b = some (.tup xs) → H' b = some (.tup xs)
  frzs : ∀ b o u, H b = some (.frz o u) → H' b = some (.frz o u)
  tbls : ∀ b ps, H b = some (.tbl ps) → ∃ more, H' b = some (.tbl (ps ++ more))
section
variable {fs fs' ex ex' : List Addr} {H H1 H2 : Hp} {h h1 h2 h' : Heap} {a x e : Addr} {o : HO}
theorem Un.any (u : Un fs ex H H1 h h1) {b : Addr} {ob : Obj} (q : h.get? b = some ob) (n : H b = none) (hx : b ∉ ex) : ∃ sl, h1.get? b = some { ob with slots := sl } := by
  by_cases hb : b ∈ fs
  · exact u.slot b ob q n hb hx
  · exact ⟨ob.slots, u.keep b ob q n hb hx⟩
theorem Un.kept (k : ∀ b u, h.get? b = some u → h'.get? b = some u) : Un fs ex H H h h' :=
  ⟨fun b ob q _ _ _ => k b ob q, fun b ob q _ _ _ => ⟨ob.slots, k b ob q⟩, fun _ _ _ n _ => n, fun b ob q _ => ⟨ob, k b ob q⟩, fun _ _ q => q, fun _ _ _ q => q, fun _ ps q => ⟨#[], by rw [q]; simp⟩⟩
theorem Un.refl : Un fs ex H H h h := Un.kept fun _ _ q => q
theorem Un.laid (k : ∀ b u, h.get? b = some u → h'.get? b = some u) (hp : h.objs.size ≤ a) (hn : H a = none) : Un fs ex H (upd H a o) h h' where
  keep := fun b u q _ _ _ => k b u q
  slot := fun b u q _ _ _ => ⟨u.slots, k b u q⟩
  free := fun b u q n _ => by rw [upd_ne (Nat.ne_of_lt (Nat.lt_of_lt_of_le (Heap.lt_size q) hp))]; exact n
  there := fun b u q _ => ⟨u, k b u q⟩
  tups := fun b xs q => by rw [upd_ne (ne_of_none q hn)]; exact q
  frzs := fun b u xs q => by rw [upd_ne (ne_of_none q hn)]; exact q
  tbls := fun b ps q => ⟨#[], by rw [upd_ne (ne_of_none q hn), q]; simp⟩
theorem Un.write (mu : Mut (H x)) (he : e = x ∨ H e = some (.own x)) (k : ∀ b u, b ≠ e → h.get? b = some u → h'.get? b = some u) (heo : ∃ u, h'.get? e = some u) : Un fs ex H (upd H x o) h h' := by
  have hx : ∀ b, H b = none → b ≠ x := fun b n z => by subst z; rw [n] at mu; exact mu
  have hb : ∀ b, H b = none → b ≠ e := fun b n z => by
    subst z
    rcases he with r | r
    · exact hx b n r
    · rw [n] at r; cases r
  have hm : ∀ b u, H b = some u → ¬ Mut (some u) → b ≠ x := fun b u q nm z => by subst z; rw [q] at mu; exact nm mu
  refine ⟨fun b u q n _ _ => k b u (hb b n) q, fun b u q n _ _ => ⟨u.slots, k b u (hb b n) q⟩, fun b u q n _ => by rw [upd_ne (hx b n)]; exact n, fun b u q _ => ?_,
    fun b xs q => by rw [upd_ne (hm b _ q fun z => z)]; exact q, fun b u xs q => by rw [upd_ne (hm b _ q fun z => z)]; exact q, fun b ps q => ⟨#[], by rw [upd_ne (hm b _ q fun z => z), q]; simp⟩⟩
  by_cases hbe : b = e
  · subst hbe; exact heo
  · exact ⟨u, k b u hbe q⟩
end
def trk (h : Heap) (H : Hp) : List Addr := (List.range h.objs.size).filter fun a => (H a).isSome
def hidT (h : Heap) (H : Hp) : Heap := PySem.W.hideAll h (trk h H)
theorem hidT_size (h : Heap) (H : Hp) : (hidT h H).objs.size = h.objs.size := PySem.W.hideAll_size _ _
theorem hidT_get {h : Heap} {H : Hp} {b : Addr} {o : Obj} (e : h.get? b = some o) (n : H b = none) : (hidT h H).get? b = some o :=
  PySem.W.hideAll_get _ e fun hm => by
    have q : (H b).isSome = true := (List.mem_filter.mp hm).2
    rw [n] at q; simp at q
theorem of_hidT {h : Heap} {H : Hp} {b : Addr} {o : Obj} (e : (hidT h H).get? b = some o) : h.get? b = some o ∧ H b = none := by
  have e' : h.get? b = some o := PySem.W.of_hideAll (trk h H) e
  refine ⟨e', ?_⟩
  cases q : H b with
  | none => rfl
  | some x =>
    have hm : b ∈ trk h H := List.mem_filter.mpr ⟨List.mem_range.mpr (Heap.lt_size e'), by simp [q]⟩
    have z : (hidT h H).get? b = none := PySem.W.hideAll_none (trk h H) hm
    rw [z] at e; cases e
end L2
namespace L2
open PySem PySem.Spec PyProof.Rows
structure Mod (K : PySem.W.Frag) (mg : Str → Option Value) (base : Heap) : Prop where
  kin : K.In base
  glob : base.Ns mainGlobals mg
  blt : ∃ mb, base.Ns builtinsNs mb ∧ ∀ x : Str, x ≠ "__name__" → mb x = bootBuiltins x
  nolimit : base.NoLimit
structure Cx where
  prog : Program
  w : World
  K : PySem.W.Frag
  mg : Str → Option Value
  base : Heap
  A : Around
  N : List Str
  s₀ : Shared
  H₀ : Hp
  env : Env
  outer : List Env
  stack : List Env
  ex : List Addr
  fn : Str → Bool
  calm : Bool
  pn : List (Addr × Obj)
  xe : Value → Shared → Prop
def frs (l : List Env) : List Addr := l.filterMap (·.frame)
abbrev Cx.fs (X : Cx) : List Addr := frs X.outer
def Vis (sc : Scope) (x : Str) : Prop := sc.names.lookup x = some .local ∨ sc.names.lookup x = some .cell ∨ sc.names.lookup x = some .free
def Loc (sc : Scope) (x : Str) : Prop := sc.names.lookup x = some .local ∨ sc.names.lookup x = some .cell
def Look (env : Env) (h : Heap) (m : Str → Option Value) (x : Str) (u : Value) : Prop :=
  (env.kindOf x = some .local ∧ m x = some u) ∨ ((env.kindOf x = some .cell ∨ env.kindOf x = some .free) ∧ ∃ c, env.cells.lookup x = some c ∧ h.IsCell c (some u))
structure Cx.Ok (X : Cx) : Prop where
  mod : Mod X.K X.mg X.base
  kind : X.env.scope.kind = .function
  glob : X.env.globals = mainGlobals
  blt : X.env.builtins = builtinsNs
  above : X.s₀.heap.objs.size ≤ X.env.locals
  inj : ∀ x y c, X.env.cells.lookup x = some c → X.env.cells.lookup y = some c → x = y
  has : ∀ x, (X.env.kindOf x = some .cell ∨ X.env.kindOf x = some .free) → ∃ c, X.env.cells.lookup x = some c
  cab : ∀ x c, X.fn x = true → X.env.cells.lookup x = some c → X.s₀.heap.objs.size ≤ c
  hd : X.calm = true → X.A.handled = none
  frames : X.A.frames = some X.stack
  stk : X.stack = X.outer ∨ (X.stack = X.env :: X.outer ∧ X.env.frame = some X.env.locals)
  exf : ∀ b ∈ X.ex, b ≠ X.env.locals ∧ ∀ x c, X.env.cells.lookup x = some c → c ≠ b
  bs : ∀ b o, X.base.get? b = some o → X.s₀.heap.get? b = some o ∧ X.H₀ b = none
  bsz : X.base.objs.size ≤ X.s₀.heap.objs.size
  noex : ∀ b o, X.base.get? b = some o → b ∉ X.ex
  exfs : ∀ b ∈ X.ex, b ∉ X.fs
  funs : X.s₀.heap.FunFrames X.base X.outer
  frf : ∀ b ∈ X.fs, X.H₀ b = none
structure Inv (X : Cx) (pins : List (Addr × Obj)) (σ : List (Option V)) (H : Hp) (s : Shared) : Prop where
  ok : X.Ok
  os : s.os = X.s₀.os
  bare : AllBare s.gens
  base : Un X.fs X.ex X.H₀ H X.s₀.heap s.heap
  loc : ∃ m, s.heap.Ns X.env.locals m ∧ ∀ (i : Nat) (x : Str) (v : V), X.N[i]? = some x → σ[i]? = some (some v) → Vis X.env.scope x → ∃ u, RelV v u ∧ Look X.env s.heap m x u
  cell : ∀ x c, X.env.cells.lookup x = some c → ∃ v, s.heap.IsCell c v
  free : H X.env.locals = none
  freeC : ∀ x c, X.env.cells.lookup x = some c → H c = none
  pin : ∀ p ∈ X.pn ++ pins, s.heap.get? p.1 = some p.2 ∧ H p.1 = none ∧ p.1 ≠ X.env.locals ∧ p.1 ∉ X.fs ∧ ∀ v, p.2.data ≠ .cell v
  hok : HOk X.prog X.w H s.heap
  len : σ.length = X.N.length
section
variable {X : Cx} {pins : List (Addr × Obj)} {σ : List (Option V)} {H H' : Hp} {s : Shared} {h' : Heap}
theorem Cx.Ok.nofr (ok : X.Ok) {b : Addr} {o : Obj} (e : X.base.get? b = some o) : b ∉ X.fs := fun hb => by
  have := (ok.funs.mem hb).1
  rw [e] at this; cases this
theorem Inv.bs (I : Inv X pins σ H s) : ∀ b o, X.base.get? b = some o → s.heap.get? b = some o ∧ H b = none := fun b o e =>
  ⟨I.base.keep b o (I.ok.bs b o e).1 (I.ok.bs b o e).2 (I.ok.nofr e) (I.ok.noex b o e), I.base.free b o (I.ok.bs b o e).1 (I.ok.bs b o e).2 (I.ok.noex b o e)⟩
theorem Inv.bk (I : Inv X pins σ H s) : ∀ b o, X.base.get? b = some o → s.heap.get? b = some o := fun b o e => (I.bs b o e).1
theorem Inv.mod (I : Inv X pins σ H s) : Mod X.K X.mg X.base := I.ok.mod
theorem Inv.kIn (I : Inv X pins σ H s) : X.K.In s.heap := I.ok.mod.kin.keeps I.bk
theorem Inv.lt (I : Inv X pins σ H s) : X.env.locals < s.heap.objs.size := let ⟨_, hn, _⟩ := I.loc; hn.lt
theorem Inv.sz (I : Inv X pins σ H s) : X.s₀.heap.objs.size ≤ s.heap.objs.size := Nat.le_trans I.ok.above (Nat.le_of_lt I.lt)
theorem Inv.nofs (I : Inv X pins σ H s) {a : Addr} (h : s.heap.objs.size ≤ a) : a ∉ X.fs := fun hb => by
  obtain ⟨_, o, ho, _⟩ := I.ok.funs.mem hb
  exact absurd (Nat.lt_of_lt_of_le (Heap.lt_size ho) (Nat.le_trans I.sz h)) (Nat.lt_irrefl _)
theorem Inv.cne (I : Inv X pins σ H s) : ∀ x c, X.env.cells.lookup x = some c → c ≠ X.env.locals := fun x c e z => by
  obtain ⟨v, o, ho, hd⟩ := I.cell x c e
  obtain ⟨m, ⟨o', es, ep, ho', hd', _⟩, _⟩ := I.loc
  rw [z, ho'] at ho; cases ho; rw [hd'] at hd; cases hd
theorem Inv.funs (I : Inv X pins σ H s) : s.heap.FunFrames X.base X.outer := by
  have all : ∀ (l : List Env), (∀ b ∈ frs l, b ∈ X.fs) → X.s₀.heap.FunFrames X.base l → s.heap.FunFrames X.base l := by
    intro l
    induction l with
    | nil => intro _ _; trivial
    | cons env r ih =>
      intro hs hl
      obtain ⟨hk, ⟨L, o, hf, hn, ho, hd⟩, hr⟩ := hl
      have hL : L ∈ X.fs := hs L (by unfold frs; rw [List.filterMap_cons, hf]; exact List.mem_cons_self)
      obtain ⟨sl, e⟩ := I.base.slot L o ho (I.ok.frf L hL) hL fun z => I.ok.exfs L z hL
      exact ⟨hk, ⟨L, _, hf, hn, e, hd⟩, ih (fun b hb => hs b (by unfold frs; rw [List.filterMap_cons, hf]; exact List.mem_cons_of_mem _ hb)) hr⟩
  exact all X.outer (fun _ hb => hb) I.ok.funs
theorem Inv.stack (I : Inv X pins σ H s) : s.heap.FunFrames X.base X.stack := by
  rcases I.ok.stk with e | ⟨e, hf⟩
  · rw [e]; exact I.funs
  · rw [e]
    obtain ⟨m, hn, _⟩ := I.loc
    refine .cons (by rw [I.ok.kind]; decide) hf hn ?_ I.funs
    exact Heap.get?_none_of_le (Nat.le_trans I.ok.bsz I.ok.above)
theorem Inv.stkSub (I : Inv X pins σ H s) : ∀ b ∈ frs X.stack, b ∈ X.env.locals :: X.fs := fun b hb => by
  rcases I.ok.stk with e | ⟨e, hf⟩
  · rw [e] at hb; exact List.mem_cons_of_mem _ hb
  · rw [e] at hb
    unfold frs at hb
    rw [List.filterMap_cons, hf] at hb
    exact hb
theorem Inv.stkFree (I : Inv X pins σ H s) : ∀ b ∈ frs X.stack, H b = none := fun b hb => by
  rcases List.mem_cons.mp (I.stkSub b hb) with e | hb
  · rw [e]; exact I.free
  · obtain ⟨_, o, ho, _⟩ := I.ok.funs.mem hb
    exact I.base.free b o ho (I.ok.frf b hb) fun z => I.ok.exfs b z hb
theorem Inv.step {g' : Array GenState} {t' : Nat} {d' : Drawn} {ch : List Addr} (I : Inv X pins σ H s)
    (hch : ∀ b ∈ ch, (b ∈ X.ex ∨ X.s₀.heap.objs.size ≤ b) ∧ b ≠ X.env.locals ∧ (∀ x c, X.env.cells.lookup x = some c → c ≠ b) ∧ ∀ p ∈ X.pn ++ pins, p.1 ≠ b)
    (keep : ∀ b o, b ≠ X.env.locals → b ∉ X.fs → b ∉ ch → s.heap.get? b = some o → H b = none → h'.get? b = some o)
    (slot : ∀ b o, b ≠ X.env.locals → b ∈ X.fs → b ∉ ch → s.heap.get? b = some o → H b = none → ∃ sl, h'.get? b = some { o with slots := sl }) (free : ∀ b o, b ∉ ch → s.heap.get? b = some o → H b = none → H' b = none)
    (there : ∀ b o, b ∉ ch → s.heap.get? b = some o → ∃ o', h'.get? b = some o')
    (tups : ∀ b xs, H b = some (.tup xs) → H' b = some (.tup xs)) (frzs : ∀ b o u, H b = some (.frz o u) → H' b = some (.frz o u)) (tbls : ∀ b ps, H b = some (.tbl ps) → ∃ more, H' b = some (.tbl (ps ++ more)))
    (ns : ∀ m, s.heap.Ns X.env.locals m → h'.Ns X.env.locals m) (hok : HOk X.prog X.w H' h') (hg : AllBare g') :
    Inv X pins σ H' { s with heap := h', gens := g', drawn := d', toks := t' } := by
  have neL : ∀ b o, X.s₀.heap.get? b = some o → b ≠ X.env.locals := fun b o e => Nat.ne_of_lt (Nat.lt_of_lt_of_le (Heap.lt_size e) I.ok.above)
  have neC : ∀ b o, X.s₀.heap.get? b = some o → b ∉ X.ex → b ∉ ch := fun b o e hx hb => by
    rcases (hch b hb).1 with z | z
    · exact hx z
    · exact absurd (Nat.lt_of_lt_of_le (Heap.lt_size e) z) (Nat.lt_irrefl _)
  have cellK : ∀ x c, X.env.cells.lookup x = some c → ∀ v, s.heap.IsCell c v → h'.IsCell c v := fun x c e v ⟨o, ho, hd⟩ => by
    have nch : c ∉ ch := fun z => (hch c z).2.2.1 x c e rfl
    by_cases hc : c ∈ X.fs
    · obtain ⟨sl, q⟩ := slot c o (I.cne x c e) hc nch ho (I.freeC x c e)
      exact ⟨_, q, hd⟩
    · exact ⟨o, keep c o (I.cne x c e) hc nch ho (I.freeC x c e), hd⟩
  refine ⟨I.ok, I.os, hg, ⟨fun b o e n hb hx => ?_, fun b o e n hb hx => ?_, fun b o e n hx => ?_, fun b o e hx => ?_, fun b xs e => tups b xs (I.base.tups b xs e), fun b o xs e => frzs b o xs (I.base.frzs b o xs e), fun b ps e => ?_⟩, ?_, fun x c e => ?_, ?_, fun x c e => ?_, fun p hp => ?_, hok, I.len⟩
  · exact keep b o (neL b o e) hb (neC b o e hx) (I.base.keep b o e n hb hx) (I.base.free b o e n hx)
  · obtain ⟨sl, e1⟩ := I.base.slot b o e n hb hx
    obtain ⟨sl', e2⟩ := slot b _ (neL b o e) hb (neC b o e hx) e1 (I.base.free b o e n hx)
    exact ⟨sl', e2⟩
  · obtain ⟨o', e1⟩ := I.base.there b o e hx
    exact free b o' (neC b o e hx) e1 (I.base.free b o e n hx)
  · obtain ⟨o', e1⟩ := I.base.there b o e hx
    exact there b o' (neC b o e hx) e1
  · obtain ⟨m1, e1⟩ := I.base.tbls b ps e
    obtain ⟨m2, e2⟩ := tbls b _ e1
    exact ⟨m1 ++ m2, by rw [e2, Array.append_assoc]⟩
  · obtain ⟨m, hn, hl⟩ := I.loc
    refine ⟨m, ns m hn, fun i x v e1 e2 e3 => ?_⟩
    obtain ⟨u, r, l⟩ := hl i x v e1 e2 e3
    refine ⟨u, r, ?_⟩
    rcases l with l | ⟨k, c, e, z⟩
    · exact .inl l
    · exact .inr ⟨k, c, e, cellK x c e _ z⟩
  · obtain ⟨v, z⟩ := I.cell x c e
    exact ⟨v, cellK x c e v z⟩
  · obtain ⟨m, ⟨o, _, _, ho, _⟩, _⟩ := I.loc
    exact free _ o (fun z => (hch _ z).2.1 rfl) ho I.free
  · obtain ⟨v, o, ho, hd⟩ := I.cell x c e
    exact free c o (fun z => (hch c z).2.2.1 x c e rfl) ho (I.freeC x c e)
  · obtain ⟨e, n, ne, nf, d⟩ := I.pin p hp
    have nch : p.1 ∉ ch := fun z => (hch p.1 z).2.2.2 p hp rfl
    exact ⟨keep p.1 p.2 ne nf nch e n, free p.1 p.2 nch e n, ne, nf, d⟩
theorem Inv.un {t' : Nat} (I : Inv X pins σ H s) (u : Un X.fs [] H H' s.heap h') (hok : HOk X.prog X.w H' h') : Inv X pins σ H' { s with heap := h', toks := t' } := by
  obtain ⟨m, ⟨o, es, ep, ho, r⟩, _⟩ := id I.loc
  obtain ⟨sl, hL⟩ := u.any ho I.free (by simp)
  exact I.step (g' := s.gens) (d' := s.drawn) (ch := []) (fun _ z => nomatch z) (fun b o _ hb _ e n => u.keep b o e n hb (by simp)) (fun b o _ hb _ e n => u.slot b o e n hb (by simp)) (fun b o _ e n => u.free b o e n (by simp)) (fun b o _ e => u.there b o e (by simp)) u.tups u.frzs u.tbls (fun m' hm => by
    obtain ⟨o', es', ep', ho', r'⟩ := hm
    rw [ho] at ho'; cases ho'
    exact ⟨_, es', ep', hL, r'⟩) hok I.bare
theorem Inv.call {g' : Array GenState} {t' : Nat} {d' : Drawn} {ch : List Addr} (I : Inv X pins σ H s) (u : Un (frs X.stack) ch H H' s.heap h') (hok : HOk X.prog X.w H' h') (hg : AllBare g')
    (hch : ∀ b ∈ ch, (b ∈ X.ex ∨ X.s₀.heap.objs.size ≤ b) ∧ b ≠ X.env.locals ∧ (∀ x c, X.env.cells.lookup x = some c → c ≠ b) ∧ ∀ p ∈ X.pn ++ pins, p.1 ≠ b) :
    Inv X pins σ H' { s with heap := h', gens := g', drawn := d', toks := t' } := by
  obtain ⟨m, ⟨o, es, ep, ho, r⟩, _⟩ := id I.loc
  obtain ⟨sl, hL⟩ := u.any ho I.free fun z => (hch _ z).2.1 rfl
  exact I.step (ch := ch) hch (fun b o hL hb hc e n => u.keep b o e n (fun z => (List.mem_cons.mp (I.stkSub b z)).elim hL hb) hc) (fun b o _ _ hc e n => u.any e n hc) (fun b o hc e n => u.free b o e n hc) (fun b o hc e => u.there b o e hc) u.tups u.frzs u.tbls (fun m' hm => by
    obtain ⟨o', es', ep', ho', r'⟩ := hm
    rw [ho] at ho'; cases ho'
    exact ⟨_, es', ep', hL, r'⟩) hok hg
theorem Inv.turned {t' : Nat} {it : Addr} (I : Inv X pins σ H s) (k : ∀ b o, b ≠ it → s.heap.get? b = some o → h'.get? b = some o) (hn : H it = none) (hL : it ≠ X.env.locals)
    (h1 : it ∈ X.ex ∨ X.s₀.heap.objs.size ≤ it) (h2 : ∀ x c, X.env.cells.lookup x = some c → c ≠ it) (h3 : ∀ p ∈ X.pn ++ pins, p.1 ≠ it) : Inv X pins σ H { s with heap := h', toks := t' } := by
  have nit : ∀ b u, H b = some u → b ≠ it := fun b u e z => by rw [z, hn] at e; cases e
  refine I.step (g' := s.gens) (d' := s.drawn) (ch := [it]) (fun b hb => ?_) (fun b o _ _ hc e _ => k b o (fun z => hc (by simp [z])) e) (fun b o _ _ hc e _ => ⟨o.slots, k b o (fun z => hc (by simp [z])) e⟩) (fun _ _ _ _ n => n)
    (fun b o hc e => ⟨o, k b o (fun z => hc (by simp [z])) e⟩) (fun _ _ e => e) (fun _ _ _ e => e) (fun b ps e => ⟨#[], by rw [e]; simp⟩) (fun m hm => ?_) (fun b u e => ?_) I.bare
  · have e : b = it := by simpa using hb
    subst e
    exact ⟨h1, hL, h2, h3⟩
  · obtain ⟨o, es, ep, ho, r⟩ := hm
    exact ⟨o, es, ep, k _ o (Ne.symm hL) ho, r⟩
  · refine (I.hok b u e).stay (fun c v hc q => k c v ?_ q) (fun _ q => q) fun _ _ q => q
    rcases hc with z | z
    · rw [z]; exact nit b u e
    · exact nit c _ z
theorem Inv.tok (I : Inv X pins σ H s) (t : Nat) : Inv X pins σ H { s with toks := t } := I.un (h' := s.heap) (t' := t) Un.refl I.hok
theorem Inv.kept {t' : Nat} (I : Inv X pins σ H s) (k : ∀ b u, s.heap.get? b = some u → h'.get? b = some u) : Inv X pins σ H { s with heap := h', toks := t' } := I.un (Un.kept k) (I.hok.kept k)
theorem Inv.laid {a : Addr} {o : HO} {t' : Nat} (I : Inv X pins σ H s) (k : ∀ b u, s.heap.get? b = some u → h'.get? b = some u) (hp : s.heap.objs.size ≤ a) (new : ObjOk X.prog X.w (upd H a o) h' a o) :
    Inv X pins σ (upd H a o) { s with heap := h', toks := t' } := I.un (Un.laid k hp (I.hok.fresh hp)) (I.hok.laid k hp new)
theorem Inv.write {x e : Addr} {o : HO} {t' : Nat} (I : Inv X pins σ H s) (mu : Mut (H x)) (he : e = x ∨ H e = some (.own x)) (k : ∀ b u, b ≠ e → s.heap.get? b = some u → h'.get? b = some u) (heo : ∃ u, h'.get? e = some u)
    (new : ObjOk X.prog X.w (upd H x o) h' x o) : Inv X pins σ (upd H x o) { s with heap := h', toks := t' } := I.un (Un.write mu he k heo) (I.hok.write mu he k heo new)
theorem Inv.pins_of {pins' : List (Addr × Obj)} (I : Inv X pins σ H s) (h : ∀ p ∈ pins', s.heap.get? p.1 = some p.2 ∧ H p.1 = none ∧ p.1 ≠ X.env.locals ∧ p.1 ∉ X.fs ∧ ∀ v, p.2.data ≠ .cell v) : Inv X pins' σ H s :=
  ⟨I.ok, I.os, I.bare, I.base, I.loc, I.cell, I.free, I.freeC, fun p hp => (List.mem_append.mp hp).elim (fun z => I.pin p (List.mem_append_left _ z)) (h p), I.hok, I.len⟩
theorem nodup_ix {N : List Str} (hN : N.Nodup) {i j : Nat} {x : Str} (a : N[i]? = some x) (b : N[j]? = some x) : i = j := by
  obtain ⟨h1, e1⟩ := List.getElem?_eq_some_iff.mp a
  obtain ⟨h2, e2⟩ := List.getElem?_eq_some_iff.mp b
  exact (List.getElem_inj hN).mp (e1.trans e2.symm)
theorem store_ok2 {M : Model} {A : Around} {E : Value → Shared → Prop} {i : Nat} {x : Str} {v : V} {u : Value} {Q : Unit → Shared → Prop} (I : Inv X pins σ H s) (hN : X.N.Nodup) (hi : X.N[i]? = some x) (hx : Loc X.env.scope x) (r : RelV v u)
    (h : ∀ s', Inv X pins (σ.set i (some v)) H s' → (∃ a, Heap.SameBut a s.heap s'.heap ∧ (a = X.env.locals ∨ X.env.cells.lookup x = some a)) → Q () s') (hf : X.fn x = true ∨ X.env.scope.names.lookup x = some .local := by first | exact .inl rfl | exact .inr rfl | assumption) : wpAny M A (storeName X.env x u) Q E s := by
  obtain ⟨m, hn, hl⟩ := id I.loc
  have hcls : (X.env.scope.kind == .class || (X.env.scope.kind == .module && X.env.locals != X.env.globals)) = false := by rw [I.ok.kind]; rfl
  have hiσ : i < σ.length := by rw [I.len]; exact (List.getElem?_eq_some_iff.mp hi).1
  have cne := I.cne
  have tracked : ∀ {a : Addr} {h' : Heap}, (∃ o, s.heap.get? a = some o ∧ H a = none) → Heap.SameBut a s.heap h' → HOk X.prog X.w H h' := fun {a h'} ha hs b ob e => by
    obtain ⟨_, _, hfree⟩ := ha
    refine (I.hok b ob e).stay (fun c w' hc q => (hs.2 c ?_).trans q) (fun _ q => q) fun _ _ q => q
    rintro rfl
    rcases hc with rfl | hc
    · rw [hfree] at e; cases e
    · rw [hfree] at hc; cases hc
  rcases hx with hk | hk
  · refine wpAny_storeName_local hk hn (fun h' hn' hs => ?_) hcls
    obtain ⟨oL, _, _, hoL, _⟩ := id hn
    refine h _ ⟨I.ok, I.os, I.bare, ⟨fun b o e n hb hx => ?_, fun b o e n hb hx => ?_, I.base.free, fun b o e hx => ?_, I.base.tups, I.base.frzs, I.base.tbls⟩, ⟨_, hn', fun j y v' e1 e2 e3 => ?_⟩, fun y c e => ?_, I.free, I.freeC, fun p hp => ?_, tracked ⟨oL, hoL, I.free⟩ hs, by simpa using I.len⟩ ⟨_, hs, .inl rfl⟩
    · exact (hs.2 b (Nat.ne_of_lt (Nat.lt_of_lt_of_le (Heap.lt_size e) I.ok.above))).trans (I.base.keep b o e n hb hx)
    · obtain ⟨sl, e1⟩ := I.base.slot b o e n hb hx
      exact ⟨sl, (hs.2 b (Nat.ne_of_lt (Nat.lt_of_lt_of_le (Heap.lt_size e) I.ok.above))).trans e1⟩
    · obtain ⟨o', e1⟩ := I.base.there b o e hx
      exact ⟨o', (hs.2 b (Nat.ne_of_lt (Nat.lt_of_lt_of_le (Heap.lt_size e) I.ok.above))).trans e1⟩
    · by_cases hj : j = i
      · subst hj
        rw [hi] at e1; cases e1
        rw [List.getElem?_set_self hiσ] at e2
        cases e2
        exact ⟨u, r, .inl ⟨hk, by simp⟩⟩
      · rw [List.getElem?_set_ne (Ne.symm hj)] at e2
        obtain ⟨u', r', q⟩ := hl j y v' e1 e2 e3
        refine ⟨u', r', ?_⟩
        rcases q with ⟨k, e⟩ | ⟨k, c, e, z⟩
        · refine .inl ⟨k, ?_⟩
          have : y ≠ x := fun e => hj (nodup_ix hN e1 (e ▸ hi))
          simp [this, e]
        · exact .inr ⟨k, c, e, z.sameBut hs (cne y c e)⟩
    · obtain ⟨w', z⟩ := I.cell y c e
      exact ⟨w', z.sameBut hs (cne y c e)⟩
    · obtain ⟨e, n, ne, nf, d⟩ := I.pin p hp
      exact ⟨(hs.2 p.1 ne).trans e, n, ne, nf, d⟩
  · have hfn : X.fn x = true := by
      rcases hf with z | z
      · exact z
      · rw [z] at hk; cases hk
    obtain ⟨c, hc⟩ := I.ok.has x (.inl hk)
    obtain ⟨w', z⟩ := I.cell x c hc
    refine wpAny_storeName_cell I.ok.kind hk hc z (fun h' hc' hs => ?_)
    obtain ⟨oc, hoc, hocd⟩ := id z
    refine h { s with heap := h' } ⟨I.ok, I.os, I.bare, ⟨fun b o e n hb hx => ?_, fun b o e n hb hx => ?_, I.base.free, fun b o e hx => ?_, I.base.tups, I.base.frzs, I.base.tbls⟩, ⟨m, hn.sameBut hs (Ne.symm (cne x c hc)), fun j y v' e1 e2 e3 => ?_⟩, fun y c' e => ?_, I.free, I.freeC, fun p hp => ?_, tracked ⟨oc, hoc, I.freeC x c hc⟩ hs, by simpa using I.len⟩ ⟨c, hs, .inr hc⟩
    · exact (hs.2 b (Nat.ne_of_lt (Nat.lt_of_lt_of_le (Heap.lt_size e) (I.ok.cab x c hfn hc)))).trans (I.base.keep b o e n hb hx)
    · obtain ⟨sl, e1⟩ := I.base.slot b o e n hb hx
      exact ⟨sl, (hs.2 b (Nat.ne_of_lt (Nat.lt_of_lt_of_le (Heap.lt_size e) (I.ok.cab x c hfn hc)))).trans e1⟩
    · obtain ⟨o', e1⟩ := I.base.there b o e hx
      exact ⟨o', (hs.2 b (Nat.ne_of_lt (Nat.lt_of_lt_of_le (Heap.lt_size e) (I.ok.cab x c hfn hc)))).trans e1⟩
    · by_cases hj : j = i
      · subst hj
        rw [hi] at e1; cases e1
        rw [List.getElem?_set_self hiσ] at e2
        cases e2
        exact ⟨u, r, .inr ⟨.inl hk, c, hc, hc'⟩⟩
      · rw [List.getElem?_set_ne (Ne.symm hj)] at e2
        obtain ⟨u', r', q⟩ := hl j y v' e1 e2 e3
        refine ⟨u', r', ?_⟩
        rcases q with q | ⟨k, c', e, z'⟩
        · exact .inl q
        · refine .inr ⟨k, c', e, z'.sameBut hs ?_⟩
          rintro rfl
          exact hj (nodup_ix hN e1 (I.ok.inj _ _ _ e hc ▸ hi))
    · by_cases hcc : c' = c
      · subst hcc; exact ⟨_, hc'⟩
      · obtain ⟨w2, z2⟩ := I.cell y c' e
        exact ⟨w2, z2.sameBut hs hcc⟩
    · obtain ⟨e, n, ne, nf, d⟩ := I.pin p hp
      refine ⟨(hs.2 p.1 ?_).trans e, n, ne, nf, d⟩
      intro q
      rw [q, hoc] at e
      have q' : oc = p.2 := Option.some.inj e
      exact d w' (by rw [← q']; exact hocd)
theorem store_ok {M : Model} {A : Around} {E : Value → Shared → Prop} {i : Nat} {x : Str} {v : V} {u : Value} {Q : Unit → Shared → Prop} (I : Inv X pins σ H s) (hN : X.N.Nodup) (hi : X.N[i]? = some x) (hx : Loc X.env.scope x) (r : RelV v u)
    (h : ∀ s', Inv X pins (σ.set i (some v)) H s' → Q () s') (hf : X.fn x = true ∨ X.env.scope.names.lookup x = some .local := by first | exact .inl rfl | exact .inr rfl | assumption) : wpAny M A (storeName X.env x u) Q E s :=
  store_ok2 I hN hi hx r (fun s' I' _ => h s' I') hf
theorem Inv.call' {s' : Shared} {ch : List Addr} (I : Inv X pins σ H s) (ho : s'.os = s.os) (u : Un (frs X.stack) ch H H' s.heap s'.heap) (hok : HOk X.prog X.w H' s'.heap) (hg : AllBare s'.gens)
    (hch : ∀ b ∈ ch, (b ∈ X.ex ∨ X.s₀.heap.objs.size ≤ b) ∧ b ≠ X.env.locals ∧ (∀ x c, X.env.cells.lookup x = some c → c ≠ b) ∧ ∀ p ∈ X.pn ++ pins, p.1 ≠ b) : Inv X pins σ H' s' := by
  obtain ⟨h', g', d', t', o'⟩ := s'
  have e : o' = s.os := ho
  subst e
  exact I.call (g' := g') (t' := t') (d' := d') u hok hg hch
end
abbrev XK := Value → Option Addr → Hp → Prop
abbrev St := List (Option V)
abbrev VK := V → Hp → Prop
abbrev TE := St → Hp → VK → Prop
abbrev TT := St → Hp → (Bool → Hp → Prop) → Prop
abbrev TA := St → Hp → (List V → Hp → Prop) → Prop
structure Ends where
  nx : St → Hp → Prop
  rt : VK
  bk : St → Hp → Prop := fun _ _ => False
  ct : St → Hp → Prop := fun _ _ => False
abbrev TS := Ends → St → Hp → Prop
def EP (X : Cx) (pins : List (Addr × Obj)) (σ : St) (Q : VK) (u : Value) (s' : Shared) : Prop := ∃ v H', Inv X pins σ H' s' ∧ RelV v u ∧ Q v H'
def TP (X : Cx) (pins : List (Addr × Obj)) (σ : St) (Q : Bool → Hp → Prop) (b : Bool) (s' : Shared) : Prop := ∃ H', Inv X pins σ H' s' ∧ Q b H'
def AP (X : Cx) (pins : List (Addr × Obj)) (σ : St) (Q : List V → Hp → Prop) (us : List Value) (s' : Shared) : Prop := ∃ vs H', Inv X pins σ H' s' ∧ Vals vs us ∧ Q vs H'
def SP (X : Cx) (pins : List (Addr × Obj)) (D : Ends) (f : Flow) (s' : Shared) : Prop :=
  match f with
  | .next => ∃ σ' H', Inv X pins σ' H' s' ∧ D.nx σ' H'
  | .brk => ∃ σ' H', Inv X pins σ' H' s' ∧ D.bk σ' H'
  | .cont => ∃ σ' H', Inv X pins σ' H' s' ∧ D.ct σ' H'
  | .ret u => ∃ v σ' H', Inv X pins σ' H' s' ∧ RelV v u ∧ D.rt v H'
def PE (X : Cx) (e : Expr) (t : TE) : Prop :=
  ∀ (pins : List (Addr × Obj)) (s : Shared) (σ : St) (H : Hp) (Q : VK), Inv X pins σ H s → t σ H Q → wpAny (model X.prog X.w) X.A (eval e X.env) (EP X pins σ Q) X.xe s
def PT (X : Cx) (e : Expr) (t : TT) : Prop :=
  ∀ (pins : List (Addr × Obj)) (s : Shared) (σ : St) (H : Hp) (Q : Bool → Hp → Prop), Inv X pins σ H s → t σ H Q → wpAny (model X.prog X.w) X.A (isTrue e X.env (eval e X.env)) (TP X pins σ Q) X.xe s
def PW (X : Cx) (e : Expr) (t : TT) : Prop :=
  ∀ (whole : Sem Value) (pins : List (Addr × Obj)) (s : Shared) (σ : St) (H : Hp) (Q : Bool → Hp → Prop), Inv X pins σ H s → t σ H Q → wpAny (model X.prog X.w) X.A (isTrue e X.env whole) (TP X pins σ Q) X.xe s
theorem PW.pt {X : Cx} {e : Expr} {t : TT} (h : PW X e t) : PT X e t := h _
def PA (X : Cx) (es : List Expr) (t : TA) : Prop :=
  ∀ (pos : Pos) (pins : List (Addr × Obj)) (s : Shared) (σ : St) (H : Hp) (Q : List V → Hp → Prop), Inv X pins σ H s → t σ H Q → wpAny (model X.prog X.w) X.A (spliced (backTo pos (starEach es X.env))) (AP X pins σ Q) X.xe s
def PS (X : Cx) (st : Stmt) (t : TS) : Prop :=
  ∀ (pins : List (Addr × Obj)) (s : Shared) (σ : St) (H : Hp) (D : Ends), Inv X pins σ H s → t D σ H → wpAny (model X.prog X.w) X.A (exec st X.env) (SP X pins D) X.xe s
def PSs (X : Cx) (st : List Stmt) (t : TS) : Prop :=
  ∀ (pins : List (Addr × Obj)) (s : Shared) (σ : St) (H : Hp) (D : Ends), Inv X pins σ H s → t D σ H → wpAny (model X.prog X.w) X.A (execs st X.env) (SP X pins D) X.xe s
theorem thn {α : Type} {t : Sem α} {Q Q' : α → Shared → Prop} {M : Model} {A : Around} {E : Value → Shared → Prop} {s : Shared} (h : wpAny M A t Q E s) (hQ : ∀ a s, Q a s → Q' a s) : wpAny M A t Q' E s := wpAny_mono h hQ fun _ _ x => x
end L2
namespace L2
open PySem PySem.Spec PyProof.Rows
section
variable {X : Cx}
def tVar (i : Nat) : TE := fun σ H Q => ∃ v, σ[i]? = some (some v) ∧ Q v H
def tC (v : V) : TE := fun _ H Q => Q v H
theorem pe_var {i : Nat} {x : Str} {pos : Pos} (hN : X.N[i]? = some x) (hv : Vis X.env.scope x) (hd : (x == ("__debug__" : Str)) = false := by decide) (hcd : (x == ("__classdict__" : Str)) = false := by decide) : PE X (.Name x pos) (tVar i) := by
  intro pins s σ H Q I h
  obtain ⟨v, e, h⟩ := h
  obtain ⟨m, hn, hl⟩ := I.loc
  obtain ⟨u, r, l⟩ := hl i x v hN e hv
  have fin : EP X pins σ Q u s := ⟨v, H, I, r, h⟩
  rcases l with ⟨hk, hm⟩ | ⟨hk, c, hc, hcell⟩
  · exact wpAny_Name (wpAny_loadName_local I.ok.kind hk hn hm fin) hd
  · rcases hk with hk | hk
    · exact wpAny_Name (wpAny_loadName_cell I.ok.kind hk hc hcell fin) hd
    · exact wpAny_Name (wpAny_loadName_free I.ok.kind hk hc hcell fin hcd) hd
theorem pe_int {i j pos} : PE X (.Constant (.int i) j pos) (tC (.int i)) := fun _ _ _ H _ I h => wpAny_Constant_int ⟨.int i, H, I.tok _, ⟨_, rfl⟩, h⟩
theorem pe_bl {b j pos} : PE X (.Constant (.bool b) j pos) (tC (.bl b)) := fun _ _ _ H _ I h => Constant_bool ⟨.bl b, H, I, rfl, h⟩
theorem pe_str {x j pos} : PE X (.Constant (.str x) j pos) (tC (.str x)) := fun _ _ _ H _ I h => Calls.Constant_str ⟨.str x, H, I.tok _, ⟨_, rfl⟩, h⟩
def Gl (X : Cx) (x : Str) : Prop := X.env.kindOf x = some .globalImplicit
theorem ld_glob {E : Value → Shared → Prop} {pins : List (Addr × Obj)} {s : Shared} {σ : St} {H : Hp} {x : Str} {u : Value} {pos : Pos} {Q : Value → Shared → Prop} (I : Inv X pins σ H s) (hg : Gl X x) (hm : X.mg x = some u) (h : Q u s)
    (hd : (x == ("__debug__" : Str)) = false := by decide) : wpAny (model X.prog X.w) X.A (eval (.Name x pos) X.env) Q E s :=
  Calls.Name_function_global I.ok.kind hg (Calls.loadGlobal_global (by rw [I.ok.glob]; exact I.mod.glob.keeps I.bk) hm h) hd
theorem ld_blt {E : Value → Shared → Prop} {pins : List (Addr × Obj)} {s : Shared} {σ : St} {H : Hp} {x : Str} {u : Value} {pos : Pos} {Q : Value → Shared → Prop} (I : Inv X pins σ H s) (hg : Gl X x) (hm : X.mg x = none) (hv : bootBuiltins x = some u) (h : Q u s)
    (hn : x ≠ "__name__" := by decide) (hd : (x == ("__debug__" : Str)) = false := by decide) : wpAny (model X.prog X.w) X.A (eval (.Name x pos) X.env) Q E s := by
  obtain ⟨mb, h1, h2⟩ := I.mod.blt
  exact Calls.Name_function_global I.ok.kind hg (Calls.loadGlobal_builtin (by rw [I.ok.glob]; exact I.mod.glob.keeps I.bk) hm (by rw [I.ok.blt]; exact h1.keeps I.bk) ((h2 x hn).trans hv) h) hd
theorem pe_glob {x : Str} {v : V} {u : Value} {pos : Pos} (hg : Gl X x) (hm : X.mg x = some u) (r : RelV v u) (hd : (x == ("__debug__" : Str)) = false := by decide) : PE X (.Name x pos) (tC v) :=
  fun _ _ _ H _ I h => ld_glob I hg hm ⟨v, H, I, r, h⟩ hd
theorem pe_bltn {x : Str} {v : V} {u : Value} {pos : Pos} (hg : Gl X x) (hm : X.mg x = none) (hv : bootBuiltins x = some u) (r : RelV v u) (hn : x ≠ "__name__" := by decide) (hd : (x == ("__debug__" : Str)) = false := by decide) : PE X (.Name x pos) (tC v) :=
  fun _ _ _ H _ I h => ld_blt I hg hm hv ⟨v, H, I, r, h⟩ hn hd
variable {a b : Expr} {ta tb : TE} {pos : Pos}
def PC (X : Cx) (op : CmpOp) (a b : Expr) (t : TE) : Prop :=
  ∀ (pins : List (Addr × Obj)) (s : Shared) (σ : St) (H : Hp) (Q : VK), Inv X pins σ H s → t σ H Q →
    wpAny (model X.prog X.w) X.A (eval a X.env) (fun v s₁ => wpAny (model X.prog X.w) X.A (eval b X.env) (fun u s₂ => wpAny (model X.prog X.w) X.A (compareOp op v u) (EP X pins σ Q) X.xe s₂) X.xe s₁) X.xe s
def tB (t : TE) : TT := fun σ H Q => t σ H fun x H1 => ∃ c, x = .bl c ∧ Q c H1
theorem pt_cmp {op : CmpOp} {t : TE} (h : PC X op a b t) (h1 : behindInMarks op b = false := by first | exact nobehind _ (by decide) (by decide) | rfl) : PT X (.Compare a [op] [b] pos) (tB t) := by
  intro pins s σ H Q I hw
  refine wpAny_isTrue_Compare1 (thn (h pins s σ H _ I hw) fun v s1 h1 => thn h1 fun u s2 h2 => thn h2 fun c s3 ⟨x, H1, I1, r1, q1⟩ => ?_) h1
  obtain ⟨d, rfl, q⟩ := q1
  cases r1
  exact wpAny_truthy_bool ⟨H1, I1, q⟩
theorem pt_val {e : Expr} {t : TE} (h : PE X e t) (he : ∀ whole, isTrue e X.env whole = (do let v ← whole; standAt e.pos; holding [v] (truthy v)) := by intro _; rfl) : PT X e (tB t) := by
  intro pins s σ H Q I hw
  refine isTrue_plain (thn (h pins s σ H _ I hw) fun v s1 ⟨x, H1, I1, r1, q1⟩ => ?_) (he _)
  obtain ⟨d, rfl, q⟩ := q1
  cases r1
  exact wpAny_truthy_bool ⟨H1, I1, q⟩
variable {tA tB' : TT} {rest : List Expr}
def tAnd (t u : TT) : TT := fun σ H Q => t σ H fun c H1 => if c = true then u σ H1 Q else Q false H1
def tNot (t : TT) : TT := fun σ H Q => t σ H fun c H1 => Q (!c) H1
theorem pw_and1 (ha : PT X a tA) : PW X (.BoolOp .And [a] pos) tA := by
  intro wh pins s σ H Q I h
  refine isTrue_and (thn (ha pins s σ H Q I h) fun c s1 e => ?_)
  cases c with
  | true => exact isTrue_and_nil e
  | false => exact e
theorem pw_and (ha : PT X a tA) (hb : PW X (.BoolOp .And (b :: rest) pos) tB') : PW X (.BoolOp .And (a :: b :: rest) pos) (tAnd tA tB') := by
  intro wh pins s σ H Q I h
  refine isTrue_and (thn (ha pins s σ H _ I h) fun c s1 ⟨H1, I1, q1⟩ => ?_)
  cases c with
  | true => exact hb wh pins s1 σ H1 Q I1 q1
  | false => exact ⟨H1, I1, q1⟩
theorem pt_not (ha : PT X a tA) : PT X (.UnaryOp .Not a pos) (tNot tA) := by
  intro pins s σ H Q I h
  exact isTrue_not (ha pins s σ H (fun c H1 => Q (!c) H1) I h)
def tAndV (ta tb : TE) : TE := fun σ H Q => ta σ H fun x H1 => ∃ c, x = .bl c ∧ if c = true then tb σ H1 Q else Q (.bl false) H1
def tOrV (ta tb : TE) : TE := fun σ H Q => ta σ H fun x H1 => ∃ c, x = .bl c ∧ if c = true then Q (.bl true) H1 else tb σ H1 Q
def tNotV (ta : TE) : TE := fun σ H Q => ta σ H fun x H1 => ∃ c, x = .bl c ∧ Q (.bl (!c)) H1
theorem pe_one {op} {t : TE} (h : PE X a t) : PE X (.BoolOp op [a] pos) t := fun pins s σ H Q I hw => BoolOp_one (h pins s σ H Q I hw)
theorem pe_and (ha : PE X a ta) (hb : PE X (.BoolOp .And (b :: rest) pos) tb) : PE X (.BoolOp .And (a :: b :: rest) pos) (tAndV ta tb) := by
  intro pins s σ H Q I h
  refine BoolOp_and (thn (ha pins s σ H _ I h) fun v s1 ⟨x, H1, I1, r1, q1⟩ => ?_)
  obtain ⟨c, rfl, q1⟩ := q1
  cases r1
  refine wpAny_truthy_bool ?_
  cases c with
  | true => exact hb pins s1 σ H1 Q I1 q1
  | false => exact ⟨.bl false, H1, I1, rfl, q1⟩
theorem pe_or (ha : PE X a ta) (hb : PE X (.BoolOp .Or (b :: rest) pos) tb) : PE X (.BoolOp .Or (a :: b :: rest) pos) (tOrV ta tb) := by
  intro pins s σ H Q I h
  refine BoolOp_or (thn (ha pins s σ H _ I h) fun v s1 ⟨x, H1, I1, r1, q1⟩ => ?_)
  obtain ⟨c, rfl, q1⟩ := q1
  cases r1
  refine wpAny_truthy_bool ?_
  cases c with
  | false => exact hb pins s1 σ H1 Q I1 q1
  | true => exact ⟨.bl true, H1, I1, rfl, q1⟩
theorem pe_not (ha : PE X a ta) : PE X (.UnaryOp .Not a pos) (tNotV ta) := by
  intro pins s σ H Q I h
  refine UnaryOp_ (thn (ha pins s σ H _ I h) fun v s1 ⟨x, H1, I1, r1, q1⟩ => ?_)
  obtain ⟨c, rfl, q1⟩ := q1
  cases r1
  exact not_of (wpAny_truthy_bool ⟨.bl (!c), H1, I1, rfl, q1⟩)
end
end L2
namespace L2
open PySem PySem.Spec PyProof.Rows
def SqL (K : PySem.W.Frag) (H : Hp) (a : Addr) (xs : List V) : Prop :=
  Rd H a (.lst xs) ∨
    ∃ (o : Obj) (its : Array Value) (n : Nat), K.lookup a = some o ∧ o.cls = .type "list" ∧ o.dict = none ∧ o.data = .seq its n ∧ its.size ≤ sizeLine ∧ Vals xs its.toList
def SqT (K : PySem.W.Frag) (H : Hp) (a : Addr) (xs : List V) : Prop :=
  Rd H a (.tup xs) ∨
    ∃ (o : Obj) (its : Array Value) (n : Nat), K.lookup a = some o ∧ o.cls = .type "tuple" ∧ o.data = .seq its n ∧ its.size ≤ sizeLine ∧ Vals xs its.toList
def absV : Value → Option V
  | .none => some .non
  | .bool b => some (.bl b)
  | .int i _ => some (.int i)
  | .str x _ => some (.str x)
  | .bytes b _ => some (.byt b)
  | .float b _ => some (.flt b)
  | .ref a => some (.ref a)
  | .type n => some (.ty n)
  | _ => none
theorem RelV.abs {x : V} {u : Value} (r : RelV x u) : absV u = some x := by
  cases x with
  | non => cases r; rfl
  | bl _ => cases r; rfl
  | int _ => obtain ⟨t, rfl⟩ := r; rfl
  | str _ => obtain ⟨t, rfl⟩ := r; rfl
  | byt _ => obtain ⟨t, rfl⟩ := r; rfl
  | flt _ => obtain ⟨t, rfl⟩ := r; rfl
  | ref _ => cases r; rfl
  | ty _ => cases r; rfl
theorem RelV.inj {x y : V} {u : Value} (r : RelV x u) (q : RelV y u) : x = y := Option.some.inj (r.abs.symm.trans q.abs)
theorem Vals.inj : ∀ {xs ys : List V} {us : List Value}, Vals xs us → Vals ys us → xs = ys
  | _, _, _, .nil, .nil => rfl
  | _, _, _, .cons r t, .cons r' t' => by rw [r.inj r', Vals.inj t t']
section
variable {X : Cx} {pins : List (Addr × Obj)} {σ : St} {H : Hp} {s : Shared} {a : Addr} {xs ys : List V}
theorem SqL.of {K : PySem.W.Frag} (h : H a = some (.lst xs)) : SqL K H a xs := .inl (.inl h)
theorem SqT.of {K : PySem.W.Frag} (h : H a = some (.tup xs)) : SqT K H a xs := .inl (.inl h)
theorem Inv.list (I : Inv X pins σ H s) (h : SqL X.K H a xs) : ∃ its : List Value, Vals xs its ∧ PlainL s.heap a its.toArray ∧ xs.length ≤ sizeLine := by
  rcases h with h | ⟨o, its, n, hk, hc, hd, hs, hz, r⟩
  · obtain ⟨z, its, n, r, e⟩ := h.ok I.hok
    exact ⟨its, r, ⟨_, n, e, rfl, rfl, rfl⟩, z⟩
  · refine ⟨its.toList, r, ⟨o, n, I.kIn a o hk, hc, hd, by simpa using hs⟩, ?_⟩
    have e := r.length
    simp only [Array.length_toList] at e
    omega
theorem Inv.tuple (I : Inv X pins σ H s) (h : SqT X.K H a xs) : ∃ its : List Value, Vals xs its ∧ IsTup s.heap a its.toArray ∧ xs.length ≤ sizeLine := by
  rcases h with h | ⟨o, its, n, hk, hc, hs, hz, r⟩
  · obtain ⟨z, its, r, p⟩ := h.ok I.hok
    exact ⟨its, r, p, z⟩
  · refine ⟨its.toList, r, ⟨o, I.kIn a o hk, hc, n, by simpa using hs⟩, ?_⟩
    have e := r.length
    simp only [Array.length_toList] at e
    omega
theorem Inv.list_inj (I : Inv X pins σ H s) (h : SqL X.K H a xs) (h' : SqL X.K H a ys) : xs = ys := by
  obtain ⟨its, r, ⟨o, n, e, _, _, d⟩, _⟩ := I.list h
  obtain ⟨its', r', ⟨o', n', e', _, _, d'⟩, _⟩ := I.list h'
  rw [e] at e'; cases e'
  rw [d] at d'
  injection d' with d1 _
  have : its = its' := by simpa using congrArg Array.toList d1
  subst this
  exact r.inj r'
theorem Inv.tuple_inj (I : Inv X pins σ H s) (h : SqT X.K H a xs) (h' : SqT X.K H a ys) : xs = ys := by
  obtain ⟨its, r, ⟨o, e, _, n, d⟩, _⟩ := I.tuple h
  obtain ⟨its', r', ⟨o', e', _, n', d'⟩, _⟩ := I.tuple h'
  rw [e] at e'; cases e'
  rw [d] at d'
  injection d' with d1 _
  have : its = its' := by simpa using congrArg Array.toList d1
  subst this
  exact r.inj r'
end
abbrev Cx.wish (X : Cx) (E : Value → Shared → Prop) : Cx := { X with xe := E }
abbrev Cx.nox (X : Cx) : Cx := X.wish fun _ _ => False
theorem Cx.Ok.wish {X : Cx} (ok : X.Ok) (E : Value → Shared → Prop) : (X.wish E).Ok :=
  ⟨ok.mod, ok.kind, ok.glob, ok.blt, ok.above, ok.inj, ok.has, ok.cab, ok.hd, ok.frames, ok.stk, ok.exf, ok.bs, ok.bsz, ok.noex, ok.exfs, ok.funs, ok.frf⟩
theorem Cx.Ok.unwish {X : Cx} {E : Value → Shared → Prop} (ok : (X.wish E).Ok) : X.Ok :=
  ⟨ok.mod, ok.kind, ok.glob, ok.blt, ok.above, ok.inj, ok.has, ok.cab, ok.hd, ok.frames, ok.stk, ok.exf, ok.bs, ok.bsz, ok.noex, ok.exfs, ok.funs, ok.frf⟩
section
variable {X : Cx} {pins : List (Addr × Obj)} {σ : St} {H : Hp} {s : Shared} {E : Value → Shared → Prop}
theorem Inv.wish (I : Inv X pins σ H s) (E : Value → Shared → Prop) : Inv (X.wish E) pins σ H s := ⟨I.ok.wish E, I.os, I.bare, I.base, I.loc, I.cell, I.free, I.freeC, I.pin, I.hok, I.len⟩
theorem Inv.unwish (I : Inv (X.wish E) pins σ H s) : Inv X pins σ H s := ⟨I.ok.unwish, I.os, I.bare, I.base, I.loc, I.cell, I.free, I.freeC, I.pin, I.hok, I.len⟩
theorem SP.unwish {D : Ends} {f : Flow} {s' : Shared} (h : SP (X.wish E) pins D f s') : SP X pins D f s' := by
  cases f with
  | next => obtain ⟨σ', H', I, q⟩ := h; exact ⟨σ', H', I.unwish, q⟩
  | brk => obtain ⟨σ', H', I, q⟩ := h; exact ⟨σ', H', I.unwish, q⟩
  | cont => obtain ⟨σ', H', I, q⟩ := h; exact ⟨σ', H', I.unwish, q⟩
  | ret u => obtain ⟨v, σ', H', I, r, q⟩ := h; exact ⟨v, σ', H', I.unwish, r, q⟩
theorem PSs.nox {st : List Stmt} {t : TS} (h : PSs X.nox st t) : PSs X st t := fun pins s σ H D I hw =>
  wpAny_mono (h pins s σ H D (I.wish _) hw) (fun _ _ q => q.unwish) fun _ _ z => False.elim z
end
section
variable {X : Cx} {st : Stmt} {rest : List Stmt} {t u : TS} {e : Expr} {te : TE} {pos : Pos}
def tNext : TS := fun D σ H => D.nx σ H
def tSeq (t u : TS) : TS := fun D σ H => t { D with nx := u D } σ H
theorem pss_nil : PSs X [] tNext := fun _ _ σ H _ I h => wpAny_execs_nil ⟨σ, H, I, h⟩
theorem pss_cons (h1 : PS X st t) (h2 : PSs X rest u) : PSs X (st :: rest) (tSeq t u) := by
  intro pins s σ H D I h
  refine wpAny_execs_cons (thn (h1 pins s σ H { D with nx := u D } I h) fun f s1 q => ?_)
  cases f with
  | next =>
    obtain ⟨σ', H', I', q⟩ := q
    exact h2 pins s1 σ' H' D I' q
  | ret v => exact q
  | brk => exact q
  | cont => exact q
theorem pss_one (h1 : PS X st t) : PSs X [st] t := by
  intro pins s σ H D I h
  refine wpAny_execs_cons (thn (h1 pins s σ H D I h) fun f s1 q => ?_)
  cases f with
  | next => exact wpAny_execs_nil q
  | ret v => exact q
  | brk => exact q
  | cont => exact q
theorem Inv.quiet {pins : List (Addr × Obj)} {σ : St} {H : Hp} {s : Shared} (I : Inv X pins σ H s) : interactive X.env = false := by simp [interactive, I.ok.kind]
def tDrop (te : TE) : TS := fun D σ H => te σ H fun _ H1 => D.nx σ H1
theorem ps_expr (he : PE X e te) (hs : swapsWith e none pos.line X.env = pure false := by rfl) : PS X (.Expr e pos) (tDrop te) := by
  intro pins s σ H D I h
  exact wpAny_Expr_any (thn (he pins s σ H _ I h) fun v s1 ⟨x, H1, I1, r1, q1⟩ => ⟨σ, H1, I1, q1⟩) I.quiet hs
def tRet (te : TE) : TS := fun D σ H => te σ H D.rt
theorem ps_ret (he : PE X e te) : PS X (.Return (some e) pos) (tRet te) := by
  intro pins s σ H D I h
  exact wpAny_Return_some (thn (he pins s σ H _ I h) fun v s1 ⟨x, H1, I1, r1, q1⟩ => ⟨x, σ, H1, I1, r1, q1⟩)
def tIfS (c : TT) (t u : TS) : TS := fun D σ H => c σ H fun b H1 => if b = true then t D σ H1 else u D σ H1
theorem ps_if {c : Expr} {a b : List Stmt} {tc : TT} (hc : PT X c tc) (ha : PSs X a t) (hb : PSs X b u) : PS X (.If c a b pos) (tIfS tc t u) := by
  intro pins s σ H D I h
  refine wpAny_If (thn (hc pins s σ H _ I h) fun d s1 ⟨H1, I1, q1⟩ => ?_)
  cases d with
  | true => exact ha pins s1 σ H1 D I1 q1
  | false => exact hb pins s1 σ H1 D I1 q1
end
abbrev TG := V → St → Hp → (St → Hp → Prop) → Prop
abbrev TGs := List V → St → Hp → (St → Hp → Prop) → Prop
def PG (X : Cx) (target : Expr) (t : TG) : Prop :=
  ∀ (pins : List (Addr × Obj)) (s : Shared) (σ : St) (H : Hp) (v : V) (u : Value) (Q : St → Hp → Prop), Inv X pins σ H s → RelV v u → t v σ H Q →
    wpAny (model X.prog X.w) X.A (assign target X.env u) (fun _ s' => ∃ σ' H', Inv X pins σ' H' s' ∧ Q σ' H') X.xe s
def PGs (X : Cx) (ts : List Expr) (t : TGs) : Prop :=
  ∀ (pins : List (Addr × Obj)) (s : Shared) (σ : St) (H : Hp) (vs : List V) (us : List Value) (Q : St → Hp → Prop), Inv X pins σ H s → Vals vs us → t vs σ H Q →
    wpAny (model X.prog X.w) X.A (assignInOrder ((assignEach ts X.env).map (·.2)) us) (fun _ s' => ∃ σ' H', Inv X pins σ' H' s' ∧ Q σ' H') X.xe s
abbrev TSet := V → V → V → Hp → (Hp → Prop) → Prop
def PSet (X : Cx) (t : TSet) : Prop :=
  ∀ (pins : List (Addr × Obj)) (s : Shared) (σ : St) (H : Hp) (o i v : V) (ov iv u : Value) (Q : Hp → Prop), Inv X pins σ H s → RelV o ov → RelV i iv → RelV v u → t o i v H Q →
    wpAny (model X.prog X.w) X.A (setItem ov iv u) (fun _ s' => ∃ H', Inv X pins σ H' s' ∧ Q H') X.xe s
section
variable {X : Cx} {pos : Pos}
def gName (i : Nat) : TG := fun v σ H Q => Q (σ.set i (some v)) H
theorem pg_name {i : Nat} {x : Str} (hN : X.N.Nodup) (hi : X.N[i]? = some x) (hx : Loc X.env.scope x) (hf : X.fn x = true ∨ X.env.scope.names.lookup x = some .local := by first | exact .inl rfl | exact .inr rfl | assumption) : PG X (.Name x pos) (gName i) := by
  intro pins s σ H v u Q I r h
  exact wpAny_assign_Name (store_ok I hN hi hx r (fun s' I' => ⟨_, H, I', h⟩) hf)
def gNil : TGs := fun vs σ H Q => vs = [] ∧ Q σ H
def gCons (t : TG) (u : TGs) : TGs := fun vs σ H Q => ∃ v r, vs = v :: r ∧ t v σ H fun σ' H' => u r σ' H' Q
theorem pgs_nil : PGs X [] gNil := by
  intro pins s σ H vs us Q I r h
  obtain ⟨e, h⟩ := h
  subst e
  cases r
  exact assignInOrder_nil ⟨σ, H, I, h⟩
theorem pgs_cons {e : Expr} {es : List Expr} {t : TG} {u : TGs} (h1 : PG X e t) (h2 : PGs X es u)
    (hs : (assignEach (e :: es) X.env).map (·.2) = assign e X.env :: (assignEach es X.env).map (·.2) := by rfl) : PGs X (e :: es) (gCons t u) := by
  intro pins s σ H vs us Q I r h
  obtain ⟨v, vr, e1, h⟩ := h
  subst e1
  cases r with
  | cons r rr =>
    rw [hs]
    refine assignInOrder_cons (thn (h1 pins s σ H _ _ _ I r h) fun _ s1 ⟨σ1, H1, I1, q1⟩ => ?_)
    exact h2 pins s1 σ1 H1 _ _ Q I1 rr q1
def gTup (K : PySem.W.Frag) (n : Nat) (t : TGs) : TG := fun v σ H Q => ∃ a xs, v = .ref a ∧ SqT K H a xs ∧ xs.length = n ∧ t xs σ H Q
theorem pg_tup {es : List Expr} {k : Nat} {t : TGs} {n : Nat} (hc : X.calm = true) (h : PGs X es t)
    (hn : (assignEach es X.env).length = n := by rfl) (hst : (assignEach es X.env).findIdx? (·.1) = none := by rfl) : PG X (.Tuple es k pos) (gTup X.K n t) := by
  intro pins s σ H v u Q I r hw
  obtain ⟨a, xs, e1, hq, hl, hw⟩ := hw
  subst e1
  cases r
  obtain ⟨its, rv, ht, hz⟩ := I.tuple hq
  refine assign_Tuple_tuple (I.ok.hd hc) ht (by simp [hn, ← hl, rv.length]) hst fun h' hx => ?_
  have I1 : Inv X pins σ H { s with heap := h' } := I.kept (t' := s.toks) fun b o e => hx b o (Nat.ne_of_lt (Heap.lt_size e)) e
  exact h pins _ σ H xs _ Q I1 (by simpa using rv) hw
def gSub (to ti : TE) (t : TSet) : TG := fun v σ H Q => to σ H fun o H1 => ti σ H1 fun i H2 => t o i v H2 fun H3 => Q σ H3
theorem pg_sub {o i : Expr} {to ti : TE} {t : TSet} (ho : PE X o to) (hi : PE X i ti) (hs : PSet X t)
    (ha : ∀ v, assign (.Subscript o i pos) X.env v = (do
      let ov ← holding [v] (eval o X.env)
      let iv ← holding [v, ov] (eval i X.env)
      standAt pos
      holding [v, ov, iv] (setItem ov iv v)
      release [v, ov, iv] []) := by intro _; rfl) : PG X (.Subscript o i pos) (gSub to ti t) := by
  intro pins s σ H v u Q I r h
  rw [ha]
  refine wpAny_bind (wpAny_holding (thn (ho pins s σ H _ I h) fun ov s1 ⟨x, H1, I1, r1, q1⟩ => ?_))
  refine wpAny_bind (wpAny_holding (thn (hi pins s1 σ H1 _ I1 q1) fun iv s2 ⟨y, H2, I2, r2, q2⟩ => ?_))
  refine wpAny_bind (wpAny_standAt (wpAny_bind (wpAny_holding (thn (hs pins s2 σ H2 x y v ov iv u _ I2 r1 r2 r q2) fun _ s3 ⟨H3, I3, q3⟩ => ?_))))
  exact wpAny_release ⟨σ, H3, I3, q3⟩
def tAsg (te : TE) (g : TG) : TS := fun D σ H => te σ H fun x H1 => g x σ H1 D.nx
theorem ps_asg {tg e : Expr} {te : TE} {g : TG} (he : PE X e te) (hg : PG X tg g) (hs : swapsWithSole [tg] e pos.line X.env = pure false := by rfl) (hw : swappedStores [tg] e X.env = pure none := by rfl)
    (h1 : (assignEach [tg] X.env).map (·.2) = [assign tg X.env] := by rfl) : PS X (.Assign [tg] e pos) (tAsg te g) := by
  intro pins s σ H D I h
  refine wpAny_Assign_stores (thn (he pins s σ H _ I h) fun v s1 ⟨x, H1, I1, r1, q1⟩ => ?_) hs hw
  rw [h1]
  exact thn (hg pins s1 σ H1 x v _ I1 r1 q1) fun _ s2 q => q
theorem ps_set {i : Nat} {x : Str} {e : Expr} {te : TE} {pos' : Pos} (hN : X.N.Nodup) (hi : X.N[i]? = some x) (hx : Loc X.env.scope x) (he : PE X e te) (hs : swapsWith e (some (.Name x pos')) pos.line X.env = pure false := by rfl) (hf : X.fn x = true ∨ X.env.scope.names.lookup x = some .local := by first | exact .inl rfl | exact .inr rfl | assumption) :
    PS X (.Assign [.Name x pos'] e pos) (tAsg te (gName i)) := by
  intro pins s σ H D I h
  refine wpAny_Assign_Name (thn (he pins s σ H _ I h) fun v s1 ⟨y, H1, I1, r1, q1⟩ => ?_) hs
  exact store_ok I1 hN hi hx r1 (fun s2 I2 => ⟨_, H1, I2, q1⟩) hf
end
section
variable {X : Cx} {pos : Pos}
end
structure It where
  go : Nat → Hp → Prop
  yld : Nat → Hp → V → Hp → Prop
  stop : Nat → Hp → Prop
def FpOk (X : Cx) (pins : List (Addr × Obj)) (H : Hp) (b : Addr) : Prop :=
  H b = none ∧ b ≠ X.env.locals ∧ b ∉ X.fs ∧ (b ∈ X.ex ∨ X.s₀.heap.objs.size ≤ b) ∧ (∀ x c, X.env.cells.lookup x = some c → c ≠ b) ∧ ∀ p ∈ X.pn ++ pins, p.1 ≠ b
theorem Inv.fpOk {X : Cx} {pins : List (Addr × Obj)} {σ : St} {H H' : Hp} {s : Shared} {b : Addr} (I : Inv X pins σ H s) (hb : s.heap.objs.size ≤ b) (hn : H' b = none) : FpOk X pins H' b := by
  refine ⟨hn, Nat.ne_of_gt (Nat.lt_of_lt_of_le I.lt hb), I.nofs hb, .inr (Nat.le_trans I.sz hb), fun x c e z => ?_, fun p hp z => ?_⟩
  · obtain ⟨v, q⟩ := I.cell x c e
    exact absurd (Nat.lt_of_lt_of_le q.lt (by rw [z]; exact hb)) (Nat.lt_irrefl _)
  · exact absurd (Nat.lt_of_lt_of_le (Heap.lt_size (I.pin p hp).1) (by rw [z]; exact hb)) (Nat.lt_irrefl _)
structure Turn (P : Program) (w : World) (K : PySem.W.Frag) (tg : Expr) (J : It) (fp : List Addr) (it : Addr) (tn : Nat → Heap → Prop) : Prop where
  mem : it ∈ fp
  obj : ∀ i h, tn i h → ∀ b ∈ fp, ∃ o, h.get? b = some o ∧ ∀ v, o.data ≠ .cell v
  keep : ∀ i h h', tn i h → (∀ b ∈ fp, ∀ o, h.get? b = some o → h'.get? b = some o) → tn i h'
  item : ∀ (X : Cx), X.prog = P → X.w = w → X.K = K → X.calm = true → ∀ (i : Nat) (pins : List (Addr × Obj)) (s : Shared) (σ : St) (H : Hp) (E : Value → Shared → Prop), Inv X pins σ H s → (∀ b ∈ fp, FpOk X pins H b) → tn i s.heap → J.go i H →
    wpAny (model P w) X.A (pyNext (.ref it)) (fun r s1 => ∃ u, r = some u ∧
      wpAny (model P w) X.A (letOwnedTupleGo tg (.ref it) u) (fun _ s2 => ∃ x H', Inv X pins σ H' s2 ∧ RelV x u ∧ J.yld i H x H' ∧ tn (i + 1) s2.heap ∧ ∀ b ∈ fp, H' b = none) E s1) E s
  done : ∀ (X : Cx), X.prog = P → X.w = w → X.K = K → X.calm = true → ∀ (i : Nat) (pins : List (Addr × Obj)) (s : Shared) (σ : St) (H : Hp) (E : Value → Shared → Prop), Inv X pins σ H s → (∀ b ∈ fp, FpOk X pins H b) → tn i s.heap → J.stop i H →
    wpAny (model P w) X.A (pyNext (.ref it)) (fun r s1 => r = none ∧ Inv X pins σ H s1) E s
  self : ∀ (A : Around) (i : Nat) (s : Shared) (Q : Value → Shared → Prop) (E : Value → Shared → Prop), tn i s.heap → Q (.ref it) s → wpAny (model P w) A (pyIter (.ref it)) Q E s
abbrev TI := St → Hp → (It → Hp → Prop) → Prop
def PIE (X : Cx) (pins : List (Addr × Obj)) (σ : St) (tg : Expr) (R : It → Hp → Prop) (itv : Value) (s2 : Shared) : Prop :=
  ∃ (it : Addr) (fp : List Addr) (tn : Nat → Heap → Prop) (J : It) (H' : Hp), itv = .ref it ∧ Inv X pins σ H' s2 ∧ Turn X.prog X.w X.K tg J fp it tn ∧ tn 0 s2.heap ∧ (∀ b ∈ fp, FpOk X pins H' b) ∧ R J H'
def PI (X : Cx) (tg iter : Expr) (wi : TI) : Prop :=
  ∀ (pins : List (Addr × Obj)) (s : Shared) (σ : St) (H : Hp) (R : It → Hp → Prop), Inv X pins σ H s → wi σ H R →
    wpAny (model X.prog X.w) X.A (eval iter X.env) (fun v s1 => wpAny (model X.prog X.w) X.A (pyIter v) (PIE X pins σ tg R) X.xe s1) X.xe s
theorem go_of {M : Model} {A : Around} {E : Value → Shared → Prop} {s : Shared} {tg : Expr} {it : Addr} {u : Value} {o : Obj} {n : String} {vs : Array Value} {Q : Unit → Shared → Prop} (ho : s.heap.get? it = some o) (hc : o.cls = .type n) (hd : o.data = .fields vs)
    (hn : ["enumerate", "zip", "dict_itemiterator", "dict_reverseitemiterator", "odict_iterator", "itertools.zip_longest", "itertools.pairwise"].contains n = false) (hQ : Q () s) : wpAny M A (letOwnedTupleGo tg (.ref it) u) Q E s := by
  unfold letOwnedTupleGo
  cases tg <;> first
    | exact wpAny_pure hQ
    | (cases u <;> first
        | exact wpAny_pure hQ
        | (refine wpAny_bind (wpAny_load ho ?_)
           rw [hc, hd]
           show wpAny M A (if (["enumerate", "zip", "dict_itemiterator", "dict_reverseitemiterator", "odict_iterator", "itertools.zip_longest", "itertools.pairwise"].contains n && vs[0]? == some (rawInt _)) = true then _ else _) Q E s
           rw [if_neg (by intro h; rw [hn, Bool.false_and] at h; cases h)]
           exact wpAny_pure hQ))
def Itl (K : PySem.W.Frag) (a : Addr) : It :=
  ⟨fun i H => ∃ xs x, SqL K H a xs ∧ xs[i]? = some x, fun i H x H' => H' = H ∧ ∀ xs, SqL K H a xs → xs[i]? = some x, fun i H => ∃ xs, SqL K H a xs ∧ xs.length ≤ i⟩
def Itt (K : PySem.W.Frag) (a : Addr) : It :=
  ⟨fun i H => ∃ xs x, SqT K H a xs ∧ xs[i]? = some x, fun i H x H' => H' = H ∧ ∀ xs, SqT K H a xs → xs[i]? = some x, fun i H => ∃ xs, SqT K H a xs ∧ xs.length ≤ i⟩
def Itr (lo : Int) (n : Nat) : It := ⟨fun i _ => i < n, fun i H x H' => H' = H ∧ x = .int (lo + i), fun i _ => n ≤ i⟩
theorem turn_list {P : Program} {w : World} {K : PySem.W.Frag} {tg : Expr} (a it : Addr) : Turn P w K tg (Itl K a) [it] it (fun i h => h.IsListIter it a i) where
  mem := by simp
  obj := fun i h st b hb => by
    have e : b = it := by simpa using hb
    subst e
    obtain ⟨o, e, c, d⟩ := st
    exact ⟨o, e, fun v z => by rw [d] at z; cases z⟩
  keep := fun i h h' st k => st.at fun o e => k it (by simp) o e
  item := by
    intro X hP hw hK hc i pins s σ H E I hf st hg
    subst hP hw hK
    obtain ⟨xs, x, hq, hx⟩ := hg
    obtain ⟨its, rv, p, hz⟩ := I.list hq
    obtain ⟨u, hu, ru⟩ := rv.get hx
    obtain ⟨f0, f1, f2, f3, f4, f5⟩ := hf it (by simp)
    refine wpAny_pyNext_list_item st p.isList (x := u) (by simpa using hu) fun h' st' sb => ?_
    have I1 : Inv X pins σ H { s with heap := h' } := I.turned (t' := s.toks) (fun b o hb e => (sb.2 b hb).trans e) f0 f1 f3 f4 f5
    obtain ⟨o, e, c, d⟩ := id st'
    exact ⟨u, rfl, go_of (s := { s with heap := h' }) e c d (by decide) ⟨x, H, I1, ru, ⟨rfl, fun ys hy => by rw [I.list_inj hy hq]; exact hx⟩, st', fun b hb => (hf b hb).1⟩⟩
  done := by
    intro X hP hw hK hc i pins s σ H E I hf st hg
    subst hP hw hK
    obtain ⟨xs, hq, hx⟩ := hg
    obtain ⟨its, rv, p, hz⟩ := I.list hq
    obtain ⟨f0, f1, f2, f3, f4, f5⟩ := hf it (by simp)
    have hl := rv.length
    exact wpAny_pyNext_list_end (I.ok.hd hc) st p.isList (by simp; omega) fun h' eb => ⟨rfl, I.turned (t' := s.toks) (fun b o hb e => eb b o hb e) f0 f1 f3 f4 f5⟩
  self := fun _ _ _ _ _ st h => wpAny_pyIter_listiter st h
theorem turn_tuple {P : Program} {w : World} {K : PySem.W.Frag} {tg : Expr} (a it : Addr) : Turn P w K tg (Itt K a) [it] it (fun i h => h.IsTupleIter it a i) where
  mem := by simp
  obj := fun i h st b hb => by
    have e : b = it := by simpa using hb
    subst e
    obtain ⟨o, e, c, d⟩ := st
    exact ⟨o, e, fun v z => by rw [d] at z; cases z⟩
  keep := fun i h h' st k => st.at fun o e => k it (by simp) o e
  item := by
    intro X hP hw hK hc i pins s σ H E I hf st hg
    subst hP hw hK
    obtain ⟨xs, x, hq, hx⟩ := hg
    obtain ⟨its, rv, p, hz⟩ := I.tuple hq
    obtain ⟨u, hu, ru⟩ := rv.get hx
    obtain ⟨f0, f1, f2, f3, f4, f5⟩ := hf it (by simp)
    refine wpAny_pyNext_tuple_item st (show s.heap.IsTuple a its.toArray from p) (x := u) (by simpa using hu) fun h' st' sb => ?_
    have I1 : Inv X pins σ H { s with heap := h' } := I.turned (t' := s.toks) (fun b o hb e => (sb.2 b hb).trans e) f0 f1 f3 f4 f5
    obtain ⟨o, e, c, d⟩ := id st'
    exact ⟨u, rfl, go_of (s := { s with heap := h' }) e c d (by decide) ⟨x, H, I1, ru, ⟨rfl, fun ys hy => by rw [I.tuple_inj hy hq]; exact hx⟩, st', fun b hb => (hf b hb).1⟩⟩
  done := by
    intro X hP hw hK hc i pins s σ H E I hf st hg
    subst hP hw hK
    obtain ⟨xs, hq, hx⟩ := hg
    obtain ⟨its, rv, p, hz⟩ := I.tuple hq
    obtain ⟨f0, f1, f2, f3, f4, f5⟩ := hf it (by simp)
    have hl := rv.length
    exact wpAny_pyNext_tuple_end (I.ok.hd hc) st (show s.heap.IsTuple a its.toArray from p) (by simp; omega) fun h' eb => ⟨rfl, I.turned (t' := s.toks) (fun b o hb e => eb b o hb e) f0 f1 f3 f4 f5⟩
  self := fun _ _ _ _ _ st h => wpAny_pyIter_tupleiter st h
theorem turn_range {P : Program} {w : World} {K : PySem.W.Frag} {tg : Expr} (it : Addr) (lo : Int) (n : Nat) : Turn P w K tg (Itr lo n) [it] it (fun i h => IsRangeIter h it (lo + (i : Nat) * 1) ((n : Int) - (i : Nat)) 1) where
  mem := by simp
  obj := fun i h st b hb => by
    have e : b = it := by simpa using hb
    subst e
    exact ⟨_, st, fun v z => by
      have z' : Data.fields _ = Data.cell v := z
      cases z'⟩
  keep := fun i h h' st k => k it (by simp) _ st
  item := by
    intro X hP hw hK hc i pins s σ H E I hf st hg
    subst hP hw hK
    obtain ⟨f0, f1, f2, f3, f4, f5⟩ := hf it (by simp)
    have W := Walks.range (prog := X.prog) (w := X.w) (I.ok.hd hc) it lo 1 n
    refine W.item i s _ _ hg st fun v h' tk hv st' kk => ?_
    obtain ⟨t, rfl⟩ := hv
    have I1 : Inv X pins σ H { s with heap := h', toks := tk } := I.turned (fun b o hb e => kk b o (by simpa using hb) e) f0 f1 f3 f4 f5
    refine ⟨_, rfl, go_of (s := { s with heap := h', toks := tk }) (n := "range_iterator") st' rfl rfl (by decide) ⟨.int (lo + i), H, I1, ⟨t, ?_⟩, ⟨rfl, rfl⟩, st', fun b hb => (hf b hb).1⟩⟩
    rw [Int.mul_one]
  done := by
    intro X hP hw hK hc i pins s σ H E I hf st hg
    subst hP hw hK
    obtain ⟨f0, f1, f2, f3, f4, f5⟩ := hf it (by simp)
    exact wpAny_pyNext_range_end (I.ok.hd hc) st (by have : n ≤ i := hg; omega) fun h' eb => ⟨rfl, I.turned (t' := s.toks) (fun b o hb e => eb b o hb e) f0 f1 f3 f4 f5⟩
  self := fun _ _ _ _ _ st h => wpAny_pyIter_rangeiter st h
end L2
namespace L2
open PySem PySem.Spec PyProof.Rows
section
variable {X : Cx} {tg : Expr}
def iTup (K : PySem.W.Frag) (tl : TE) : TI := fun σ H R => tl σ H fun x H1 => ∃ a, x = .ref a ∧ (∃ xs, SqT K H1 a xs) ∧ R (Itt K a) H1
theorem pi_tup {l : Expr} {tl : TE} (hl : PE X l tl) : PI X tg l (iTup X.K tl) := by
  intro pins s σ H R I h
  refine thn (hl pins s σ H _ I h) fun v s1 ⟨x, H1, I1, r1, q1⟩ => ?_
  obtain ⟨a, e, ⟨xs, hq⟩, q⟩ := q1
  subst e
  cases r1
  obtain ⟨its, rv, p, hz⟩ := I1.tuple hq
  refine wpAny_pyIter_tuple (show s1.heap.IsTuple a its.toArray from p) ?_
  refine ⟨s1.heap.objs.size, [s1.heap.objs.size], _, _, H1, rfl, I1.kept (t' := s1.toks) fun b o e => Heap.get?_push_of_some _ e, turn_tuple a _, ⟨_, Heap.get?_push_size _ rfl, rfl, rfl⟩, fun b hb => ?_, q⟩
  have e : b = s1.heap.objs.size := by simpa using hb
  subst e
  exact I1.fpOk (Nat.le_refl _) (I1.hok.fresh (Nat.le_refl _))
theorem range_it {pins : List (Addr × Obj)} {σ : St} {H : Hp} {s : Shared} {R : It → Hp → Prop} {E : Value → Shared → Prop} {lo hi : Int} {t u v : Tok} {tk : Nat} (I : Inv X pins σ H s) (h1 : -(2 ^ 62) ≤ lo) (h2 : lo < 2 ^ 62) (h3 : -(2 ^ 62) ≤ hi) (h4 : hi < 2 ^ 62)
    (q : R (Itr lo (hi - lo).toNat) H) : wpAny (model X.prog X.w) X.A (pyIter (.ref s.heap.objs.size)) (PIE X pins σ tg R) E { s with heap := s.heap.push { cls := .type "range", data := .fields #[.int lo t, .int hi u, .int 1 v] }, toks := tk } := by
  refine wpAny_pyIter_range (IsRange.new ..) (small_one h1 h2 h3 h4) ?_
  have I1 : Inv X pins σ H { s with heap := s.heap.push { cls := .type "range", data := .fields #[.int lo t, .int hi u, .int 1 v] }, toks := tk } := I.kept fun b o e => Heap.get?_push_of_some _ e
  refine ⟨(s.heap.push { cls := .type "range", data := .fields #[.int lo t, .int hi u, .int 1 v] }).objs.size, [(s.heap.push { cls := .type "range", data := .fields #[.int lo t, .int hi u, .int 1 v] }).objs.size], _, _, H, rfl,
    I1.kept (t' := tk) fun b o e => Heap.get?_push_of_some _ e, turn_range _ lo (hi - lo).toNat, ?_, fun b hb => ?_, q⟩
  · have e1 : lo + ((0 : Nat) : Int) * 1 = lo := by simp
    have e2 : (((hi - lo).toNat : Nat) : Int) - ((0 : Nat) : Int) = Builtin.Range.rangeSize lo hi 1 := by rw [rangeSize_one]; split <;> omega
    show IsRangeIter _ _ (lo + ((0 : Nat) : Int) * 1) ((((hi - lo).toNat : Nat) : Int) - ((0 : Nat) : Int)) 1
    rw [e1, e2]
    exact Heap.get?_push_size _ rfl
  · have e : b = (s.heap.push { cls := .type "range", data := .fields #[.int lo t, .int hi u, .int 1 v] }).objs.size := by simpa using hb
    subst e
    exact I1.fpOk (Nat.le_refl _) (I1.hok.fresh (Nat.le_refl _))
def iRng1 (ta : TA) : TI := fun σ H R => ta σ H fun vs H1 => ∃ j : Int, vs = [.int j] ∧ -(2 ^ 62) ≤ j ∧ j < 2 ^ 62 ∧ R (Itr 0 j.toNat) H1
theorem pi_range1 {a : Expr} {ta : TA} {p pos : Pos} (hg : Gl X "range") (hm : X.mg "range" = none) (ha : PA X [a] ta) (hs : starEach [a] X.env = [(false, eval a X.env)] := by rfl) : PI X tg (.Call (.Name "range" p) [a] [] pos) (iRng1 ta) := by
  intro pins s σ H R I h
  refine Call_ (ld_blt I hg hm boot_range (PyProof.Rows.callWith_type1 (thn (ha pos pins s σ H _ I h) fun us s1 ⟨vs, H1, I1, r1, q1⟩ => ?_) hs rfl))
  obtain ⟨j, e, q1, q2, q⟩ := q1
  subst e
  cases r1 with
  | cons r rr =>
    cases rr
    obtain ⟨t, rfl⟩ := r
    exact call_range_1 (range_it I1 (by omega) (by omega) q1 q2 (by simpa using q))
def tFor (wi : TI) (g : TG) (tb : TS) : TS := fun D σ H => wi σ H fun J H1 => ∃ W : Nat → Nat → St → Hp → Prop, (∃ m, W 0 m σ H1) ∧ ∀ i m σ H, W i m σ H →
  (J.stop i H ∧ D.nx σ H) ∨ (J.go i H ∧ ∃ N : St → Hp → Prop, (∀ σ' H', N σ' H' → ∃ m', m' < m ∧ W (i + 1) m' σ' H') ∧ ∀ x H', J.yld i H x H' → g x σ H' fun σ2 H2 => tb { D with nx := N, ct := N, bk := D.nx } σ2 H2)
def pinsAt (fp : List Addr) (h : Heap) : List (Addr × Obj) := fp.filterMap fun b => (h.get? b).map fun o => (b, o)
theorem mem_pinsAt {fp : List Addr} {h : Heap} {b : Addr} {o : Obj} (hb : b ∈ fp) (e : h.get? b = some o) : (b, o) ∈ pinsAt fp h := List.mem_filterMap.mpr ⟨b, hb, by rw [e]; rfl⟩
theorem of_pinsAt {fp : List Addr} {h : Heap} {p : Addr × Obj} (hp : p ∈ pinsAt fp h) : p.1 ∈ fp ∧ h.get? p.1 = some p.2 := by
  obtain ⟨b, hb, e⟩ := List.mem_filterMap.mp hp
  cases q : h.get? b with
  | none => rw [q] at e; cases e
  | some o =>
    rw [q] at e
    have e' : (b, o) = p := Option.some.inj e
    subst e'
    exact ⟨hb, q⟩
theorem Inv.pinned {pins : List (Addr × Obj)} {σ : St} {H : Hp} {s : Shared} {fp : List Addr} (I : Inv X pins σ H s) (hf : ∀ b ∈ fp, FpOk X pins H b) (ho : ∀ b ∈ fp, ∃ o, s.heap.get? b = some o ∧ ∀ v, o.data ≠ .cell v) : Inv X (pins ++ pinsAt fp s.heap) σ H s :=
  I.pins_of fun p hp => (List.mem_append.mp hp).elim (fun z => I.pin p (List.mem_append_right _ z)) fun z => by
    obtain ⟨hb, e⟩ := of_pinsAt z
    obtain ⟨f0, f1, f2, _⟩ := hf p.1 hb
    obtain ⟨o, e', d⟩ := ho p.1 hb
    rw [e] at e'; cases e'
    exact ⟨e, f0, f1, f2, d⟩
theorem Inv.unpinned {pins pl : List (Addr × Obj)} {σ : St} {H : Hp} {s : Shared} (I : Inv X (pins ++ pl) σ H s) : Inv X pins σ H s := I.pins_of fun p hp => I.pin p (List.mem_append_right _ (List.mem_append_left _ hp))
theorem ps_for {iter : Expr} {body : List Stmt} {wi : TI} {g : TG} {tb : TS} {pos : Pos} (hp : PassesOwn (model X.prog X.w) X.A X.env X.xe) (hc : X.calm = true) (hi : PI X tg iter wi) (hg : PG X tg g) (hb : PSs X body tb)
    (hs : ∀ x, foldedSetIterable iter X.env x = pure x := by intro _; rfl) : PS X (.For tg iter body [] pos) (tFor wi g tb) := by
  intro pins s σ H D I h
  refine wpAny_For (thn (hi pins s σ H _ I h) fun v s1 h1 => thn h1 fun itv s2 h2 => ?_) hs
  obtain ⟨it, fp, tn, J, H2, e, I2, T, st2, f2, W, ⟨m0, w0⟩, turn⟩ := h2
  subst e
  -- what stays true of the iterator's objects through the loop
  have stat : ∀ {H' : Hp}, (∀ b ∈ fp, H' b = none) → ∀ b ∈ fp, FpOk X pins H' b := fun hn b hb => ⟨hn b hb, (f2 b hb).2⟩
  refine codeAny_forLoop_any (fun n s' => ∃ i σ' H', Inv X pins σ' H' s' ∧ tn i s'.heap ∧ (∀ b ∈ fp, H' b = none) ∧ W i n σ' H') ?_ m0 ⟨0, σ, H2, I2, st2, fun b hb => (f2 b hb).1, w0⟩
  rintro n s3 ⟨i, σ3, H3, I3, st3, fr3, w3⟩
  rcases turn i n σ3 H3 w3 with ⟨stop, qn⟩ | ⟨go, N, hN, step⟩
  · refine wpAny_passesOwn hp (thn (T.done X rfl rfl rfl hc i pins s3 σ3 H3 X.xe I3 (stat fr3) st3 stop) fun r s4 ⟨hr, I4⟩ => ?_)
    subst hr
    exact wpAny_execs_nil ⟨σ3, H3, I4, qn⟩
  · refine wpAny_passesOwn hp (thn (T.item X rfl rfl rfl hc i pins s3 σ3 H3 X.xe I3 (stat fr3) st3 go) fun r s4 ⟨u, hr, h4⟩ => ?_)
    subst hr
    refine wpAny_passesOwn hp (thn h4 fun _ s5 ⟨x, H5, I5, r5, y5, st5, fr5⟩ => ?_)
    have I5' := I5.pinned (stat fr5) (T.obj _ _ st5)
    refine wpAny_passesOwn hp (thn (hg _ s5 σ3 H5 x u _ I5' r5 (step x H5 y5)) fun _ s6 ⟨σ6, H6, I6, q6⟩ => ?_)
    refine wpAny_passesOwn hp (thn (hb _ s6 σ6 H6 _ I6 q6) fun f s7 q7 => ?_)
    have again : ∀ {σ7 : St} {H7 : Hp}, Inv X (pins ++ pinsAt fp s5.heap) σ7 H7 s7 → N σ7 H7 → ∃ m, m < n ∧ ∃ i σ' H', Inv X pins σ' H' s7 ∧ tn i s7.heap ∧ (∀ b ∈ fp, H' b = none) ∧ W i m σ' H' := fun {σ7 H7} I7 n7 => by
      obtain ⟨m', hm, w7⟩ := hN σ7 H7 n7
      refine ⟨m', hm, i + 1, σ7, H7, I7.unpinned, T.keep _ _ _ st5 fun b hb o e => (I7.pin (b, o) (List.mem_append_right _ (List.mem_append_right _ (mem_pinsAt hb e)))).1, fun b hb => ?_, w7⟩
      obtain ⟨o, e, d⟩ := T.obj _ _ st5 b hb
      exact (I7.pin (b, o) (List.mem_append_right _ (List.mem_append_right _ (mem_pinsAt hb e)))).2.1
    cases f with
    | next => obtain ⟨σ7, H7, I7, n7⟩ := q7; exact again I7 n7
    | cont => obtain ⟨σ7, H7, I7, n7⟩ := q7; exact again I7 n7
    | brk => obtain ⟨σ7, H7, I7, q7⟩ := q7; exact ⟨σ7, H7, I7.unpinned, q7⟩
    | ret v => obtain ⟨x7, σ7, H7, I7, r7, q7⟩ := q7; exact ⟨x7, σ7, H7, I7.unpinned, r7, q7⟩
end
theorem for_list {K : PySem.W.Frag} {a : Addr} {xs : List V} {g : TG} {tb : TS} {D : Ends} {σ : St} {H : Hp} (Pv : Nat → St → Hp → Prop) (h0 : Pv 0 σ H) (hl : ∀ i σ H, i ≤ xs.length → Pv i σ H → SqL K H a xs)
    (hs : ∀ i x σ H, xs[i]? = some x → Pv i σ H → g x σ H fun σ2 H2 => tb { D with nx := Pv (i + 1), ct := Pv (i + 1), bk := D.nx } σ2 H2) (hd : ∀ σ H, Pv xs.length σ H → D.nx σ H) :
    ∃ W : Nat → Nat → St → Hp → Prop, (∃ m, W 0 m σ H) ∧ ∀ i m σ H, W i m σ H →
      ((Itl K a).stop i H ∧ D.nx σ H) ∨ ((Itl K a).go i H ∧ ∃ N : St → Hp → Prop, (∀ σ' H', N σ' H' → ∃ m', m' < m ∧ W (i + 1) m' σ' H') ∧ ∀ x H', (Itl K a).yld i H x H' → g x σ H' fun σ2 H2 => tb { D with nx := N, ct := N, bk := D.nx } σ2 H2) := by
  refine ⟨fun i m σ H => m = xs.length - i ∧ i ≤ xs.length ∧ Pv i σ H, ⟨xs.length, by simp, Nat.zero_le _, h0⟩, ?_⟩
  rintro i m σ H ⟨rfl, hi, p⟩
  have q := hl i σ H hi p
  by_cases hlt : i < xs.length
  · refine .inr ⟨⟨xs, xs[i], q, by simp [hlt]⟩, Pv (i + 1), fun σ' H' p' => ⟨xs.length - (i + 1), by omega, rfl, hlt, p'⟩, fun x H' y => ?_⟩
    obtain ⟨e, y⟩ := y
    subst e
    exact hs i x σ _ (y xs q) p
  · have e : i = xs.length := by omega
    subst e
    exact .inl ⟨⟨xs, q, Nat.le_refl _⟩, hd σ H p⟩
theorem for_tup {K : PySem.W.Frag} {a : Addr} {xs : List V} {g : TG} {tb : TS} {D : Ends} {σ : St} {H : Hp} (Pv : Nat → St → Hp → Prop) (h0 : Pv 0 σ H) (hl : ∀ i σ H, i ≤ xs.length → Pv i σ H → SqT K H a xs)
    (hs : ∀ i x σ H, xs[i]? = some x → Pv i σ H → g x σ H fun σ2 H2 => tb { D with nx := Pv (i + 1), ct := Pv (i + 1), bk := D.nx } σ2 H2) (hd : ∀ σ H, Pv xs.length σ H → D.nx σ H) :
    ∃ W : Nat → Nat → St → Hp → Prop, (∃ m, W 0 m σ H) ∧ ∀ i m σ H, W i m σ H →
      ((Itt K a).stop i H ∧ D.nx σ H) ∨ ((Itt K a).go i H ∧ ∃ N : St → Hp → Prop, (∀ σ' H', N σ' H' → ∃ m', m' < m ∧ W (i + 1) m' σ' H') ∧ ∀ x H', (Itt K a).yld i H x H' → g x σ H' fun σ2 H2 => tb { D with nx := N, ct := N, bk := D.nx } σ2 H2) := by
  refine ⟨fun i m σ H => m = xs.length - i ∧ i ≤ xs.length ∧ Pv i σ H, ⟨xs.length, by simp, Nat.zero_le _, h0⟩, ?_⟩
  rintro i m σ H ⟨rfl, hi, p⟩
  have q := hl i σ H hi p
  by_cases hlt : i < xs.length
  · refine .inr ⟨⟨xs, xs[i], q, by simp [hlt]⟩, Pv (i + 1), fun σ' H' p' => ⟨xs.length - (i + 1), by omega, rfl, hlt, p'⟩, fun x H' y => ?_⟩
    obtain ⟨e, y⟩ := y
    subst e
    exact hs i x σ _ (y xs q) p
  · have e : i = xs.length := by omega
    subst e
    exact .inl ⟨⟨xs, q, Nat.le_refl _⟩, hd σ H p⟩
theorem for_range {lo : Int} {n : Nat} {g : TG} {tb : TS} {D : Ends} {σ : St} {H : Hp} (Pv : Nat → St → Hp → Prop) (h0 : Pv 0 σ H)
    (hs : ∀ i σ H, i < n → Pv i σ H → g (.int (lo + i)) σ H fun σ2 H2 => tb { D with nx := Pv (i + 1), ct := Pv (i + 1), bk := D.nx } σ2 H2) (hd : ∀ σ H, Pv n σ H → D.nx σ H) :
    ∃ W : Nat → Nat → St → Hp → Prop, (∃ m, W 0 m σ H) ∧ ∀ i m σ H, W i m σ H →
      ((Itr lo n).stop i H ∧ D.nx σ H) ∨ ((Itr lo n).go i H ∧ ∃ N : St → Hp → Prop, (∀ σ' H', N σ' H' → ∃ m', m' < m ∧ W (i + 1) m' σ' H') ∧ ∀ x H', (Itr lo n).yld i H x H' → g x σ H' fun σ2 H2 => tb { D with nx := N, ct := N, bk := D.nx } σ2 H2) := by
  refine ⟨fun i m σ H => m = n - i ∧ i ≤ n ∧ Pv i σ H, ⟨n, by simp, Nat.zero_le _, h0⟩, ?_⟩
  rintro i m σ H ⟨rfl, hi, p⟩
  by_cases hlt : i < n
  · refine .inr ⟨hlt, Pv (i + 1), fun σ' H' p' => ⟨n - (i + 1), by omega, rfl, hlt, p'⟩, fun x H' y => ?_⟩
    obtain ⟨e, y⟩ := y
    subst e y
    exact hs i σ _ hlt p
  · have e : i = n := by omega
    subst e
    exact .inl ⟨Nat.le_refl _, hd σ H p⟩
end L2
namespace L2
open PySem PySem.Spec PyProof.Rows
abbrev R2 := V → V → Hp → VK → Prop
def OpR (X : Cx) (f : Value → Value → Sem Value) (r : R2) : Prop :=
  ∀ (pins : List (Addr × Obj)) (s : Shared) (σ : St) (H : Hp) (x y : V) (v u : Value) (Q : VK), Inv X pins σ H s → RelV x v → RelV y u → r x y H Q →
    wpAny (model X.prog X.w) X.A (f v u) (EP X pins σ Q) X.xe s
def UnR (X : Cx) (f : Value → Sem Value) (r : V → Hp → VK → Prop) : Prop :=
  ∀ (pins : List (Addr × Obj)) (s : Shared) (σ : St) (H : Hp) (x : V) (v : Value) (Q : VK), Inv X pins σ H s → RelV x v → r x H Q →
    wpAny (model X.prog X.w) X.A (f v) (EP X pins σ Q) X.xe s
def CallR (X : Cx) (f : Value) (r : List V → Hp → VK → Prop) : Prop :=
  ∀ (pins : List (Addr × Obj)) (s : Shared) (σ : St) (H : Hp) (xs : List V) (us : List Value) (Q : VK), Inv X pins σ H s → Vals xs us → r xs H Q →
    wpAny (model X.prog X.w) X.A (call f us) (EP X pins σ Q) X.xe s
def tOp (r : R2) (ta tb : TE) : TE := fun σ H Q => ta σ H fun x H1 => tb σ H1 fun y H2 => r x y H2 Q
def tUn (r : V → Hp → VK → Prop) (ta : TE) : TE := fun σ H Q => ta σ H fun x H1 => r x H1 Q
def rI (C : Int → Int → Prop) (g : Int → Int → V) : R2 := fun x y H Q => ∃ i j, x = .int i ∧ y = .int j ∧ C i j ∧ Q (g i j) H
def rI0 (g : Int → Int → V) : R2 := fun x y H Q => ∃ i j, x = .int i ∧ y = .int j ∧ Q (g i j) H
def rU (g : Int → V) : V → Hp → VK → Prop := fun x H Q => ∃ i, x = .int i ∧ Q (g i) H
section
variable {X : Cx} {a b c : Expr} {ta tb tc : TE} {pos : Pos}
theorem binT (ha : PE X a ta) (hb : PE X b tb) {pins : List (Addr × Obj)} {s : Shared} {σ : St} {H : Hp} {R : V → V → Hp → Prop} (I : Inv X pins σ H s)
    (h : ta σ H fun x H1 => tb σ H1 fun y H2 => R x y H2) {Q : Value → Shared → Prop} {f : Value → Value → Sem Value}
    (hf : ∀ v u s2 x y H2, Inv X pins σ H2 s2 → RelV x v → RelV y u → R x y H2 → wpAny (model X.prog X.w) X.A (f v u) Q X.xe s2) :
    wpAny (model X.prog X.w) X.A (eval a X.env) (fun v s₁ => wpAny (model X.prog X.w) X.A (eval b X.env) (fun u s₂ => wpAny (model X.prog X.w) X.A (f v u) Q X.xe s₂) X.xe s₁) X.xe s := by
  refine thn (ha pins s σ H _ I h) fun v s1 ⟨x, H1, I1, r1, q1⟩ => ?_
  refine thn (hb pins s1 σ H1 _ I1 q1) fun u s2 ⟨y, H2, I2, r2, q2⟩ => ?_
  exact hf v u s2 x y H2 I2 r1 r2 q2
theorem pe_op {op : Operator} {r : R2} (ho : OpR X (binaryOp op) r) (ha : PE X a ta) (hb : PE X b tb) : PE X (.BinOp a op b pos) (tOp r ta tb) := by
  intro pins s σ H Q I h
  exact wpAny_BinOp (binT ha hb I h fun v u s2 x y H2 I2 rx ry q => ho pins s2 σ H2 x y v u Q I2 rx ry q)
theorem pe_un {op : UnaryOp} {r : V → Hp → VK → Prop} (ho : UnR X (unaryOp op) r) (ha : PE X a ta) : PE X (.UnaryOp op a pos) (tUn r ta) := by
  intro pins s σ H Q I h
  exact UnaryOp_ (thn (ha pins s σ H _ I h) fun v s1 ⟨x, H1, I1, r1, q1⟩ => ho pins s1 σ H1 x v Q I1 r1 q1)
theorem opI {f : Value → Value → Sem Value} {C : Int → Int → Prop} {g : Int → Int → Int}
    (rule : ∀ (i j : Int) (t u : Tok) (s : Shared) (Q : Value → Shared → Prop) (E : Value → Shared → Prop), C i j → Q (.int (g i j) s.toks) { s with toks := s.toks + 1 } → wpAny (model X.prog X.w) X.A (f (.int i t) (.int j u)) Q E s) :
    OpR X f (rI C fun i j => .int (g i j)) := by
  intro pins s σ H x y v u Q I rx ry h
  obtain ⟨i, j, rfl, rfl, hc, q⟩ := h
  obtain ⟨t, rfl⟩ := rx
  obtain ⟨t', rfl⟩ := ry
  exact rule i j t t' s _ _ hc ⟨.int (g i j), H, I.tok _, ⟨_, rfl⟩, q⟩
theorem opI0 {f : Value → Value → Sem Value} {g : Int → Int → Int}
    (rule : ∀ (i j : Int) (t u : Tok) (s : Shared) (Q : Value → Shared → Prop) (E : Value → Shared → Prop), Q (.int (g i j) s.toks) { s with toks := s.toks + 1 } → wpAny (model X.prog X.w) X.A (f (.int i t) (.int j u)) Q E s) :
    OpR X f (rI0 fun i j => .int (g i j)) := by
  intro pins s σ H x y v u Q I rx ry h
  obtain ⟨i, j, rfl, rfl, q⟩ := h
  obtain ⟨t, rfl⟩ := rx
  obtain ⟨t', rfl⟩ := ry
  exact rule i j t t' s _ _ ⟨.int (g i j), H, I.tok _, ⟨_, rfl⟩, q⟩
theorem opB0 {f : Value → Value → Sem Value} {g : Int → Int → Bool}
    (rule : ∀ (i j : Int) (t u : Tok) (s : Shared) (Q : Value → Shared → Prop) (E : Value → Shared → Prop), Q (.bool (g i j)) s → wpAny (model X.prog X.w) X.A (f (.int i t) (.int j u)) Q E s) :
    OpR X f (rI0 fun i j => .bl (g i j)) := by
  intro pins s σ H x y v u Q I rx ry h
  obtain ⟨i, j, rfl, rfl, q⟩ := h
  obtain ⟨t, rfl⟩ := rx
  obtain ⟨t', rfl⟩ := ry
  exact rule i j t t' s _ _ ⟨.bl (g i j), H, I, rfl, q⟩
def CDiv (i j : Int) : Prop := 0 < j ∧ j < 1073741824
def CPow (i j : Int) : Prop := 0 ≤ j ∧ j ≤ 1000000 ∧ i.natAbs < 2 ^ 64
def CMul (i j : Int) : Prop := (-(2 ^ 64) < i ∧ i < 2 ^ 64) ∨ (-(2 ^ 64) < j ∧ j < 2 ^ 64)
theorem CMul.ok {i j : Int} (h : CMul i j) : IntMulOk i j := by
  rcases h with ⟨h1, h2⟩ | ⟨h1, h2⟩
  · exact .of_left (intBits_le_64 h1 h2)
  · exact .of_right (intBits_le_64 h1 h2)
theorem op_add : OpR X (binaryOp .Add) (rI0 fun i j => .int (i + j)) := opI0 fun _ _ _ _ _ _ _ q => add_int q
theorem op_mul : OpR X (binaryOp .Mult) (rI CMul fun i j => .int (i * j)) := opI fun _ _ _ _ _ _ _ hc q => mul_int q hc.ok
theorem op_fdiv : OpR X (binaryOp .FloorDiv) (rI CDiv fun i j => .int (i / j)) := opI fun i j _ _ _ _ _ hc q => by
  have h1 : (0 : Int) < j := hc.1
  have h2 : j < 1073741824 := hc.2
  exact floordiv_int (by omega) (by rw [Int.fdiv_eq_ediv_of_nonneg i (by omega)]; exact q) (.inl (PyProof.noPylong_small (by omega)))
theorem op_mod : OpR X (binaryOp .Mod) (rI (fun _ j => 0 < j) fun i j => .int (i % j)) := opI fun i j _ _ _ _ _ hc q => by
  have h1 : (0 : Int) < j := hc
  exact mod_int' (by omega) (by rw [Int.fmod_eq_emod_of_nonneg i (by omega)]; exact q)
theorem op_pow : OpR X (binaryOp .Pow) (rI CPow fun i j => .int (i ^ j.toNat)) := opI fun _ _ _ _ _ _ _ hc q => pow_int_small hc.1 hc.2.1 hc.2.2 q
theorem unI {f : Value → Sem Value} {g : Int → Int}
    (rule : ∀ (i : Int) (t : Tok) (s : Shared) (Q : Value → Shared → Prop) (E : Value → Shared → Prop), Q (.int (g i) s.toks) { s with toks := s.toks + 1 } → wpAny (model X.prog X.w) X.A (f (.int i t)) Q E s) :
    UnR X f (rU fun i => .int (g i)) := by
  intro pins s σ H x v Q I rx h
  obtain ⟨i, rfl, q⟩ := h
  obtain ⟨t, rfl⟩ := rx
  exact rule i t s _ _ ⟨.int (g i), H, I.tok _, ⟨_, rfl⟩, q⟩
theorem un_neg : UnR X (unaryOp .USub) (rU fun i => .int (-i)) := unI fun _ _ _ _ _ q => neg_int q
end
def scal : V → V → Bool
  | .non, .non => true | .non, .int _ => true | .int _, .non => true | .non, .bl _ => true | .bl _, .non => true | .non, .str _ => true | .str _, .non => true
  | .int _, .int _ => true | .bl _, .bl _ => true | .str _, .str _ => true | .byt _, .byt _ => true
  | .int _, .str _ => true | .str _, .int _ => true | .bl _, .str _ => true | .str _, .bl _ => true
  | _, _ => false
def rEq : R2 := fun x y H Q => scal x y = true ∧ Q (.bl (decide (x = y))) H
def rNe : R2 := fun x y H Q => scal x y = true ∧ Q (.bl (!decide (x = y))) H
theorem dec_int {i j : Int} : decide (V.int i = V.int j) = (i == j) := by
  rw [Bool.eq_iff_iff]
  simp
theorem dec_bl {i j : Bool} : decide (V.bl i = V.bl j) = (i == j) := by
  rw [Bool.eq_iff_iff]
  simp
theorem dec_str {i j : Str} : decide (V.str i = V.str j) = (i == j) := by
  rw [Bool.eq_iff_iff]
  simp
theorem dec_byt {i j : Array UInt8} : decide (V.byt i = V.byt j) = (i.toList == j.toList) := by
  rw [Bool.eq_iff_iff]
  cases i
  cases j
  simp
section
variable {X : Cx} {a b c : Expr} {ta tb tc : TE} {pos : Pos}
theorem fin_bl {pins : List (Addr × Obj)} {σ : St} {H : Hp} {s : Shared} {Q : VK} {k k' : Bool} (I : Inv X pins σ H s) (q : Q (.bl k) H) (e : k = k') : EP X pins σ Q (.bool k') s := by
  subst e
  exact ⟨.bl k, H, I, rfl, q⟩
theorem op_eq : OpR X (compareOp .Eq) rEq := by
  intro pins s σ H x y v u Q I rx ry h
  obtain ⟨hs, q⟩ := h
  cases x with
  | non =>
    cases rx
    cases y with
    | non => cases ry; exact PySem.EqNone.eq_none_none (fin_bl I q (by simp))
    | bl j => cases ry; exact PySem.EqNone.eq_none_bool (fin_bl I q (by simp))
    | int j => obtain ⟨t', rfl⟩ := ry; exact PySem.EqNone.eq_none_int (fin_bl I q (by simp))
    | str j => obtain ⟨t', rfl⟩ := ry; exact PySem.EqNone.eq_none_str (fin_bl I q (by simp))
    | _ => exact absurd (show false = true from hs) Bool.false_ne_true
  | bl i =>
    cases rx
    cases y with
    | non => cases ry; exact PySem.EqNone.eq_bool_none (fin_bl I q (by simp))
    | bl j => cases ry; exact eq_bool (fin_bl I q dec_bl)
    | str j => obtain ⟨t', rfl⟩ := ry; exact PySem.EqMixed.eq_bool_str (fin_bl I q (by simp))
    | _ => exact absurd (show false = true from hs) Bool.false_ne_true
  | int i =>
    obtain ⟨t, rfl⟩ := rx
    cases y with
    | non => cases ry; exact PySem.EqNone.eq_int_none (fin_bl I q (by simp))
    | int j => obtain ⟨t', rfl⟩ := ry; exact eq_int (fin_bl I q dec_int)
    | str j => obtain ⟨t', rfl⟩ := ry; exact PySem.EqMixed.eq_int_str (fin_bl I q (by simp))
    | _ => exact absurd (show false = true from hs) Bool.false_ne_true
  | str i =>
    obtain ⟨t, rfl⟩ := rx
    cases y with
    | non => cases ry; exact PySem.EqNone.eq_str_none (fin_bl I q (by simp))
    | bl j => cases ry; exact PySem.EqMixed.eq_str_bool (fin_bl I q (by simp))
    | int j => obtain ⟨t', rfl⟩ := ry; exact PySem.EqMixed.eq_str_int (fin_bl I q (by simp))
    | str j => obtain ⟨t', rfl⟩ := ry; exact eq_str (fin_bl I q dec_str)
    | _ => exact absurd (show false = true from hs) Bool.false_ne_true
  | byt i =>
    obtain ⟨t, rfl⟩ := rx
    cases y with
    | byt j => obtain ⟨t', rfl⟩ := ry; exact PySem.W.eq_bytes (fin_bl I q dec_byt)
    | _ => exact absurd (show false = true from hs) Bool.false_ne_true
  | _ => cases y <;> exact absurd (show false = true from hs) Bool.false_ne_true
theorem op_ne : OpR X (compareOp .NotEq) rNe := by
  intro pins s σ H x y v u Q I rx ry h
  obtain ⟨hs, q⟩ := h
  cases x with
  | non =>
    cases rx
    cases y with
    | non => cases ry; exact PySem.EqNone.ne_none_none (fin_bl I q (by simp))
    | bl j => cases ry; exact PySem.EqNone.ne_none_bool (fin_bl I q (by simp))
    | int j => obtain ⟨t', rfl⟩ := ry; exact PySem.EqNone.ne_none_int (fin_bl I q (by simp))
    | str j => obtain ⟨t', rfl⟩ := ry; exact PySem.EqNone.ne_none_str (fin_bl I q (by simp))
    | _ => exact absurd (show false = true from hs) Bool.false_ne_true
  | bl i =>
    cases rx
    cases y with
    | non => cases ry; exact PySem.EqNone.ne_bool_none (fin_bl I q (by simp))
    | bl j => cases ry; exact ne_bool (fin_bl I q (congrArg not dec_bl))
    | str j => obtain ⟨t', rfl⟩ := ry; exact PySem.EqMixed.ne_bool_str (fin_bl I q (by simp))
    | _ => exact absurd (show false = true from hs) Bool.false_ne_true
  | int i =>
    obtain ⟨t, rfl⟩ := rx
    cases y with
    | non => cases ry; exact PySem.EqNone.ne_int_none (fin_bl I q (by simp))
    | int j => obtain ⟨t', rfl⟩ := ry; exact ne_int (fin_bl I q (congrArg not dec_int))
    | str j => obtain ⟨t', rfl⟩ := ry; exact PySem.EqMixed.ne_int_str (fin_bl I q (by simp))
    | _ => exact absurd (show false = true from hs) Bool.false_ne_true
  | str i =>
    obtain ⟨t, rfl⟩ := rx
    cases y with
    | non => cases ry; exact PySem.EqNone.ne_str_none (fin_bl I q (by simp))
    | bl j => cases ry; exact PySem.EqMixed.ne_str_bool (fin_bl I q (by simp))
    | int j => obtain ⟨t', rfl⟩ := ry; exact PySem.EqMixed.ne_str_int (fin_bl I q (by simp))
    | str j => obtain ⟨t', rfl⟩ := ry; exact ne_str (fin_bl I q (congrArg not dec_str))
    | _ => exact absurd (show false = true from hs) Bool.false_ne_true
  | byt i =>
    obtain ⟨t, rfl⟩ := rx
    cases y with
    | byt j => obtain ⟨t', rfl⟩ := ry; exact PySem.W.ne_bytes (fin_bl I q (congrArg not dec_byt))
    | _ => exact absurd (show false = true from hs) Bool.false_ne_true
  | _ => cases y <;> exact absurd (show false = true from hs) Bool.false_ne_true
theorem op_lt : OpR X (compareOp .Lt) (rI0 fun i j => .bl (decide (i < j))) := opB0 fun _ _ _ _ _ _ _ q => lt_int q
theorem op_gt : OpR X (compareOp .Gt) (rI0 fun i j => .bl (decide (j < i))) := opB0 fun _ _ _ _ _ _ _ q => gt_int q
theorem op_ge : OpR X (compareOp .GtE) (rI0 fun i j => .bl (decide (j ≤ i))) := opB0 fun _ _ _ _ _ _ _ q => ge_int q
theorem op_lt_str : OpR X (compareOp .Lt) (fun x y H Q => ∃ i j, x = .str i ∧ y = .str j ∧ Q (.bl (decide (i.cps.toList < j.cps.toList))) H) := by
  intro pins s σ H x y v u Q I rx ry h
  obtain ⟨i, j, rfl, rfl, q⟩ := h
  obtain ⟨t, rfl⟩ := rx
  obtain ⟨t', rfl⟩ := ry
  exact lt_str (fin_bl I q rfl)
theorem op_in_str : OpR X (compareOp .In) (fun x y H Q => ∃ i j, x = .str i ∧ y = .str j ∧ Q (.bl (!(Builtin.Str.occurrences j i 0 j.length 1).isEmpty)) H) := by
  intro pins s σ H x y v u Q I rx ry h
  obtain ⟨i, j, rfl, rfl, q⟩ := h
  obtain ⟨t, rfl⟩ := rx
  obtain ⟨t', rfl⟩ := ry
  exact in_str (fin_bl I q rfl)
theorem nomark (b : Expr) {op : CmpOp} (h : op ≠ .In := by decide) (h2 : op ≠ .NotIn := by decide) : behindInMarks op b = false := by
  have e1 : (op == CmpOp.In) = false := by cases op <;> first | rfl | exact absurd rfl h
  have e2 : (op == CmpOp.NotIn) = false := by cases op <;> first | rfl | exact absurd rfl h2
  cases b <;> simp [behindInMarks, e1, e2]
theorem pe_cmpR {op : CmpOp} {r : R2} (ho : OpR X (compareOp op) r) (ha : PE X a ta) (hb : PE X b tb) (hm : behindInMarks op b = false) : PE X (.Compare a [op] [b] pos) (tOp r ta tb) := by
  intro pins s σ H Q I h
  exact wpAny_Compare1 (binT ha hb I h fun v u s2 x y H2 I2 rx ry q => ho pins s2 σ H2 x y v u Q I2 rx ry q) hm
def tTest (t : TE) : TT := fun σ H Q => t σ H fun x H' => ∃ k, x = .bl k ∧ Q k H'
theorem pt_cmpR {op : CmpOp} {r : R2} (ho : OpR X (compareOp op) r) (ha : PE X a ta) (hb : PE X b tb) (hm : behindInMarks op b = false) : PT X (.Compare a [op] [b] pos) (tTest (tOp r ta tb)) := by
  intro pins s σ H Q I h
  refine wpAny_isTrue_Compare1 (thn (ha pins s σ H _ I h) fun v s1 ⟨x, H1, I1, r1, q1⟩ => thn (hb pins s1 σ H1 _ I1 q1) fun u s2 ⟨y, H2, I2, r2, q2⟩ =>
    thn (ho pins s2 σ H2 x y v u _ I2 r1 r2 q2) fun c s3 ⟨z, H3, I3, r3, k, e, q3⟩ => ?_) hm
  subst e
  cases r3
  exact wpAny_truthy_bool ⟨H3, I3, q3⟩
theorem line63 : (sizeLine : Nat) < 2 ^ 63 := by rw [sizeLine_eq]; decide
theorem op_add_str : OpR X (binaryOp .Add) (fun x y H Q => ∃ i j, x = .str i ∧ y = .str j ∧ i.length + j.length ≤ sizeLine ∧ Q (.str (i ++ j)) H) := by
  intro pins s σ H x y v u Q I rx ry h
  obtain ⟨i, j, rfl, rfl, hz, q⟩ := h
  obtain ⟨t, rfl⟩ := rx
  obtain ⟨t', rfl⟩ := ry
  exact add_str (fun t' tk => ⟨.str (i ++ j), H, I.tok _, ⟨_, rfl⟩, q⟩) hz
theorem vals1 {x : V} {us : List Value} (r : Vals [x] us) : ∃ u, us = [u] ∧ RelV x u := by
  cases r with
  | cons r1 r2 => cases r2; exact ⟨_, rfl, r1⟩
theorem vals2 {x y : V} {us : List Value} (r : Vals [x, y] us) : ∃ u w', us = [u, w'] ∧ RelV x u ∧ RelV y w' := by
  cases r with
  | cons r1 r2 =>
    cases r2 with
    | cons r3 r4 => cases r4; exact ⟨_, _, rfl, r1, r3⟩
theorem call_int1 : CallR X (.type "int") (fun xs H Q => (∃ i, xs = [.int i] ∧ Q (.int i) H) ∨ ∃ k, xs = [.bl k] ∧ Q (.int (if k then 1 else 0)) H) := by
  intro pins s σ H xs us Q I r h
  rcases h with ⟨i, rfl, q⟩ | ⟨k, rfl, q⟩
  · obtain ⟨u, rfl, t, rfl⟩ := vals1 r
    exact call_int_int ⟨.int i, H, I, ⟨_, rfl⟩, q⟩
  · obtain ⟨u, rfl, r1⟩ := vals1 r
    cases r1
    exact call_int_bool ⟨.int (if k then 1 else 0), H, I.tok _, ⟨_, rfl⟩, q⟩
end
end L2
namespace L2
open PySem PySem.Spec PyProof.Rows
structure ObjM (h : Heap) (x dx C : Addr) (mA : Str → Option Value) : Prop where
  obj : h.get? x = some (PySem.W.instObj C dx)
  ns : h.Ns1 dx mA
  ne : dx ≠ x
theorem lookIn_ns {h : Heap} {dx : Addr} {mA : Str → Option Value} (n : h.Ns1 dx mA) : ∃ od, h.get? dx = some od ∧ ∀ name, PySem.W.lookIn name od = some (mA name) := by
  obtain ⟨o, es, ep, ho, hd, hk, _, hm⟩ := n
  refine ⟨o, ho, fun name => ?_⟩
  have e := hm name
  unfold nsFind findBy at e
  rw [← Array.find?_toList] at e
  unfold PySem.W.lookIn
  rw [hd]
  dsimp only
  split
  · rename_i y q
    rw [q] at e
    exact congrArg some e
  · rename_i q
    rw [q] at e
    have a : es.toList.any (·.refKey) = false := by
      rw [List.any_eq_false]
      intro y hy
      obtain ⟨z, t, hkey⟩ := hk y (Array.mem_toList_iff.mp hy)
      simp [DictEntry.refKey, hkey]
    have a' : ¬ es.toList.any (·.refKey) = true := by rw [a]; exact Bool.false_ne_true
    rw [if_neg a']
    exact congrArg some e
theorem ObjM.look {h : Heap} {x dx C : Addr} {mA : Str → Option Value} (I : ObjM h x dx C mA) : ∃ od, PySem.W.InstAt h x (PySem.W.instObj C dx) C (some od) ∧ ∀ name, PySem.W.lookIn name od = some (mA name) :=
  let ⟨od, ho, hl⟩ := lookIn_ns I.ns
  ⟨od, ⟨I.obj, rfl, rfl, ho⟩, hl⟩
section
variable {prog : Program} {w : World} {A : Around} {E : Value → Shared → Prop} {s : Shared} {K : PySem.W.Frag} {x dx C f : Addr} {mA : Str → Option Value} {name : Str} {v : Value}
theorem get_map {expr : Bool} {Q : Value → Shared → Prop} (X : K.In s.heap) (I : ObjM s.heap x dx C mA) (hg : PySem.W.plainGet K C name = true) (hh : PySem.W.hasDictIn K C = true)
    (ha : PySem.W.findIn K (.ref C) name = some none) (hv : mA name = some v) (hv' : PySem.W.handedIn v = true) (h : Q v { s with toks := s.toks + 1 }) :
    wpAny (model prog w) A (getAttr (.ref x) name expr) Q E s := by
  obtain ⟨od, J, hl⟩ := I.look
  exact PySem.W.get_value X J (PySem.W.plainGet_of hg).1 (PySem.W.findObj_own hh ha rfl (by rw [hl, hv])) hv' h
theorem get_meth {pl : Sem Bool} {Q : Value × List Value → Shared → Prop} (X : K.In s.heap) (I : ObjM s.heap x dx C mA) (hg : PySem.W.plainGet K C name = true)
    (hf : PySem.W.findIn K (.ref C) name = some (some (.ref f))) (ht : PySem.W.isFn K (.ref f) = true) (hv : mA name = none) (h : Q (.ref f, [.ref x]) s) :
    wpAny (model prog w) A (getMethod (.ref x) name pl) Q E s := by
  obtain ⟨od, J, hl⟩ := I.look
  exact PySem.W.method_fn X J (PySem.W.plainGet_of hg).1 (PySem.W.plainGet_of hg).2 hf (beq_iff_eq.mp ht) (by show (PySem.W.lookIn name od).map (·.isSome) = some false; rw [hl, hv]; rfl) h
theorem set_map {ns : List Str} {Q : Unit → Shared → Prop} (X : K.In s.heap) (I : ObjM s.heap x dx C mA)
    (hs : PySem.W.findIn K (.ref C) "__setattr__" = some (some (.builtin "object.__setattr__"))) (hp : PySem.W.plainOver K C = true) (ht : PySem.W.takerIn K C name = some none) (hh : PySem.W.hasDictIn K C = true)
    (hw : PySem.Within mA ns) (hsz : ns.length ≤ sizeLine)
    (h : ∀ h', ObjM h' x dx C (fun y => if y = name then some v else mA y) → Heap.SameBut dx s.heap h' → Q () { s with heap := h', toks := s.toks + 2 }) :
    wpAny (model prog w) A (setAttr (.ref x) name v) Q E s := by
  obtain ⟨od, J, hl⟩ := I.look
  refine PySem.W.set_plain X J hs (PySem.W.osa_open (s := { s with toks := s.toks + 1 }) (r := none) X J hp ht fun b => ?_)
  obtain ⟨cd, hc, hd'⟩ := PySem.W.any_some hh
  have hx : s.heap.get? x = some ⟨.ref C, some dx, .plain, #[]⟩ := I.obj
  refine wpAny_bind (wpAny_pure (wpAny_bind (wpAny_bind (wpAny_loadPart hx (wpAny_bind (PySem.W.Looks.here (s := { s with toks := s.toks + 1 }) (PySem.W.looks_clsIn X hc) ?_))))))
  rw [hd']
  refine wpAny_pure (a := some dx) (wpAny_bind (wpAny_pure (wpAny_bind ?_)))
  refine wpAny_nsSet1 (s := { s with toks := s.toks + 1 }) I.ns fun h' hn2 hs2 => ?_
  obtain ⟨oD, esD, epD, hoD, hdD, hcD⟩ := hn2.count (PySem.Within.cons name v hw)
  refine wpAny_bind (wpAny_lookBehind hoD (by rw [hdD]; exact pastItsLine_dict (Nat.le_trans hcD (by rw [List.length_cons]; omega))) ?_)
  exact wpAny_pure (h _ ⟨(hs2.2 _ (Ne.symm I.ne)).trans I.obj, hn2, I.ne⟩ hs2)
theorem make_map {R : Result → Shared → Prop} {vs : List Value} {kw : List (Str × Value)} (X : K.In s.heap) (hm : PySem.W.makesIn K C = true)
    (hi : PySem.W.findIn K (.ref C) "__init__" = some (some (.ref f))) (hf : PySem.W.typeIn K (.ref f) = some (.type "function"))
    (h : codeAny (model prog w) (A.under (.builtin "type.__call__" ⟨.ref C :: vs, kw⟩)) (.call (.ref f) ⟨.ref (s.heap.objs.size + 1) :: vs, kw⟩) (PySem.W.InitBack (s.heap.objs.size + 1) R)
      { s with heap := (s.heap.push PySem.W.emptyDict).push (PySem.W.instObj C s.heap.objs.size) }) :
    codeAny (model prog w) A (.call (.ref C) ⟨vs, kw⟩) R s := by
  obtain ⟨hh, g, d, t, os⟩ := s
  exact PySem.W.make_core (PySem.W.makes_of X hm) (PySem.W.looks_findIn X hi) (fun self => PySem.W.bind_fn X self hf) (.inl rfl) h
end
def putF (f : Str) (v : V) : List (Str × V) → List (Str × V)
  | [] => [(f, v)]
  | (g, x) :: r => if g = f then (g, v) :: r else (g, x) :: putF f v r
theorem lookup_putF (f g : Str) (v : V) : ∀ fs : List (Str × V), (putF f v fs).lookup g = if g = f then some v else fs.lookup g
  | [] => by
    show List.lookup g [(f, v)] = _
    by_cases h : g = f
    · have hb : (g == f) = true := beq_iff_eq.mpr h
      simp only [List.lookup, hb, if_pos h]
    · have hb : (g == f) = false := beq_eq_false_iff_ne.mpr h
      simp only [List.lookup, hb, if_neg h]
  | (k, x) :: r => by
    have ih := lookup_putF f g v r
    rw [show putF f v ((k, x) :: r) = (if k = f then (k, v) :: r else (k, x) :: putF f v r) from rfl]
    by_cases hk : k = f
    · rw [if_pos hk]
      by_cases h : g = k
      · have hb : (g == k) = true := beq_iff_eq.mpr h
        simp only [List.lookup, hb, if_pos (h.trans hk)]
      · have hb : (g == k) = false := beq_eq_false_iff_ne.mpr h
        simp only [List.lookup, hb, if_neg (fun e : g = f => h (e.trans hk.symm))]
    · rw [if_neg hk]
      by_cases h : g = k
      · have hb : (g == k) = true := beq_iff_eq.mpr h
        simp only [List.lookup, hb, if_neg (fun e : g = f => hk (h.symm.trans e))]
      · have hb : (g == k) = false := beq_eq_false_iff_ne.mpr h
        simp only [List.lookup, hb]
        exact ih
theorem keys_putF (f : Str) (v : V) : ∀ fs : List (Str × V), f ∈ (putF f v fs).map (·.1) ∧ ∀ g, g ∈ fs.map (·.1) → g ∈ (putF f v fs).map (·.1)
  | [] => ⟨by simp [putF], fun g h => by simp at h⟩
  | (k, x) :: r => by
    obtain ⟨i1, i2⟩ := keys_putF f v r
    rw [show putF f v ((k, x) :: r) = (if k = f then (k, v) :: r else (k, x) :: putF f v r) from rfl]
    by_cases hk : k = f
    · rw [if_pos hk]
      subst hk
      exact ⟨by simp, fun g h => by simpa using h⟩
    · rw [if_neg hk]
      refine ⟨?_, fun g h => ?_⟩
      · rw [List.map_cons]
        exact List.mem_cons_of_mem _ i1
      · rw [List.map_cons] at h ⊢
        rcases List.mem_cons.mp h with e | e
        · exact List.mem_cons.mpr (.inl e)
        · exact List.mem_cons_of_mem _ (i2 g e)
theorem length_putF (f : Str) (v : V) : ∀ fs : List (Str × V), (putF f v fs).length ≤ fs.length + 1
  | [] => by simp [putF]
  | (k, x) :: r => by
    have ih := length_putF f v r
    rw [show putF f v ((k, x) :: r) = (if k = f then (k, v) :: r else (k, x) :: putF f v r) from rfl]
    by_cases hk : k = f
    · rw [if_pos hk, List.length_cons, List.length_cons]; omega
    · rw [if_neg hk, List.length_cons, List.length_cons]; omega
theorem RelO.some_of {v : V} {o : Option Value} (r : RelO (some v) o) : ∃ u, o = some u ∧ RelV v u := by
  cases o with
  | none => exact (show False from r).elim
  | some u => exact ⟨u, rfl, r⟩
theorem RelO.none_of {o : Option Value} (r : RelO none o) : o = none := by
  cases o with
  | none => rfl
  | some u => exact (show False from r).elim
theorem handed_of {v : V} {u : Value} (r : RelV v u) : PySem.W.handedIn u = true := by
  cases v with
  | non => cases (show u = Value.none from r); rfl
  | bl b => cases (show u = Value.bool b from r); rfl
  | int i => obtain ⟨t, e⟩ := (show ∃ t, u = Value.int i t from r); cases e; rfl
  | str x => obtain ⟨t, e⟩ := (show ∃ t, u = Value.str x t from r); cases e; rfl
  | byt b => obtain ⟨t, e⟩ := (show ∃ t, u = Value.bytes b t from r); cases e; rfl
  | flt b => obtain ⟨t, e⟩ := (show ∃ t, u = Value.float b t from r); cases e; rfl
  | ref a => cases (show u = Value.ref a from r); rfl
  | ty n => cases (show u = Value.type n from r); rfl
section
variable {P : Program} {w : World} {H H' : Hp} {h h' : Heap} {a C dx : Addr} {fs fs' : List (Str × V)}
theorem ins_get (hok : HOk P w H h) (e : H a = some (.ins C dx fs)) : ∃ mA, ObjM h a dx C mA ∧ (∀ f, RelO (fs.lookup f) (mA f)) ∧ PySem.Within mA (fs.map (·.1)) ∧ fs.length ≤ 1000 ∧ H dx = some (.own a) := by
  obtain ⟨d, z, ne, ob, mA, n, r, q⟩ := (show ObjOk P w H h a (.ins C dx fs) from hok a _ e)
  exact ⟨mA, ⟨ob, n, ne⟩, r, q, z, d⟩
end
structure Cls (K : PySem.W.Frag) (C : Addr) : Prop where
  pg : PySem.W.plainGet K C Str.empty = true
  hd : PySem.W.hasDictIn K C = true
  po : PySem.W.plainOver K C = true
  sa : PySem.W.findIn K (.ref C) "__setattr__" = some (some (.builtin "object.__setattr__"))
theorem Cls.get {K : PySem.W.Frag} {C : Addr} (c : Cls K C) (f : Str) : PySem.W.plainGet K C f = true := c.pg
def NoAttr (K : PySem.W.Frag) (C : Addr) (f : Str) : Prop := PySem.W.findIn K (.ref C) f = some none
theorem NoAttr.taker {K : PySem.W.Frag} {C : Addr} {f : Str} (n : NoAttr K C f) : PySem.W.takerIn K C f = some none := by
  unfold PySem.W.takerIn
  rw [show PySem.W.findIn K (.ref C) f = some none from n]
  rfl
structure Meth (K : PySem.W.Frag) (C : Addr) (m : Str) (f : Addr) : Prop where
  at_ : PySem.W.findIn K (.ref C) m = some (some (.ref f))
  fn : PySem.W.isFn K (.ref f) = true
  kp : PySem.W.keepIn K (.ref f) = true
section
variable {X : Cx} {pins : List (Addr × Obj)} {σ : St} {H : Hp} {s : Shared} {a C dx : Addr} {fs : List (Str × V)} {f : Str} {v : V} {A : Around} {E : Value → Shared → Prop}
theorem getattr_ok {b : Bool} {Q : Value → Shared → Prop} (I : Inv X pins σ H s) (e : H a = some (.ins C dx fs)) (c : Cls X.K C) (n : NoAttr X.K C f) (l : fs.lookup f = some v)
    (h : ∀ u s', Inv X pins σ H s' → RelV v u → Q u s') : wpAny (model X.prog X.w) A (getAttr (.ref a) f b) Q E s := by
  obtain ⟨mA, O, r, _, _, _⟩ := ins_get I.hok e
  obtain ⟨u, hu, ru⟩ := RelO.some_of (v := v) (o := mA f) (by rw [← l]; exact r f)
  exact get_map I.kIn O (c.get f) c.hd n hu (handed_of ru) (h u _ (I.tok _) ru)
theorem getmeth_ok {m : Str} {g : Addr} {pl : Sem Bool} {Q : Value × List Value → Shared → Prop} (I : Inv X pins σ H s) (e : H a = some (.ins C dx fs)) (c : Cls X.K C) (k : Meth X.K C m g) (l : fs.lookup m = none)
    (h : Q (.ref g, [.ref a]) s) : wpAny (model X.prog X.w) A (getMethod (.ref a) m pl) Q E s := by
  obtain ⟨mA, O, r, _, _, _⟩ := ins_get I.hok e
  have hn : mA m = none := RelO.none_of (by rw [← l]; exact r m)
  exact get_meth I.kIn O (c.get m) k.at_ k.fn hn h
theorem setattr_ok {y : V} {u : Value} {Q : Unit → Shared → Prop} (I : Inv X pins σ H s) (e : H a = some (.ins C dx fs)) (c : Cls X.K C) (n : NoAttr X.K C f) (hl : fs.length < 1000) (ry : RelV y u)
    (h : ∀ s', Inv X pins σ (upd H a (.ins C dx (putF f y fs))) s' → Q () s') : wpAny (model X.prog X.w) A (setAttr (.ref a) f u) Q E s := by
  obtain ⟨mA, O, r, wi, _, ho⟩ := ins_get I.hok e
  have hz : (fs.map (·.1)).length ≤ sizeLine := by rw [List.length_map, sizeLine_eq]; omega
  refine set_map I.kIn O c.sa c.po n.taker c.hd wi hz fun h' O' sb => h _ ?_
  have hd : ∃ o, h'.get? dx = some o := let ⟨o, _, _, e', _⟩ := O'.ns; ⟨o, e'⟩
  refine I.write (x := a) (e := dx) (by rw [e]; exact True.intro) (.inr ho) (fun b q hb z => (sb.2 b hb).trans z) hd ?_
  refine ⟨by rw [upd_ne O.ne]; exact ho, ?_, O.ne, O'.obj, _, O'.ns, fun g => ?_, fun g hg => ?_⟩
  · have := length_putF f y fs; omega
  · show RelO ((putF f y fs).lookup g) (if g = f then some u else mA g)
    rw [lookup_putF]
    by_cases q : g = f
    · rw [if_pos q, if_pos q]; exact ry
    · rw [if_neg q, if_neg q]; exact r g
  · by_cases q : g = f
    · rw [q]; exact (keys_putF f y fs).1
    · refine (keys_putF f y fs).2 g (wi g fun z => hg ?_)
      show (if g = f then some u else mA g) = none
      rw [if_neg q]; exact z
theorem Inv.made (I : Inv X pins σ H s) : Inv X pins σ (upd (upd H s.heap.objs.size (.own (s.heap.objs.size + 1))) (s.heap.objs.size + 1) (.ins C s.heap.objs.size []))
    { s with heap := (s.heap.push PySem.W.emptyDict).push (PySem.W.instObj C s.heap.objs.size) } := by
  have e1 : (s.heap.push PySem.W.emptyDict).get? s.heap.objs.size = some PySem.W.emptyDict := Heap.get?_push_size s.heap rfl
  have e2 : ((s.heap.push PySem.W.emptyDict).push (PySem.W.instObj C s.heap.objs.size)).get? (s.heap.objs.size + 1) = some (PySem.W.instObj C s.heap.objs.size) := by
    have := Heap.get?_push_size (s.heap.push PySem.W.emptyDict) (o := PySem.W.instObj C s.heap.objs.size) rfl
    rwa [Heap.size_push] at this
  have e3 : (s.heap.push PySem.W.emptyDict).Ns s.heap.objs.size (fun _ => none) := ⟨PySem.W.emptyDict, #[], _, e1, rfl, (fun e he => absurd he (by simp)), fun _ => rfl⟩
  have I1 := I.laid (a := s.heap.objs.size) (o := .own (s.heap.objs.size + 1)) (h' := s.heap.push PySem.W.emptyDict) (t' := s.toks) (fun b u q => Heap.get?_push_of_some _ q) (Nat.le_refl _) ⟨_, e1⟩
  refine I1.laid (a := s.heap.objs.size + 1) (o := .ins C s.heap.objs.size []) (t' := s.toks) (fun b u q => Heap.get?_push_of_some _ q) (Nat.le_of_eq (Heap.size_push _ _)) ?_
  have ne : s.heap.objs.size ≠ s.heap.objs.size + 1 := Nat.ne_of_lt (Nat.lt_succ_self _)
  refine ⟨by rw [upd_ne ne, upd_same], Nat.zero_le _, ne, e2, fun _ => none, (Heap.Ns1.of_empty e3).at fun o q => Heap.get?_push_of_some _ q, fun _ => True.intro, fun y hy => absurd rfl hy⟩
theorem attr_of {prog : Program} {w : World} {env : Env} {e : Expr} {f : Str} {pos : Pos} {s : Shared} {Q : Value → Shared → Prop} (hb : attributeBase e f env (eval e env) = eval e env)
    (h : wpAny (model prog w) A (eval e env) (fun o s₁ => wpAny (model prog w) A (getAttr o f true) Q E s₁) E s) : wpAny (model prog w) A (eval (.Attribute e f pos) env) Q E s :=
  Attribute_any_ h (by rw [arm_eval_Attribute, hb])
end
def tFld (K : PySem.W.Frag) (ta : TE) (f : Str) : TE := fun σ H Q => ta σ H fun x H1 => ∃ a C dx fs v, x = .ref a ∧ H1 a = some (.ins C dx fs) ∧ Cls K C ∧ NoAttr K C f ∧ fs.lookup f = some v ∧ Q v H1
def sFld (K : PySem.W.Frag) (ta tv : TE) (f : Str) : TS := fun D σ H => tv σ H fun y H1 => ta σ H1 fun x H2 => ∃ a C dx fs, x = .ref a ∧ H2 a = some (.ins C dx fs) ∧ Cls K C ∧ NoAttr K C f ∧ fs.length < 1000 ∧
  D.nx σ (upd H2 a (.ins C dx (putF f y fs)))
section
variable {X : Cx} {o e value : Expr} {f : Str} {pos pos' tpos : Pos} {ta tv : TE}
theorem pe_fld (he : PE X e ta) (hb : attributeBase e f X.env (eval e X.env) = eval e X.env) : PE X (.Attribute e f pos) (tFld X.K ta f) := by
  intro pins s σ H Q I h
  refine attr_of hb (thn (he pins s σ H _ I h) fun u s1 ⟨x, H1, I1, rx, a, C, dx, fs, v, ex, ea, c, n, l, q⟩ => ?_)
  subst ex
  obtain rfl : u = Value.ref a := rx
  exact getattr_ok I1 ea c n l fun u' s2 I2 ru => ⟨v, H1, I2, ru, q⟩
theorem ps_fld (ha : PE X o ta) (hv : PE X value tv) (hs : swapsWith value (some (.Attribute o f pos')) pos.line X.env = pure false) : PS X (.Assign [.Attribute o f pos'] value pos) (sFld X.K ta tv f) := by
  intro pins s σ H D I h
  refine plainObj_wpAny_Assign_Attribute (thn (hv pins s σ H _ I h) fun u s1 ⟨y, H1, I1, ry, q⟩ => thn (ha pins s1 σ H1 _ I1 q) fun ov s2 ⟨x, H2, I2, rx, a, C, dx, fs, ex, ea, c, n, l, q2⟩ => ?_) hs
  subst ex
  obtain rfl : ov = Value.ref a := rx
  exact setattr_ok I2 ea c n l ry fun s3 I3 => ⟨σ, _, I3, q2⟩
end
section
variable {X : Cx} {pins : List (Addr × Obj)} {σ : St} {H : Hp} {s : Shared} {A : Around} {E : Value → Shared → Prop} {Q : Value → Shared → Prop} {c : Value} {b : Bool}
inductive TyOf (K : PySem.W.Frag) (H : Hp) : V → Value → Prop where
  | non : TyOf K H .non (.type "NoneType")
  | bl (x : Bool) : TyOf K H (.bl x) (.type "bool")
  | int (i : Int) : TyOf K H (.int i) (.type "int")
  | str (x : Str) : TyOf K H (.str x) (.type "str")
  | flt (x : UInt64) : TyOf K H (.flt x) (.type "float")
  | lst {a : Addr} {xs : List V} (e : H a = some (.lst xs)) : TyOf K H (.ref a) (.type "list")
  | frz {a : Addr} {o : Obj} {xs : List V} (e : H a = some (.frz o (.lst xs))) : TyOf K H (.ref a) (.type "list")
  | tup {a : Addr} {xs : List V} (e : H a = some (.tup xs)) : TyOf K H (.ref a) (.type "tuple")
  | dK {a : Addr} {kvs : List (Key × V)} (e : H a = some (.dK kvs)) : TyOf K H (.ref a) (.type "dict")
  | dT {a : Addr} {kvs : List (List Key × V)} (e : H a = some (.dT kvs)) : TyOf K H (.ref a) (.type "dict")
  | ins {a C dx : Addr} {fs : List (Str × V)} (e : H a = some (.ins C dx fs)) (cl : Cls K C) (ha : PySem.W.findIn K (.ref C) "__class__" = some (some (.builtin "object.__class__")))
      (hn : PySem.W.specialIn K (.builtin "object.__class__") "__get__" = some (some (.builtin "getset_descriptor.__get__"))) (htk : PySem.W.takesIn K (.builtin "object.__class__") = some true)
      (hm : PySem.W.mroIn K C (.type "object") = some true) : TyOf K H (.ref a) (.ref C)
theorem isinst_ok {x : V} {u t : Value} (I : Inv X pins σ H s) (rx : RelV x u) (ty : TyOf X.K H x t) (e : PySem.W.kitOne X.K t c = some b) (h : ∀ tk, Q (.bool b) { s with toks := tk }) :
    wpAny (model X.prog X.w) A (call (.builtin "isinstance") [u, c]) Q E s := by
  cases ty with
  | non => cases (show u = Value.none from rx); exact PySem.W.kia_one PySem.W.kitx_none I.kIn True.intro e (fun z => nomatch z) h
  | bl y => cases (show u = Value.bool y from rx); exact PySem.W.kia_one PySem.W.kitx_bool I.kIn True.intro e (fun z => nomatch z) h
  | int i => obtain ⟨t, q⟩ := (show ∃ t, u = Value.int i t from rx); cases q; exact PySem.W.kia_one PySem.W.kitx_int I.kIn True.intro e (fun z => nomatch z) h
  | str y => obtain ⟨t, q⟩ := (show ∃ t, u = Value.str y t from rx); cases q; exact PySem.W.kia_one PySem.W.kitx_str I.kIn True.intro e (fun z => nomatch z) h
  | flt y => obtain ⟨t, q⟩ := (show ∃ t, u = Value.float y t from rx); cases q; exact PySem.W.kia_one PySem.W.kitx_float I.kIn True.intro e (fun z => nomatch z) h
  | @lst a xs ea =>
    cases (show u = Value.ref a from rx)
    obtain ⟨_, _, n, _, h1⟩ := (show ObjOk X.prog X.w H s.heap a (.lst xs) from I.hok a _ ea)
    exact PySem.W.kia_one PySem.W.kitx_list I.kIn ⟨_, h1, rfl⟩ e (fun z => nomatch z) h
  | @frz a ob xs ea =>
    cases (show u = Value.ref a from rx)
    obtain ⟨_, _, _, n, _, h1⟩ := (show ObjOk X.prog X.w H s.heap a (.frz ob (.lst xs)) from I.hok a _ ea)
    exact PySem.W.kia_one PySem.W.kitx_list I.kIn ⟨_, h1, rfl⟩ e (fun z => nomatch z) h
  | @tup a xs ea =>
    cases (show u = Value.ref a from rx)
    obtain ⟨_, _, _, p⟩ := (show ObjOk X.prog X.w H s.heap a (.tup xs) from I.hok a _ ea)
    obtain ⟨o, h1, h2, _⟩ := p
    exact PySem.W.kia_one PySem.W.kitx_tuple I.kIn ⟨o, h1, h2⟩ e (fun z => nomatch z) h
  | @dK a kvs ea =>
    cases (show u = Value.ref a from rx)
    obtain ⟨_, _, vs, _, p⟩ := (show ObjOk X.prog X.w H s.heap a (.dK kvs) from I.hok a _ ea)
    obtain ⟨o, es, ep, h1, h2, _⟩ := p
    exact PySem.W.kia_one PySem.W.kitx_dict I.kIn ⟨o, h1, h2.1⟩ e (fun z => nomatch z) h
  | @dT a kvs ea =>
    cases (show u = Value.ref a from rx)
    obtain ⟨_, _, xs, _, o, es, ep, h1, h2, _⟩ := (show ObjOk X.prog X.w H s.heap a (.dT kvs) from I.hok a _ ea)
    exact PySem.W.kia_one PySem.W.kitx_dict I.kIn ⟨o, h1, h2.1⟩ e (fun z => nomatch z) h
  | @ins a C dx fs ea cl ha hn htk hm =>
    cases (show u = Value.ref a from rx)
    obtain ⟨mA, O, _⟩ := ins_get I.hok ea
    obtain ⟨od, J, _⟩ := O.look
    exact PySem.W.kia_one (PySem.W.kitx_own (cl.get _) cl.hd ha hn htk hm) I.kIn J e (fun z => nomatch z) h
end
end L2
namespace L2
open PySem PySem.Spec PyProof.Rows
structure Room (k : Nat) (A : Around) : Prop where
  hd : A.handled = none
  dp : A.depth + 3 * k + 5 < recursionLimit
  un : A.units + 16 * k + 200 < cLine
  gd : A.guards = some []
theorem Room.mono {j k : Nat} {A : Around} (r : Room k A) (h : j ≤ k) : Room j A := ⟨r.hd, by have := r.dp; omega, by have := r.un; omega, r.gd⟩
theorem Room.deeper {k : Nat} {A : Around} (r : Room (k + 1) A) (env : Env) : Room k (A.deeper env) :=
  ⟨r.hd, by have := r.dp; show A.depth + 1 + 3 * k + 5 < _; omega, by have := r.un; show A.units + 3 + 16 * k + 200 < _; omega, r.gd⟩
theorem make_depth {A : Around} {C : Addr} {us : List Value} {kw : List (Str × Value)} : (A.under (.builtin "type.__call__" ⟨.ref C :: us, kw⟩)).depth = A.depth + 1 := by
  first | rfl | simp [Around.under, Code.weight, Code.isCreation, Code.isGuard, Code.isCaller, Code.frames, Code.isFrame, guardIds]
theorem make_units {A : Around} {C : Addr} {us : List Value} {kw : List (Str × Value)} : (A.under (.builtin "type.__call__" ⟨.ref C :: us, kw⟩)).units = A.units + 1 := by
  first | rfl | simp [Around.under, Code.cUnits, Code.frames, Code.isFrame]
theorem Room.make {k : Nat} {A : Around} (r : Room (k + 1) A) (C : Addr) (us : List Value) (kw : List (Str × Value)) : Room k (A.under (.builtin "type.__call__" ⟨.ref C :: us, kw⟩)) :=
  ⟨r.hd, by have := r.dp; rw [make_depth]; omega, by have := r.un; rw [make_units]; omega, by first | exact r.gd | (simpa [Around.under, Code.isGuard, guardIds] using r.gd)⟩
theorem Room.depth {k : Nat} {A : Around} (r : Room k A) : A.depth < recursionLimit := by have := r.dp; omega
theorem Room.units {k : Nat} {A : Around} (r : Room k A) : A.units + 64 < cLine := by have := r.un; omega
def tNil : TA := fun _ H Q => Q [] H
def tCons (ta : TE) (tr : TA) : TA := fun σ H Q => ta σ H fun x H1 => tr σ H1 fun xs H2 => Q (x :: xs) H2
section
variable {X : Cx} {e : Expr} {es : List Expr} {te : TE} {t : TA} {pos : Pos}
theorem pa_nil : PA X [] tNil := fun _ _ _ _ H Q I h => Calls.spliced_nil ⟨[], H, I, .nil, h⟩
theorem pa_cons (ha : PE X e te) (hr : PA X es t) (hs : starEach (e :: es) X.env = (false, eval e X.env) :: starEach es X.env := by rfl) : PA X (e :: es) (tCons te t) := by
  intro pos pins s σ H Q I h
  rw [hs]
  show wpAny _ _ (spliced ((false, eval e X.env) :: backTo pos (starEach es X.env))) _ _ s
  refine Calls.spliced_cons (thn (ha pins s σ H _ I h) fun u s1 ⟨x, H1, I1, r1, q1⟩ => ?_)
  exact thn (hr pos pins s1 σ H1 _ I1 q1) fun us s2 ⟨xs, H2, I2, r2, q2⟩ => ⟨x :: xs, H2, I2, .cons r1 r2, q2⟩
def tTup (t : TA) : TE := fun σ H Q => t σ H fun xs H1 => xs.length ≤ sizeLine ∧ ∀ p, H1 p = none → Q (.ref p) (upd H1 p (.tup xs))
def tLst (t : TA) : TE := fun σ H Q => t σ H fun xs H1 => xs.length ≤ sizeLine ∧ ∀ p, H1 p = none → Q (.ref p) (upd H1 p (.lst xs))
theorem pe_tup {x1} (h : PA X es t) : PE X (.Tuple es x1 pos) (tTup t) := by
  intro pins s σ H Q I hq
  refine wpAny_Tuple_spliced (thn (h pos pins s σ H _ I hq) fun us s1 ⟨xs, H1, I1, r, z, q⟩ => ⟨by rw [← r.length]; exact z, ?_⟩)
  have hf : H1 s1.heap.objs.size = none := I1.hok.fresh (Nat.le_refl _)
  refine ⟨.ref s1.heap.objs.size, upd H1 s1.heap.objs.size (.tup xs), I1.laid (t' := s1.toks) (fun b u e => Heap.get?_push_of_some _ e) (Nat.le_refl _) ?_, rfl, q _ hf⟩
  exact ⟨z, us, r, ⟨_, Heap.get?_push_size _ rfl, rfl, _, rfl⟩⟩
theorem pe_lst (h : PA X es t) : PE X (.List es pos) (tLst t) := by
  intro pins s σ H Q I hq
  refine wpAny_List_spliced (thn (h pos pins s σ H _ I hq) fun us s1 ⟨xs, H1, I1, r, z, q⟩ => ⟨by rw [← r.length]; exact z, ?_⟩)
  have hf : H1 s1.heap.objs.size = none := I1.hok.fresh (Nat.le_refl _)
  refine ⟨.ref s1.heap.objs.size, upd H1 s1.heap.objs.size (.lst xs), I1.laid (t' := s1.toks) (fun b u e => Heap.get?_push_of_some _ e) (Nat.le_refl _) ?_, rfl, q _ hf⟩
  exact ⟨z, us, 0, r, Heap.get?_push_size _ rfl⟩
end
abbrev Sp := List V → Hp → VK → XK → Prop
abbrev CXT := List Env → Hp → Shared → XK → Value → Shared → Prop
structure Env0 (P : Program) (w : World) (K : PySem.W.Frag) (mg : Str → Option Value) (base : Heap) (A : Around) (outer : List Env) (s : Shared) (H : Hp) : Prop where
  frames : A.frames = some outer
  mod : Mod K mg base
  bs : ∀ b o, base.get? b = some o → s.heap.get? b = some o ∧ H b = none
  bsz : base.objs.size ≤ s.heap.objs.size
  funs : s.heap.FunFrames base outer
  frf : ∀ b ∈ frs outer, H b = none
  hok : HOk P w H s.heap
  bare : AllBare s.gens
def CE (outer : List Env) (P : Program) (w : World) (H : Hp) (s : Shared) (Q : VK) (u : Value) (s' : Shared) : Prop :=
  ∃ v H', s'.os = s.os ∧ AllBare s'.gens ∧ Un (frs outer) [] H H' s.heap s'.heap ∧ HOk P w H' s'.heap ∧ RelV v u ∧ Q v H'
def CR (CX : CXT) (outer : List Env) (P : Program) (w : World) (H : Hp) (s : Shared) (Q : VK) (E : XK) (r : Result) (s' : Shared) : Prop :=
  match r with
  | .ok (.ret u) => CE outer P w H s Q u s'
  | .ok _ => False
  | .error e => CX outer H s E e s'
structure FnOk (P : Program) (w : World) (K : PySem.W.Frag) (mg : Str → Option Value) (base : Heap) (CX : CXT) (k : Nat) (f : Addr) (fd : FuncData) (ps : List Str) (sp : Sp) : Prop where
  len : ∀ vs H Q E, sp vs H Q E → vs.length = ps.length
  run : ∀ (A : Around) (outer : List Env) (s : Shared) (H : Hp) (args : Args) (us : List Value) (vs : List V) (Q : VK) (E : XK), Room k A → Env0 P w K mg base A outer s H → BindsTo s fd args (ps.zip us) → Vals vs us → sp vs H Q E →
    codeAny (model P w) A (.call (.ref f) args) (CR CX outer P w H s Q E) s
theorem Env0.make {P : Program} {w : World} {K : PySem.W.Frag} {mg : Str → Option Value} {base : Heap} {A : Around} {outer : List Env} {s : Shared} {H : Hp} (e : Env0 P w K mg base A outer s H) (C : Addr) (us : List Value) (kw : List (Str × Value)) :
    Env0 P w K mg base (A.under (.builtin "type.__call__" ⟨.ref C :: us, kw⟩)) outer s H := ⟨by first | exact e.frames | (simpa [Around.under, Code.envs, Code.isFrame, pushEnvs] using e.frames), e.mod, e.bs, e.bsz, e.funs, e.frf, e.hok, e.bare⟩
section
variable {X : Cx} {pins : List (Addr × Obj)} {σ : St} {H : Hp} {s s' : Shared}
theorem Inv.env0 (I : Inv X pins σ H s) : Env0 X.prog X.w X.K X.mg X.base X.A X.stack s H :=
  ⟨I.ok.frames, I.ok.mod, I.bs, Nat.le_trans I.ok.bsz I.sz, I.stack, I.stkFree, I.hok, I.bare⟩
theorem Inv.after {Q : VK} {u : Value} (I : Inv X pins σ H s) (h : CE X.stack X.prog X.w H s Q u s') : EP X pins σ Q u s' := by
  obtain ⟨v, H', os, bare, un, hok, r, q⟩ := h
  obtain ⟨hh, g, d, t, os'⟩ := s'
  obtain rfl : os' = s.os := os
  exact ⟨v, H', I.call (h' := hh) (g' := g) (d' := d) (t' := t) (ch := []) un hok bare (fun b z => absurd z (by simp)), r, q⟩
end
def tCall (sp : Sp) (dvs : List V) (E : XK) (t : TA) : TE := fun σ H Q => t σ H fun vs H1 => sp (vs ++ dvs) H1 Q E
def tMeth (C : Addr) (m : Str) (sp : Sp) (dvs : List V) (E : XK) (ta : TE) (t : TA) : TE := fun σ H Q => ta σ H fun x H1 => ∃ a dx fs, x = .ref a ∧ H1 a = some (.ins C dx fs) ∧ fs.lookup m = none ∧
  t σ H1 fun vs H2 => sp (x :: (vs ++ dvs)) H2 Q E
def tMake (C : Addr) (sp : Sp) (dvs : List V) (E : XK) (t : TA) : TE := fun σ H Q => t σ H fun vs H1 => ∀ x dx, H1 x = none → H1 dx = none → dx ≠ x →
  sp (.ref x :: (vs ++ dvs)) (upd (upd H1 dx (.own x)) x (.ins C dx [])) (fun v H2 => v = .non ∧ Q (.ref x) H2) E
def Binds (K : PySem.W.Frag) (fd : FuncData) (ps : List Str) (ds : List Value) : Prop :=
  ∀ (s : Shared) (us : List Value), K.In s.heap → (us ++ ds).length = ps.length → BindsTo s fd ⟨us, []⟩ (ps.zip (us ++ ds))
theorem Binds.all {K : PySem.W.Frag} {fd : FuncData} {ps : List Str} (h : ∀ us : List Value, us.length = ps.length → bindArgs fd ⟨us, []⟩ = pure (ps.zip us)) : Binds K fd ps [] := fun s us _ hl => by
  rw [List.append_nil] at hl ⊢
  exact .of_eq (h us hl)
def Passes (CX : CXT) (X : Cx) (E : XK) : Prop := ∀ (pins : List (Addr × Obj)) (σ : St) (H : Hp) (s : Shared) (e : Value) (s' : Shared), Inv X pins σ H s → CX X.stack H s E e s' → X.xe e s'
section
variable {X : Cx} {CX : CXT} {k : Nat} {f C : Addr} {fd : FuncData} {ps : List Str} {sp : Sp} {dvs : List V} {ds : List Value} {E : XK} {x m : Str} {p pos apos : Pos} {e o : Expr} {es : List Expr} {ta : TE} {t : TA}
theorem run_fn {pins : List (Addr × Obj)} {σ : St} {H : Hp} {s : Shared} {Q : VK} {us : List Value} {vs : List V} (F : FnOk X.prog X.w X.K X.mg X.base CX k f fd ps sp) (hr : Room k X.A) (hb : Binds X.K fd ps ds) (hd : Vals dvs ds) (hx : Passes CX X E)
    (I : Inv X pins σ H s) (r : Vals vs us) (h : sp (vs ++ dvs) H Q E) : wpAny (model X.prog X.w) X.A (call (.ref f) us) (EP X pins σ Q) X.xe s := by
  have r2 : Vals (vs ++ dvs) (us ++ ds) := r.append hd
  have hl : (us ++ ds).length = ps.length := by rw [← r2.length]; exact F.len _ _ _ _ h
  refine wpAny_call (codeAny_mono (F.run X.A X.stack s H ⟨us, []⟩ (us ++ ds) (vs ++ dvs) Q E hr I.env0 (hb s us I.kIn hl) r2 h) fun r s' hq => ?_)
  cases r with
  | error e => exact hx pins σ H s e s' I hq
  | ok fl =>
    cases fl with
    | ret u => exact I.after hq
    | next => exact False.elim hq
    | brk => exact False.elim hq
    | cont => exact False.elim hq
theorem pe_call (F : FnOk X.prog X.w X.K X.mg X.base CX k f fd ps sp) (hr : Room k X.A) (hg : Gl X x) (hm : X.mg x = some (.ref f)) (hk : PySem.W.keepIn X.K (.ref f) = true) (hb : Binds X.K fd ps ds) (hd : Vals dvs ds) (hx : Passes CX X E)
    (ha : PA X (e :: es) t) (hdb : (x == ("__debug__" : Str)) = false := by decide) (he : starEach (e :: es) X.env = (false, eval e X.env) :: starEach es X.env := by rfl) (hpl : (backTo pos (starEach es X.env)).any (·.1) = false := by rfl) :
    PE X (.Call (.Name x p) (e :: es) [] pos) (tCall sp dvs E t) := by
  intro pins s σ H Q I h
  refine wpAny_Call_Name_kw (ld_glob I hg hm ?_ hdb)
  refine PySem.W.callWith_K (h₀ := X.base) I.ok.mod.kin hk (thn (ha pos pins s σ H _ I h) fun us s1 ⟨vs, H1, I1, r, q⟩ => ⟨I1.kIn, ?_⟩) he hpl
  exact run_fn F hr hb hd hx I1 r q
theorem pe_meth {pl : Sem Bool} (he : PE X o ta) (c : Cls X.K C) (hm : Meth X.K C m f) (F : FnOk X.prog X.w X.K X.mg X.base CX k f fd ps sp) (hr : Room k X.A) (hb : Binds X.K fd ps ds) (hd : Vals dvs ds) (hx : Passes CX X E) (ha : PA X (e :: es) t)
    (hst : starEach (e :: es) X.env = (false, eval e X.env) :: starEach es X.env := by rfl) (hpl : (backTo pos (starEach es X.env)).any (·.1) = false := by rfl)
    (ht : eval (.Call (.Attribute o m apos) (e :: es) [] pos) X.env = (do
      let ov ← eval o X.env
      standAt apos.atName
      let (f, first) ← holding [ov] (getMethod ov m pl)
      callWith pos f first (backTo pos (starEach (e :: es) X.env)) (backToKw pos (keywordEach [] X.env))) := by rfl) :
    PE X (.Call (.Attribute o m apos) (e :: es) [] pos) (tMeth C m sp dvs E ta t) := by
  intro pins s σ H Q I h
  refine PySem.W.methodCall_KW (pl := pl) (thn (he pins s σ H _ I h) fun u s1 ⟨x, H1, I1, rx, a, dx, fs, ex, ea, l, q⟩ => ?_) ht
  subst ex
  obtain rfl : u = Value.ref a := rx
  refine getmeth_ok I1 ea c hm l ?_
  refine PySem.W.callWith_K (first := [.ref a]) (h₀ := X.base) I.ok.mod.kin hm.kp (thn (ha pos pins s1 σ H1 _ I1 q) fun us s2 ⟨vs, H2, I2, r, q2⟩ => ⟨I2.kIn, ?_⟩) hst hpl
  exact run_fn (us := .ref a :: us) (vs := .ref a :: vs) F hr hb hd hx I2 (.cons rfl r) q2
structure Mk (K : PySem.W.Frag) (C f : Addr) : Prop where
  makes : PySem.W.makesIn K C = true
  init : PySem.W.findIn K (.ref C) "__init__" = some (some (.ref f))
  fn : PySem.W.isFn K (.ref f) = true
  kp : PySem.W.keepIn K (.ref C) = true
theorem run_make {pins : List (Addr × Obj)} {σ : St} {H : Hp} {s : Shared} {Q : VK} {us : List Value} {vs : List V} (M : Mk X.K C f) (F : FnOk X.prog X.w X.K X.mg X.base CX k f fd ps sp) (hr : Room (k + 1) X.A) (hb : Binds X.K fd ps ds) (hd : Vals dvs ds)
    (hx : Passes CX X E) (I : Inv X pins σ H s) (r : Vals vs us)
    (h : ∀ x dx, H x = none → H dx = none → dx ≠ x → sp (.ref x :: (vs ++ dvs)) (upd (upd H dx (.own x)) x (.ins C dx [])) (fun v H2 => v = .non ∧ Q (.ref x) H2) E) :
    wpAny (model X.prog X.w) X.A (call (.ref C) us) (EP X pins σ Q) X.xe s := by
  have hq := h (s.heap.objs.size + 1) s.heap.objs.size (I.hok.fresh (Nat.le_succ _)) (I.hok.fresh (Nat.le_refl _)) (Nat.ne_of_lt (Nat.lt_succ_self _))
  have I2 := Inv.made (C := C) I
  have r2 : Vals (V.ref (s.heap.objs.size + 1) :: (vs ++ dvs)) (Value.ref (s.heap.objs.size + 1) :: (us ++ ds)) := .cons rfl (r.append hd)
  have hl : (Value.ref (s.heap.objs.size + 1) :: us ++ ds).length = ps.length := by
    have e := r2.length
    rw [F.len _ _ _ _ hq] at e
    exact e.symm
  refine wpAny_call (make_map (f := f) I.kIn M.makes M.init (beq_iff_eq.mp M.fn) (codeAny_mono (F.run _ X.stack _ _ ⟨Value.ref (s.heap.objs.size + 1) :: us, []⟩ (Value.ref (s.heap.objs.size + 1) :: (us ++ ds)) _ _ E (hr.make C us [])
    (I2.env0.make C us []) (hb _ (Value.ref (s.heap.objs.size + 1) :: us) I2.kIn hl) r2 hq) fun r s' hq' => ?_))
  cases r with
  | error e => exact hx pins σ _ _ e s' I2 hq'
  | ok fl =>
    cases fl with
    | ret u =>
      obtain ⟨v, H', I3, rv, ev, q3⟩ := I2.after hq'
      subst ev
      exact ⟨rv, ⟨V.ref (s.heap.objs.size + 1), H', I3, rfl, q3⟩⟩
    | next => exact False.elim hq'
    | brk => exact False.elim hq'
    | cont => exact False.elim hq'
theorem pe_make (M : Mk X.K C f) (F : FnOk X.prog X.w X.K X.mg X.base CX k f fd ps sp) (hr : Room (k + 1) X.A) (hg : Gl X x) (hm : X.mg x = some (.ref C)) (hb : Binds X.K fd ps ds) (hd : Vals dvs ds) (hx : Passes CX X E)
    (ha : PA X (e :: es) t) (hdb : (x == ("__debug__" : Str)) = false := by decide) (he : starEach (e :: es) X.env = (false, eval e X.env) :: starEach es X.env := by rfl) (hpl : (backTo pos (starEach es X.env)).any (·.1) = false := by rfl) :
    PE X (.Call (.Name x p) (e :: es) [] pos) (tMake C sp dvs E t) := by
  intro pins s σ H Q I h
  refine wpAny_Call_Name_kw (ld_glob I hg hm ?_ hdb)
  refine PySem.W.callWith_K (h₀ := X.base) I.ok.mod.kin M.kp (thn (ha pos pins s σ H _ I h) fun us s1 ⟨vs, H1, I1, r, q⟩ => ⟨I1.kIn, ?_⟩) he hpl
  exact run_make M F hr hb hd hx I1 r q
end
section
variable {X : Cx} {CX : CXT} {k : Nat} {f C : Addr} {fd : FuncData} {ps ks : List Str} {sp : Sp} {E : XK} {x m : Str} {p pos apos kpos : Pos} {e o : Expr} {es : List Expr} {kws : List Keyword} {te ta : TE} {t tk : TA} {nm : Option Str}
variable {g : List Value → List Value → List Value} {gV : List V → List V → List V}
end
structure FnScope (N P : List Str) (sc : Scope) : Prop where
  kind : sc.kind = .function
  co : sc.isCoroutine = false
  gen : sc.isGenerator = false
  nd : N.Nodup
  pre : N.take P.length = P
  par : ∀ x ∈ P, sc.names.lookup x = some .local ∨ sc.names.lookup x = some .cell
  nofree : ∀ y ∈ sc.names, y.2 ≠ .free
theorem bindL_out {kindOf : Str → Option NameKind} {x : Str} : ∀ {binds : List (Str × Value)} {m : Str → Option Value}, (∀ v, (x, v) ∉ binds) → bindL kindOf binds m x = m x
  | [], _, _ => rfl
  | (n, v) :: r, m, h => by
    unfold bindL
    rw [bindL_out fun w hw => h w (List.mem_cons_of_mem _ hw)]
    split
    · have : x ≠ n := by rintro rfl; exact h v List.mem_cons_self
      simp [this]
    · rfl
theorem bindC_out {kindOf : Str → Option NameKind} {x : Str} : ∀ {binds : List (Str × Value)} {m : Str → Option Value}, (∀ v, (x, v) ∉ binds) → bindC kindOf binds m x = m x
  | [], _, _ => rfl
  | (n, v) :: r, m, h => by
    unfold bindC
    rw [bindC_out fun w hw => h w (List.mem_cons_of_mem _ hw)]
    split
    · rfl
    · have : x ≠ n := by rintro rfl; exact h v List.mem_cons_self
      simp [this]
theorem bindL_get {kindOf : Str → Option NameKind} {x : Str} {v : Value} : ∀ {P : List Str} {vs : List Value} {i : Nat} {m : Str → Option Value}, P.Nodup → P[i]? = some x → vs[i]? = some v → kindOf x = some .local →
    bindL kindOf (P.zip vs) m x = some v
  | [], _, _, _, _, h, _, _ => by simp at h
  | _ :: _, [], _, _, _, _, h, _ => by simp at h
  | p :: P, w :: vs, 0, m, nd, h1, h2, hk => by
    simp at h1 h2; subst h1; subst h2
    show bindL kindOf ((p, w) :: P.zip vs) m p = _
    unfold bindL
    rw [bindL_out fun v hv => (List.nodup_cons.mp nd).1 (List.of_mem_zip hv).1, if_pos hk]
    simp
  | p :: P, w :: vs, i + 1, m, nd, h1, h2, hk => by
    show bindL kindOf ((p, w) :: P.zip vs) m x = _
    unfold bindL
    exact bindL_get (i := i) (List.nodup_cons.mp nd).2 (by simpa using h1) (by simpa using h2) hk
theorem bindC_get {kindOf : Str → Option NameKind} {x : Str} {v : Value} : ∀ {P : List Str} {vs : List Value} {i : Nat} {m : Str → Option Value}, P.Nodup → P[i]? = some x → vs[i]? = some v → kindOf x ≠ some .local →
    bindC kindOf (P.zip vs) m x = some v
  | [], _, _, _, _, h, _, _ => by simp at h
  | _ :: _, [], _, _, _, _, h, _ => by simp at h
  | p :: P, w :: vs, 0, m, nd, h1, h2, hk => by
    simp at h1 h2; subst h1; subst h2
    show bindC kindOf ((p, w) :: P.zip vs) m p = _
    unfold bindC
    rw [bindC_out fun v hv => (List.nodup_cons.mp nd).1 (List.of_mem_zip hv).1, if_neg hk]
    simp
  | p :: P, w :: vs, i + 1, m, nd, h1, h2, hk => by
    show bindC kindOf ((p, w) :: P.zip vs) m x = _
    unfold bindC
    exact bindC_get (i := i) (List.nodup_cons.mp nd).2 (by simpa using h1) (by simpa using h2) hk
def start (N : List Str) (vs : List V) : St := vs.map some ++ List.replicate (N.length - vs.length) none
def cxOf (CX : CXT) (P : Program) (w : World) (K : PySem.W.Frag) (mg : Str → Option Value) (base : Heap) (N : List Str) (qual : Str) (scope : Scope) (f : Addr) (cd : Value) (A : Around) (outer : List Env) (s : Shared) (H : Hp) (E : XK) : Cx where
  prog := P
  w := w
  K := K
  mg := mg
  base := base
  A := A.deeper (envOfC qual scope s.heap.objs.size f cd)
  N := N
  s₀ := s
  H₀ := H
  env := envOfC qual scope s.heap.objs.size f cd
  outer := outer
  stack := envOfC qual scope s.heap.objs.size f cd :: outer
  ex := []
  calm := true
  fn := fun _ => true
  pn := []
  xe := fun e s' => wpAny (model P w) (A.deeper (envOfC qual scope s.heap.objs.size f cd)) (leaving (envOfC qual scope s.heap.objs.size f cd) e) (fun _ s'' => CX outer H s E e s'') (fun e' s'' => CX outer H s E e' s'') s'
theorem cell_has {sc : Scope} {n : Nat} {x : Str} (h : sc.names.lookup x = some .cell) : ∃ c, (cellsFrom n sc.names []).lookup x = some c := by
  have q := PySem.W.cellsFrom_some sc.names n [] (.inl h)
  exact Option.isSome_iff_exists.mp q
theorem inv_start {CX : CXT} {P : Program} {w : World} {K : PySem.W.Frag} {mg : Str → Option Value} {base : Heap} {N ps : List Str} {qual : Str} {scope : Scope} {f : Addr} {cd : Value} {A : Around} {outer : List Env} {s s1 : Shared} {H : Hp} {E : XK} {us : List Value} {vs : List V}
    (S : FnScope N ps scope) (hd : A.handled = none) (e0 : Env0 P w K mg base A outer s H) (hl : vs.length = ps.length) (r : Vals vs us)
    (x : InCallC s s.heap.objs.size (bindL (envOfC qual scope s.heap.objs.size f cd).kindOf (ps.zip us) fun _ => none) (cellsFrom (s.heap.objs.size + 1) scope.names []) (bindC (envOfC qual scope s.heap.objs.size f cd).kindOf (ps.zip us) fun _ => none) s1) :
    Inv (cxOf CX P w K mg base N qual scope f cd A outer s H E) [] (start N vs) H s1 := by
  have hpl : ps.length ≤ N.length := by have := congrArg List.length S.pre; rw [List.length_take] at this; omega
  obtain ⟨h1, tk, rfl, hk⟩ := x.done
  have noA : ∀ b : Addr, b ∉ (cxOf CX P w K mg base N qual scope f cd A outer s H E).ex := fun b z => absurd (show b ∈ ([] : List Addr) from z) (by simp)
  refine ⟨⟨e0.mod, S.kind, rfl, rfl, Nat.le_refl _, fun y z c h1 h2 => ?_, fun y hy => ?_, fun y c _ h => ?_, fun _ => hd, Around.frames_deeper e0.frames, .inr ⟨rfl, rfl⟩, fun b z => absurd z (noA b), e0.bs, e0.bsz, fun b _ _ => noA b, fun b z => absurd z (noA b), e0.funs, e0.frf⟩,
    rfl, e0.bare, Un.kept hk, ⟨_, x.toInCall.ns, fun i y v h1 h2 h3 => ?_⟩, fun y c h => ⟨_, x.cell y c h⟩, e0.hok.fresh (Nat.le_refl _), fun y c h => ?_, fun p hp => absurd (show p ∈ ([] : List (Addr × Obj)) from hp) (by simp), e0.hok.kept hk, ?_⟩
  · exact name_of_addr x.apart (PySem.mem_of_lookup h1) (PySem.mem_of_lookup h2)
  · have hy : scope.names.lookup y = some .cell ∨ scope.names.lookup y = some .free := hy
    rcases hy with hy | hy
    · exact cell_has hy
    · exact absurd rfl (S.nofree _ (PySem.mem_of_lookup hy))
  · exact Nat.le_of_lt (x.above y c (PySem.mem_of_lookup h))
  · have hi : i < vs.length := by
      unfold start at h2
      by_cases hi : i < vs.length
      · exact hi
      · rw [List.getElem?_append_right (by simpa using hi)] at h2
        rw [List.getElem?_replicate] at h2
        split at h2 <;> cases h2
    have ha : vs[i]? = some v := by
      unfold start at h2
      rw [List.getElem?_append_left (by simpa using hi), List.getElem?_map] at h2
      cases e : vs[i]? with
      | none => rw [e] at h2; cases h2
      | some a => rw [e] at h2; cases h2; rfl
    obtain ⟨u, hu, rv⟩ := r.get ha
    have hp : ps[i]? = some y := by
      rw [← S.pre, List.getElem?_take_of_lt (by omega)]; exact h1
    have ndP : ps.Nodup := by rw [← S.pre]; exact S.nd.sublist (List.take_sublist _ _)
    refine ⟨u, rv, ?_⟩
    rcases S.par y (List.mem_of_getElem? hp) with k | k
    · exact .inl ⟨k, bindL_get ndP hp hu k⟩
    · obtain ⟨c, e⟩ := cell_has (n := s.heap.objs.size + 1) k
      refine .inr ⟨.inl k, c, e, ?_⟩
      have q := x.cell y c e
      rw [bindC_get ndP hp hu (by show scope.names.lookup y ≠ _; rw [k]; decide)] at q
      exact q
  · exact e0.hok.fresh (Nat.le_of_lt (x.above y c (PySem.mem_of_lookup h)))
  · unfold start
    show _ = N.length
    rw [List.length_append, List.length_map, List.length_replicate]
    omega
theorem fn_of {CX : CXT} {P : Program} {w : World} {K : PySem.W.Frag} {mg : Str → Option Value} {base : Heap} {k : Nat} {f : Addr} {name qual : Str} {params : Arguments} {body : List Stmt} {scope : Scope} {dV kV doc pm cdv ct oc : Value} {an od : Option Addr}
    {osl : Array (Option Value)} {N ps : List Str} {sp : Sp} (lk : K.lookup f = some ⟨oc, od, .func (PySem.W.fnOf name qual params body scope dV kV doc pm an cdv ct), osl⟩) (hcd : PySem.W.codeIn K cdv qual = true) (S : FnScope N ps scope)
    (len : ∀ vs H Q E, sp vs H Q E → vs.length = ps.length)
    (hbody : ∀ (A : Around) (outer : List Env) (s : Shared) (H : Hp) (vs : List V) (Q : VK) (E : XK), Room k (A.deeper (envOfC qual scope s.heap.objs.size f cdv)) → sp vs H Q E →
      ∃ t, PSs (cxOf CX P w K mg base N qual scope f cdv A outer s H E) body t ∧ t { nx := fun _ H' => Q .non H', rt := Q } (start N vs) H) :
    FnOk P w K mg base CX (k + 1) f (PySem.W.fnOf name qual params body scope dV kV doc pm an cdv ct) ps sp := by
  refine ⟨len, fun A outer s H args us vs Q E hr e0 hb r hsp => ?_⟩
  have hl := len _ _ _ _ hsp
  have KX : K.In s.heap := e0.mod.kin.keeps fun b o e => (e0.bs b o e).1
  have lim : s.heap.NoLimit := e0.mod.nolimit.keeps fun b o e => (e0.bs b o e).1
  have hkind : ∀ y ∈ ps.zip us, scope.names.lookup y.1 = some .local ∨ (scope.names.lookup y.1 = some .cell ∧ ((cellsFrom (s.heap.objs.size + 1) scope.names []).lookup y.1).isSome = true) := fun ⟨n, v⟩ hy => by
    rcases S.par n (List.of_mem_zip hy).1 with q | q
    · exact .inl q
    · exact .inr ⟨q, PySem.W.cellsFrom_some _ _ _ (.inl q)⟩
  refine codeAny_call_function hr.depth (KX _ _ lk) rfl S.co S.gen rfl (PySem.W.codeRec_of KX hcd) (hb _ _ _ _ ?_)
  refine wpAny_newFunctionEnv_cells S.kind hkind fun env he s1 x => ?_
  subst he
  refine ⟨lim.keeps x.toInCall.keep, codeAny_func ?_⟩
  obtain ⟨t, ht, hq⟩ := hbody A outer s H vs Q E (hr.deeper _) hsp
  have I : Inv (cxOf CX P w K mg base N qual scope f cdv A outer s H E) [] (start N vs) H s1 := inv_start S hr.hd e0 hl r x
  refine wpAny_mono (ht [] s1 (start N vs) H _ I hq) (fun fl s' hs => ?_) fun e s' hs => hs
  have fin : ∀ {σ' : St} {H' : Hp} {v : V} {u : Value}, Inv (cxOf CX P w K mg base N qual scope f cdv A outer s H E) [] σ' H' s' → RelV v u → Q v H' → CE outer P w H s Q u s' :=
    fun {σ' H' v u} J rv q => ⟨v, H', J.os, J.bare, J.base, J.hok, rv, q⟩
  cases fl with
  | ret u =>
    obtain ⟨v, σ', H', J, rv, q⟩ := hs
    exact fin J rv q
  | next =>
    obtain ⟨σ', H', J, q⟩ := hs
    exact fin (v := V.non) (u := Value.none) J rfl q
  | brk =>
    obtain ⟨_, _, _, q⟩ := hs
    exact False.elim q
  | cont =>
    obtain ⟨_, _, _, q⟩ := hs
    exact False.elim q
end L2
namespace L2
open PySem PySem.Spec PyProof.Rows
section
variable {X : Cx} {x : Str} {p pos : Pos} {e : Expr} {es : List Expr} {t : TA} {id T : String} {r : List V → Hp → VK → Prop}
def tCB (r : List V → Hp → VK → Prop) (t : TA) : TE := fun σ H Q => t σ H fun vs H1 => r vs H1 Q
theorem pe_callB (hc : CallR X (.builtin id) r) (hg : Gl X x) (hm : X.mg x = none) (hv : bootBuiltins x = some (.builtin id)) (ha : PA X (e :: es) t) (hn : x ≠ "__name__" := by decide) (hdb : (x == ("__debug__" : Str)) = false := by decide)
    (he : starEach (e :: es) X.env = (false, eval e X.env) :: starEach es X.env := by rfl) (hpl : (backTo pos (starEach es X.env)).any (·.1) = false := by rfl) : PE X (.Call (.Name x p) (e :: es) [] pos) (tCB r t) := by
  intro pins s σ H Q I h
  refine wpAny_Call_Name_kw (ld_blt I hg hm hv ?_ hn hdb)
  exact PyProof.Rows.callWith_builtin1 (thn (ha pos pins s σ H _ I h) fun us s1 ⟨vs, H1, I1, r1, q1⟩ => hc pins s1 σ H1 vs us Q I1 r1 q1) he hpl
theorem pe_callTy (hc : CallR X (.type T) r) (hg : Gl X x) (hm : X.mg x = none) (hv : bootBuiltins x = some (.type T)) (ha : PA X (e :: es) t) (hn : x ≠ "__name__" := by decide) (hdb : (x == ("__debug__" : Str)) = false := by decide)
    (he : starEach (e :: es) X.env = (false, eval e X.env) :: starEach es X.env := by rfl) (hpl : (backTo pos (starEach es X.env)).any (·.1) = false := by rfl) : PE X (.Call (.Name x p) (e :: es) [] pos) (tCB r t) := by
  intro pins s σ H Q I h
  refine wpAny_Call_Name_kw (ld_blt I hg hm hv ?_ hn hdb)
  exact PyProof.Rows.callWith_type1 (thn (ha pos pins s σ H _ I h) fun us s1 ⟨vs, H1, I1, r1, q1⟩ => hc pins s1 σ H1 vs us Q I1 r1 q1) he hpl
end
end L2
namespace HT
open PySem PyProof.Rows
section
open PySem.SeqAt
open PySem.AutoSeq1 (wpAny_loadPart')
open PySem.MeetsSeq PySem.MeetsSeq2 PySem.MeetsSeq3
end
section
variable {prog : Program} {w : World} {A : Around} {E : Value → Shared → Prop} {s : Shared}
theorem cat_tup {t b : Addr} {vs ws : List Value} {Q : Value → Shared → Prop} (ht : IsTup s.heap t vs.toArray) (hb : IsTup s.heap b ws.toArray) (hv : vs ≠ [])
    (h1 : ws = [] → Q (.ref t) s) (h2 : ws ≠ [] → Q (.ref s.heap.objs.size) { s with heap := s.heap.push { cls := .type "tuple", data := .seq (vs ++ ws).toArray } })
    (hsz : vs.length + ws.length ≤ sizeLine) : wpAny (model prog w) A (binaryOp .Add (.ref t) (.ref b)) Q E s := by
  obtain ⟨⟨cls, dd, data, sl⟩, ho, hc, n, hd⟩ := id ht
  obtain ⟨⟨cls2, dd2, data2, sl2⟩, ho2, hc2, n2, hd2⟩ := id hb
  simp only at hc hd hc2 hd2
  subst hc hd hc2 hd2
  have e : vs.toArray ++ ws.toArray = (vs ++ ws).toArray := by simp
  by_cases hw : ws = []
  · exact concat_meets ⟨_, ho, rfl⟩ ⟨_, ho2, rfl⟩ noFill_tuple_add seq_tuple_add PySem.F.slot_tuple_add PySem.F.entry_tuple_add (PySem.F.args_tuple_add_2 _ _)
      (tuple_addW1 t b vs.toArray ws.toArray n n2 dd dd2 sl sl2 (by simpa using hv) (by simp [hw])) ⟨ho, ho2, h1 hw⟩
  · refine concat_meets ⟨_, ho, rfl⟩ ⟨_, ho2, rfl⟩ noFill_tuple_add seq_tuple_add PySem.F.slot_tuple_add PySem.F.entry_tuple_add (PySem.F.args_tuple_add_2 _ _)
      (tuple_addW2 t b vs.toArray ws.toArray n n2 dd dd2 sl sl2 (by simpa using hv) (by simpa using hw) (by rw [List.size_toArray, List.size_toArray]; exact hsz)) ⟨ho, ho2, ?_⟩
    rw [e]
    exact h2 hw
def sIx (n d : Nat) : Option Int → Nat
  | none => d
  | some v => if v < 0 then (v + (n : Int)).toNat else min v.toNat n
theorem sIx_none (n d : Nat) : sIx n d none = d := rfl
theorem sIx_nat (n d k : Nat) : sIx n d (some (k : Int)) = min k n := by
  show (if (k : Int) < 0 then ((k : Int) + (n : Int)).toNat else min (k : Int).toNat n) = min k n
  rw [if_neg (by omega), Int.toNat_natCast]
theorem sIx_le (n d : Nat) (hd : d ≤ n) (o : Option Int) : sIx n d o ≤ n := by
  cases o with
  | none => exact hd
  | some v =>
    show (if v < 0 then (v + (n : Int)).toNat else min v.toNat n) ≤ n
    by_cases hv : v < 0
    · rw [if_pos hv]; omega
    · rw [if_neg hv]; exact Nat.min_le_right _ _
theorem clip_eq (v : Int) (n d : Nat) : (if v < 0 then max (v + (n : Int)) 0 else min v (n : Int)) = ((sIx n d (some v) : Nat) : Int) := by
  show (if v < 0 then max (v + (n : Int)) 0 else min v (n : Int)) = (((if v < 0 then (v + (n : Int)).toNat else min v.toNat n) : Nat) : Int)
  by_cases hv : v < 0
  · simp only [if_pos hv]; omega
  · simp only [if_neg hv]; omega
theorem adjust_gen (lo hi : Option Int) (n : Nat) : Builtin.Slice.sliceAdjust lo hi 1 (n : Int) = (((sIx n 0 lo : Nat) : Int), ((sIx n n hi : Nat) : Int)) := by
  have h1 : ¬ ((1 : Int) < 0) := by omega
  unfold Builtin.Slice.sliceAdjust
  simp only [h1, if_false]
  refine Prod.ext ?_ ?_
  · cases lo with
    | none => rfl
    | some v => exact clip_eq v n 0
  · cases hi with
    | none => rfl
    | some v => exact clip_eq v n n
theorem places_gen (i j : Nat) : Builtin.Slice.slicePlaces (i : Int) (j : Int) 1 = j - i := by
  unfold Builtin.Slice.slicePlaces
  have h1 : (1 : Int) > 0 := by omega
  simp only [h1, if_true, Int.ediv_one]
  split <;> omega
theorem slicePart_ {v : Value} {o : Option Int} {Q : Option Int → Shared → Prop} (p : IsPart v o) (h : Q o s) : wpAny (model prog w) A (Builtin.Slice.slicePartIndex v) Q E s := by
  cases p with
  | none => exact slicePart_none h
  | int i t => exact slicePart_int h
theorem sliceApplied_gen {sl : Addr} {vl vu : Value} {lo hi : Option Int} {n : Nat} {Q : Int × Int × Nat → Shared → Prop} (hs : s.heap.IsSliceOf sl vl vu .none) (pl : IsPart vl lo) (pu : IsPart vu hi)
    (h : Q (((sIx n 0 lo : Nat) : Int), 1, sIx n n hi - sIx n 0 lo) s) : wpAny (model prog w) A (Builtin.Slice.sliceApplied (.ref sl) (pure (n : Int))) Q E s := by
  obtain ⟨os, hos, hcs, hds⟩ := id hs
  unfold Builtin.Slice.sliceApplied Builtin.Slice.sliceFields
  refine wpAny_bind (wpAny_bind (wpAny_field hos hds (x := vl) rfl (wpAny_bind (wpAny_field hos hds (x := vu) rfl (wpAny_bind (wpAny_field hos hds (x := .none) rfl (wpAny_pure ?_)))))))
  refine wpAny_bind (slicePart_none ?_)
  show wpAny _ _ (if ((1 : Int) == 0) = true then _ else _) _ _ s
  rw [if_neg (by decide)]
  refine wpAny_bind (slicePart_ pl (wpAny_bind (slicePart_ pu (wpAny_bind (wpAny_pure ?_)))))
  show wpAny _ _ (match Builtin.Slice.sliceAdjust lo hi 1 (n : Int) with | (lo, hi) => pure (lo, (1 : Int), Builtin.Slice.slicePlaces lo hi 1)) _ _ s
  rw [adjust_gen lo hi n]
  show wpAny _ _ (pure (((sIx n 0 lo : Nat) : Int), (1 : Int), Builtin.Slice.slicePlaces ((sIx n 0 lo : Nat) : Int) ((sIx n n hi : Nat) : Int) 1)) _ _ s
  rw [places_gen]
  exact wpAny_pure h
theorem pick_gen (xs : Array Value) (i k : Nat) : ((List.range k).filterMap fun (m : Nat) => xs[((i : Int) + (m : Int) * 1).toNat]?).toArray = ((xs.toList.drop i).take k).toArray := by
  have e : (fun (m : Nat) => xs[((i : Int) + (m : Int) * 1).toNat]?) = fun m => xs[i + m]? := by
    funext m
    have : ((i : Int) + (m : Int) * 1).toNat = i + m := by omega
    rw [this]
  rw [e]
  have := pick_run xs i k
  rw [List.filterMap_map] at this
  have e2 : ((fun x => xs[x]?) ∘ fun x => i + x) = fun m => xs[i + m]? := rfl
  rw [e2] at this
  rw [this]
theorem getItem_tuple_cut {t sl : Addr} {items : Array Value} {vl vu : Value} {lo hi : Option Int} {Q : Value → Shared → Prop} (ht : IsTup s.heap t items) (hs : s.heap.IsSliceOf sl vl vu .none) (pl : IsPart vl lo) (pu : IsPart vu hi)
    (hw : ¬ (sIx items.size 0 lo = 0 ∧ sIx items.size items.size hi = items.size))
    (h : Q (.ref s.heap.objs.size) { s with heap := s.heap.push { cls := .type "tuple", data := .seq ((items.toList.drop (sIx items.size 0 lo)).take (sIx items.size items.size hi - sIx items.size 0 lo)).toArray } })
    (hsz : items.size ≤ sizeLine) : wpAny (model prog w) A (getItem (.ref t) (.ref sl)) Q E s := by
  have htake : sizeOk (.seq ((items.toList.drop (sIx items.size 0 lo)).take (sIx items.size items.size hi - sIx items.size 0 lo)).toArray) := by
    show ((items.toList.drop (sIx items.size 0 lo)).take (sIx items.size items.size hi - sIx items.size 0 lo)).toArray.size ≤ sizeLine
    rw [List.size_toArray, List.length_take, List.length_drop, Array.length_toList]
    omega
  have hj : sIx items.size items.size hi ≤ items.size := sIx_le _ _ (Nat.le_refl _) hi
  obtain ⟨os, hos, hcs, hds⟩ := id hs
  have hTs : s.TypeIs (.ref sl) "slice" := ⟨os, hos, hcs⟩
  unfold getItem
  try with_reducible refine wpAny_holding ?_
  first | refine wpAny_bind (wpAny_pure ?_) | skip
  refine wpAny_bind (wpAny_sequenceKey ht.typeIs (by decide) ?_)
  refine wpAny_bind (wpAny_callSpecial?_slot (name := Str.ofString "__getitem__") ht.typeIs PyProof.Rows.slot_tuple_getitem
    (wpAny_call_entry PyProof.Rows.slot_tuple_getitem ht.typeIs entry_tuple_getitem ?_ (args_tuple_getitem _ _)))
  show wpAny _ _ (Builtin.Tuple.tupleItemsOf (.ref t) >>= _) _ _ s
  refine wpAny_bind (tupleItemsOf_ ht ?_)
  refine wpAny_bind (wpAny_typeOf hTs ?_)
  rw [if_pos (by decide)]
  refine wpAny_bind (sliceApplied_gen hs pl pu ?_)
  have hno : ¬ ((((sIx items.size 0 lo : Nat) : Int) == 0 && (1 : Int) == 1 && (sIx items.size items.size hi - sIx items.size 0 lo) == items.size) = true) := by
    intro q
    rw [Bool.and_eq_true, Bool.and_eq_true] at q
    have q1 : ((sIx items.size 0 lo : Nat) : Int) = 0 := eq_of_beq q.1.1
    have q2 : sIx items.size items.size hi - sIx items.size 0 lo = items.size := eq_of_beq q.2
    exact hw ⟨by omega, by omega⟩
  show wpAny _ _ (if (((sIx items.size 0 lo : Nat) : Int) == 0 && (1 : Int) == 1 && (sIx items.size items.size hi - sIx items.size 0 lo) == items.size) = true then _ else _) _ _ s
  rw [if_neg hno, pick_gen]
  first
    | exact wpAny_bind (m := Builtin.Tuple.tupleExact _) (wpAny_newObj_type (wpAny_pure ⟨_, rfl, wpAny_pure h⟩) htake)
    | exact wpAny_bind (m := Builtin.Tuple.tupleExact _) (wpAny_newObj_type (wpAny_bind (wpAny_pure (wpAny_pure ⟨_, rfl, wpAny_pure h⟩))) htake)
    | exact wpAny_bind (wpAny_bind (m := Builtin.Tuple.tupleExact _) (wpAny_newObj_type (wpAny_pure (wpAny_pure ⟨_, rfl, wpAny_pure h⟩)) htake))
    | exact wpAny_bind (wpAny_bind (m := Builtin.Tuple.tupleExact _) (wpAny_newObj_type (wpAny_pure ⟨_, rfl, wpAny_pure h⟩) htake))
end
end HT
namespace L2
open PySem PySem.Spec PyProof.Rows
abbrev TO := St → Hp → (Option Int → Hp → Prop) → Prop
def PO (X : Cx) (e : Option Expr) (t : TO) : Prop :=
  ∀ (pins : List (Addr × Obj)) (s : Shared) (σ : St) (H : Hp) (Q : Option Int → Hp → Prop), Inv X pins σ H s → t σ H Q →
    wpAny (model X.prog X.w) X.A (evalPart e X.env) (fun u s' => ∃ o H', Inv X pins σ H' s' ∧ IsPart u o ∧ Q o H') X.xe s
def tNoPart : TO := fun _ H Q => Q none H
def tPart (t : TE) : TO := fun σ H Q => t σ H fun x H1 => ∃ i, x = .int i ∧ Q (some i) H1
section
variable {X : Cx} {e : Expr} {te : TE} {lo hi : Option Expr} {tl th : TO} {pos p2 : Pos}
theorem po_none : PO X none tNoPart := by
  intro pins s σ H Q I h
  rw [evalPart_none]
  exact wpAny_pure ⟨none, H, I, .none, h⟩
theorem po_some (h : PE X e te) : PO X (some e) (tPart te) := by
  intro pins s σ H Q I hw
  rw [evalPart_some]
  refine thn (h pins s σ H _ I hw) fun u s1 ⟨x, H1, I1, r1, q1⟩ => ?_
  obtain ⟨i, rfl, q⟩ := q1
  obtain ⟨t, rfl⟩ := r1
  exact ⟨some i, H1, I1, .int i t, q⟩
def SlR (X : Cx) (r : V → Option Int → Option Int → Hp → VK → Prop) : Prop :=
  ∀ (pins : List (Addr × Obj)) (s : Shared) (σ : St) (H : Hp) (x : V) (v vl vu : Value) (lo hi : Option Int) (sl : Addr) (Q : VK), Inv X pins σ H s → RelV x v → s.heap.IsSliceOf sl vl vu .none → IsPart vl lo → IsPart vu hi → r x lo hi H Q →
    ∃ T id, typeLookup (.type T) "__getitem__" = pure (some (.builtin id)) ∧ s.TypeIs v T ∧ wpAny (model X.prog X.w) X.A (getItem v (.ref sl)) (EP X pins σ Q) X.xe s
def tSl (r : V → Option Int → Option Int → Hp → VK → Prop) (te : TE) (tl th : TO) : TE := fun σ H Q => te σ H fun x H1 => tl σ H1 fun l H2 => th σ H2 fun u H3 => r x l u H3 Q
theorem pe_slice {r : V → Option Int → Option Int → Hp → VK → Prop} (hr : SlR X r) (he : PE X e te) (hl : PO X lo tl) (hu : PO X hi th) : PE X (.Subscript e (.Slice lo hi none p2) pos) (tSl r te tl th) := by
  intro pins s σ H Q I h
  refine Subscript_ (thn (he pins s σ H _ I h) fun v s1 ⟨x, H1, I1, r1, q1⟩ => ?_)
  refine wpAny_Slice (thn (hl pins s1 σ H1 _ I1 q1) fun vl s2 ⟨l, H2, I2, pl, q2⟩ => thn (hu pins s2 σ H2 _ I2 q2) fun vu s3 ⟨u, H3, I3, pu, q3⟩ => ?_)
  rw [evalPart_none]
  refine wpAny_pure ?_
  have I4 : Inv X pins σ H3 { s3 with heap := s3.heap.push { cls := .type "slice", data := .fields #[vl, vu, .none] } } := I3.kept (t' := s3.toks) fun b ob q => Heap.get?_push_of_some _ q
  obtain ⟨T, id, hT, ht, hg⟩ := hr pins { s3 with heap := s3.heap.push { cls := .type "slice", data := .fields #[vl, vu, .none] } } σ H3 x v vl vu l u s3.heap.objs.size Q I4 r1 (Heap.IsSliceOf.new ..) pl pu q3
  show wpAny (model X.prog X.w) X.A (subscriptTail e (.Slice lo hi none p2) v (.ref s3.heap.objs.size)) (EP X pins σ Q) X.xe { s3 with heap := s3.heap.push { cls := .type "slice", data := .fields #[vl, vu, .none] } }
  exact tail_any (ops := [.ref s3.heap.objs.size, v]) ht hT hg (by with_unfolding_all rfl)
def cutV (xs : List V) (lo hi : Option Int) : List V := (xs.drop (HT.sIx xs.length 0 lo)).take (HT.sIx xs.length xs.length hi - HT.sIx xs.length 0 lo)
theorem cutV_length (xs : List V) (lo hi : Option Int) : (cutV xs lo hi).length ≤ xs.length := by
  unfold cutV
  rw [List.length_take, List.length_drop]
  omega
def rSlT (K : PySem.W.Frag) : V → Option Int → Option Int → Hp → VK → Prop := fun x lo hi H Q => ∃ a xs, x = .ref a ∧ SqT K H a xs ∧
  ¬ (HT.sIx xs.length 0 lo = 0 ∧ HT.sIx xs.length xs.length hi = xs.length) ∧ ∀ p, H p = none → Q (.ref p) (upd H p (.tup (cutV xs lo hi)))
theorem sl_tup : SlR X (rSlT X.K) := by
  intro pins s σ H x v vl vu lo hi sl Q I rx hs pl pu h
  obtain ⟨a, xs, rfl, hx, hw, q⟩ := h
  cases rx
  obtain ⟨its, r, ht, hz⟩ := I.tuple hx
  have hlen : its.toArray.size = xs.length := by rw [List.size_toArray]; exact r.length.symm
  refine ⟨"tuple", _, PyProof.Rows.slot_tuple_getitem.lookup, ht.typeIs, ?_⟩
  refine HT.getItem_tuple_cut ht hs pl pu (by rw [hlen]; exact hw) ?_ (by rw [hlen]; exact hz)
  rw [hlen]
  refine ⟨.ref s.heap.objs.size, _, I.laid (t' := s.toks) (o := .tup (cutV xs lo hi)) (fun b ob q => Heap.get?_push_of_some _ q) (Nat.le_refl _) ?_, rfl, q _ (I.hok.fresh (Nat.le_refl _))⟩
  exact ⟨Nat.le_trans (cutV_length xs lo hi) hz, _, (r.drop (HT.sIx xs.length 0 lo)).take (HT.sIx xs.length xs.length hi - HT.sIx xs.length 0 lo), IsTup.new _ _⟩
def rCatT (K : PySem.W.Frag) : R2 := fun x y H Q => ∃ a b xs ys, x = .ref a ∧ y = .ref b ∧ SqT K H a xs ∧ SqT K H b ys ∧ xs ≠ [] ∧ xs.length + ys.length ≤ sizeLine ∧
  (ys = [] → Q (.ref a) H) ∧ (ys ≠ [] → ∀ p, H p = none → Q (.ref p) (upd H p (.tup (xs ++ ys))))
theorem Vals.nil_iff {xs : List V} {us : List Value} (r : Vals xs us) : us = [] ↔ xs = [] := by
  cases r with
  | nil => simp
  | cons _ _ => simp
theorem op_catT : OpR X (binaryOp .Add) (rCatT X.K) := by
  intro pins s σ H x y v u Q I rx ry h
  obtain ⟨a, b, xs, ys, rfl, rfl, ha, hb, hx, hz, q1, q2⟩ := h
  cases rx
  cases ry
  obtain ⟨its, r1, p1, _⟩ := I.tuple ha
  obtain ⟨its2, r2, p2, _⟩ := I.tuple hb
  refine HT.cat_tup p1 p2 (fun z => hx (r1.nil_iff.mp z)) (fun z => ⟨.ref a, H, I, rfl, q1 (r2.nil_iff.mp z)⟩) (fun z => ?_) (by rw [← r1.length, ← r2.length]; exact hz)
  refine ⟨.ref s.heap.objs.size, _, I.laid (t' := s.toks) (o := .tup (xs ++ ys)) (fun b ob q => Heap.get?_push_of_some _ q) (Nat.le_refl _) ?_, rfl, q2 (fun w => z (r2.nil_iff.mpr w)) _ (I.hok.fresh (Nat.le_refl _))⟩
  exact ⟨by rw [List.length_append]; exact hz, _, r1.append r2, IsTup.new _ _⟩
end
end L2
namespace L2
open PySem PySem.Spec PyProof.Rows
def ixN (n : Nat) (i : Int) : Option Nat := if 0 ≤ i then (if i < n then some i.toNat else none) else if -(n : Int) ≤ i then some (i + n).toNat else none
def atI {α : Type} (xs : List α) (i : Int) : Option α := (ixN xs.length i).bind fun j => xs[j]?
theorem ixN_seq {n : Nat} {i : Int} {j : Nat} (h : ixN n i = some j) : seqIndex? i n = some j ∧ j < n ∧ -(n : Int) ≤ i ∧ i < n := by
  unfold ixN at h
  by_cases h0 : 0 ≤ i
  · rw [if_pos h0] at h
    by_cases h1 : i < n
    · rw [if_pos h1] at h
      have e : i.toNat = j := Option.some.inj h
      exact ⟨by rw [seqIndex_of h0 h1, e], by omega, by omega, h1⟩
    · rw [if_neg h1] at h; cases h
  · rw [if_neg h0] at h
    by_cases h1 : -(n : Int) ≤ i
    · rw [if_pos h1] at h
      have e : (i + n).toNat = j := Option.some.inj h
      exact ⟨by rw [seqIndex_neg (by omega) h1, e], by omega, h1, by omega⟩
    · rw [if_neg h1] at h; cases h
theorem atI_get {α : Type} {xs : List α} {i : Int} {v : α} (h : atI xs i = some v) : ∃ j, seqIndex? i xs.length = some j ∧ xs[j]? = some v ∧ j < xs.length ∧ -(xs.length : Int) ≤ i ∧ i < xs.length := by
  unfold atI at h
  cases e : ixN xs.length i with
  | none => rw [e] at h; cases h
  | some j =>
    rw [e] at h
    obtain ⟨h1, h2, h3, h4⟩ := ixN_seq e
    exact ⟨j, h1, h, h2, h3, h4⟩
theorem atI_nat {α : Type} {xs : List α} {j : Nat} {v : α} (h : xs[j]? = some v) : atI xs (j : Int) = some v := by
  have hj : j < xs.length := (List.getElem?_eq_some_iff.mp h).1
  have e : ixN xs.length (j : Int) = some j := by
    unfold ixN
    rw [if_pos (by omega), if_pos (by omega)]; simp
  unfold atI; rw [e]; exact h
theorem atI_last {α : Type} (xs : List α) (v : α) : atI (xs ++ [v]) (-1) = some v := by
  have hl : (xs ++ [v]).length = xs.length + 1 := by simp
  have e : ixN (xs ++ [v]).length (-1) = some xs.length := by
    unfold ixN
    rw [hl, if_neg (by decide), if_pos (by omega)]
    congr 1
    omega
  unfold atI
  rw [e]
  show (xs ++ [v])[xs.length]? = some v
  simp
def PlainIx (b : Expr) : Prop := ∀ o i, subscripted b false o i = operate [o, i] (getItem o i)
def IxR (X : Cx) (r : R2) : Prop :=
  ∀ (value slice : Expr) (pins : List (Addr × Obj)) (s : Shared) (σ : St) (H : Hp) (x y : V) (v u : Value) (Q : VK), Inv X pins σ H s → RelV x v → RelV y u → r x y H Q →
    subscripted slice false v u = operate [v, u] (getItem v u) → wpAny (model X.prog X.w) X.A (subscriptTail value slice v u) (EP X pins σ Q) X.xe s
def MtR (X : Cx) (id : String) (r : V → List V → Hp → VK → Prop) : Prop :=
  ∀ (pins : List (Addr × Obj)) (s : Shared) (σ : St) (H : Hp) (x : V) (xs : List V) (v : Value) (us : List Value) (Q : VK), Inv X pins σ H s → RelV x v → Vals xs us → r x xs H Q →
    wpAny (model X.prog X.w) X.A (call (.builtin id) (v :: us)) (EP X pins σ Q) X.xe s
section
variable {X : Cx} {a b : Expr} {ta tb : TE} {pos : Pos}
theorem pe_ix {r : R2} (hr : IxR X r) (ha : PE X a ta) (hb : PE X b tb) (hs : PlainIx b) : PE X (.Subscript a b pos) (tOp r ta tb) := by
  intro pins s σ H Q I h
  exact Subscript_ (binT ha hb I h fun v u s2 x y H2 I2 rx ry q => hr a b pins s2 σ H2 x y v u Q I2 rx ry q (hs _ _))
def rIxL (K : PySem.W.Frag) : R2 := fun x y H Q => ∃ p xs i v, x = .ref p ∧ y = .int i ∧ SqL K H p xs ∧ atI xs i = some v ∧ Q v H
def rIxT (K : PySem.W.Frag) : R2 := fun x y H Q => ∃ p xs i v, x = .ref p ∧ y = .int i ∧ SqT K H p xs ∧ atI xs i = some v ∧ Q v H
def rIxS : R2 := fun x y H Q => ∃ z i c, x = .str z ∧ y = .int i ∧ z.length ≤ sizeLine ∧ atI z.cps.toList i = some c ∧ Q (.str ⟨#[c]⟩) H
theorem ix_list : IxR X (rIxL X.K) := by
  intro value slice pins s σ H x y v u Q I rx ry h hs
  obtain ⟨p, xs, i, z, rfl, rfl, hq, he, q⟩ := h
  cases rx
  obtain ⟨t, rfl⟩ := ry
  obtain ⟨its, r, pl, hz⟩ := I.list hq
  obtain ⟨j, h1, h2, h3, h4, h5⟩ := atI_get he
  obtain ⟨w, ew, rw'⟩ := r.get h2
  have hl := r.length
  have hn := line63
  have fin : EP X pins σ Q w s := ⟨z, H, I, rw', q⟩
  by_cases h0 : 0 ≤ i
  · have hj : i.toNat = j := by
      rw [seqIndex_of h0 h5] at h1
      exact Option.some.inj h1
    exact item_listR pl.isList h0 (by omega) (by rw [hj]; simpa using ew) fin hs
  · have hj : (i + (its.toArray.size : Int)).toNat = j := by
      rw [seqIndex_neg (by omega) h4] at h1
      rw [List.size_toArray, ← hl]
      exact Option.some.inj h1
    exact subscriptTail_builtinR (x := w) pl.isList.typeIs slot_list_getitem.lookup
      (wpAny_getItem_list_neg (Q := fun r s' => r = w ∧ EP X pins σ Q r s') pl.isList (by omega) (by rw [List.size_toArray] <;> omega) (by omega) (by rw [hj]; simpa using ew) ⟨rfl, fin⟩) hs
theorem ix_tup : IxR X (rIxT X.K) := by
  intro value slice pins s σ H x y v u Q I rx ry h hs
  obtain ⟨p, xs, i, z, rfl, rfl, hq, he, q⟩ := h
  cases rx
  obtain ⟨t, rfl⟩ := ry
  obtain ⟨its, r, pl, hz⟩ := I.tuple hq
  obtain ⟨j, h1, h2, h3, h4, h5⟩ := atI_get he
  obtain ⟨w, ew, rw'⟩ := r.get h2
  have hl := r.length
  have hn := line63
  have fin : EP X pins σ Q w s := ⟨z, H, I, rw', q⟩
  exact subscriptTail_builtinR (x := w) pl.typeIs slot_tuple_getitem.lookup
    (getItem_tuple (j := j) (Q := fun r s' => r = w ∧ EP X pins σ Q r s') pl (by omega) (by omega) (by rw [List.size_toArray, ← hl]; exact h1) (by simpa using ew) ⟨rfl, fin⟩) hs
theorem ix_str : IxR X rIxS := by
  intro value slice pins s σ H x y v u Q I rx ry h hs
  obtain ⟨z, i, c, rfl, rfl, hz, he, q⟩ := h
  obtain ⟨t, rfl⟩ := rx
  obtain ⟨t', rfl⟩ := ry
  obtain ⟨j, h1, h2, h3, h4, h5⟩ := atI_get he
  have hl : z.cps.toList.length = z.length := by simp [Str.length]
  rw [hl] at h1 h4 h5
  have hn := line63
  exact tail_any (typeIs_str s z t) slot_str_getitem.lookup (getItem_str (c := c) (by
    have e1 : decide (i < -(2 ^ 63 : Int)) = false := decide_eq_false (by omega)
    have e2 : decide (i ≥ 2 ^ 63) = false := decide_eq_false (by omega)
    rw [e1, e2, Bool.or_false]) (by rw [h1]; simpa using h2) ⟨.str ⟨#[c]⟩, H, I.tok _, ⟨_, rfl⟩, q⟩) hs
theorem mapSeq_set (its : List Value) (n j : Nat) (u : Value) : Obj.mapSeq (·.setIfInBounds j u) { cls := .type "list", data := .seq its.toArray n } = { cls := .type "list", data := .seq (its.set j u).toArray n } := by
  simp [Obj.mapSeq]
theorem Inv.lst {pins : List (Addr × Obj)} {σ : St} {H : Hp} {s : Shared} {p : Addr} {xs : List V} (I : Inv X pins σ H s) (h : H p = some (.lst xs)) :
    ∃ (its : List Value) (n : Nat), Vals xs its ∧ s.heap.get? p = some { cls := .type "list", data := .seq its.toArray n } ∧ xs.length ≤ sizeLine := by
  obtain ⟨z, its, n, r, e⟩ := I.hok p _ h
  exact ⟨its, n, r, e, z⟩
theorem Inv.lstUpd {pins : List (Addr × Obj)} {σ : St} {H : Hp} {s : Shared} {p : Addr} {xs ys : List V} {its its' : List Value} {n n' : Nat} {f : Obj → Obj} (I : Inv X pins σ H s) (h : H p = some (.lst xs))
    (ho : s.heap.get? p = some { cls := .type "list", data := .seq its.toArray n }) (hf : f { cls := .type "list", data := .seq its.toArray n } = { cls := .type "list", data := .seq its'.toArray n' }) (r : Vals ys its') (hz : ys.length ≤ sizeLine) (t : Nat) :
    Inv X pins σ (upd H p (.lst ys)) { s with heap := s.heap.update p f, toks := t } := by
  have e : (s.heap.update p f).get? p = some { cls := .type "list", data := .seq its'.toArray n' } := by
    rw [Heap.get?_update_self f ho (by rw [hf] <;> rfl), hf]
  refine I.write (x := p) (e := p) (by rw [h]; trivial) (.inl rfl) (fun b u hb q => (Heap.get?_update_other _ _ (Ne.symm hb)).trans q) ⟨_, e⟩ ?_
  exact ⟨hz, its', n', r, e⟩
def rSetL : V → V → V → Hp → (Hp → Prop) → Prop := fun o i v H Q => ∃ p xs k j, o = .ref p ∧ i = .int k ∧ H p = some (.lst xs) ∧ ixN xs.length k = some j ∧ Q (upd H p (.lst (xs.set j v)))
theorem set_list : PSet X rSetL := by
  intro pins s σ H o i v ov iv u Q I ro ri rv h
  obtain ⟨p, xs, k, j, rfl, rfl, hp, hj, q⟩ := h
  cases ro
  obtain ⟨t, rfl⟩ := ri
  obtain ⟨its, n, r, ho, hz⟩ := I.lst hp
  obtain ⟨h1, h2, h3, h4⟩ := ixN_seq hj
  have hl := r.length
  have hn := line63
  have I' : Inv X pins σ (upd H p (.lst (xs.set j v))) { s with heap := s.heap.update p (Obj.mapSeq (·.setIfInBounds j u)) } :=
    I.lstUpd hp ho (mapSeq_set its n j u) (r.set rv j) (by rw [List.length_set]; exact hz) s.toks
  by_cases h0 : 0 ≤ k
  · have hk : k.toNat = j := by
      rw [seqIndex_of h0 h4] at h1
      exact Option.some.inj h1
    exact PySem.W.ki_setAt ho h0 (by omega) (by rw [List.size_toArray, ← hl]; exact h4) (by rw [hk]; exact ⟨_, I', q⟩)
  · have hk : (k + (its.toArray.size : Int)).toNat = j := by
      rw [seqIndex_neg (by omega) h3] at h1
      rw [List.size_toArray, ← hl]
      exact Option.some.inj h1
    exact PySem.W.ki_setBack ho (by omega) (by rw [List.size_toArray, ← hl]; exact h3) (by omega) (by rw [hk]; exact ⟨_, I', q⟩)
theorem slice_bounds (lo hi : Option Int) (n : Nat) : (sliceBounds lo hi none n).1 = ((HT.sIx n 0 lo : Nat) : Int) ∧ (sliceBounds lo hi none n).2.1 = ((HT.sIx n n hi : Nat) : Int) ∧ (sliceBounds lo hi none n).2.2 = 1 := by
  refine ⟨?_, ?_, rfl⟩
  · cases lo with
    | none => simp [sliceBounds, HT.sIx]
    | some i =>
      simp only [sliceBounds, HT.sIx, Option.getD_none, show (1 : Int) > 0 by decide, if_true]
      by_cases h : i < 0
      · simp only [h, if_true] <;> omega
      · simp only [h, if_false] <;> omega
  · cases hi with
    | none => simp [sliceBounds, HT.sIx]
    | some i =>
      simp only [sliceBounds, HT.sIx, Option.getD_none, show (1 : Int) > 0 by decide, if_true]
      by_cases h : i < 0
      · simp only [h, if_true] <;> omega
      · simp only [h, if_false] <;> omega
theorem slicePick_cut (its : List Value) (lo hi : Option Int) : slicePick its.toArray lo hi none = ((its.drop (HT.sIx its.length 0 lo)).take (HT.sIx its.length its.length hi - HT.sIx its.length 0 lo)).toArray := by
  obtain ⟨h1, h2, h3⟩ := slice_bounds lo hi its.toArray.size
  unfold slicePick
  rw [h1, h2, h3]
  simp only [sliceRange_one, pick_run, List.size_toArray] <;> rfl
def rSlL (K : PySem.W.Frag) : V → Option Int → Option Int → Hp → VK → Prop := fun x lo hi H Q => ∃ a xs, x = .ref a ∧ SqL K H a xs ∧ ∀ p, H p = none → Q (.ref p) (upd H p (.lst (cutV xs lo hi)))
theorem sl_list : SlR X (rSlL X.K) := by
  intro pins s σ H x v vl vu lo hi sl Q I rx hs pl pu h
  obtain ⟨a, xs, rfl, hx, q⟩ := h
  cases rx
  obtain ⟨its, r, ht, hz⟩ := I.list hx
  have hlen := r.length
  refine ⟨"list", _, slot_list_getitem.lookup, ht.isList.typeIs, ?_⟩
  refine wpAny_getItem_list_slice ht.isList hs pl pu .none (by simp) ?_ (by rw [List.size_toArray] <;> omega)
  rw [slicePick_cut, ← hlen]
  refine ⟨.ref s.heap.objs.size, _, I.laid (t' := s.toks) (o := .lst (cutV xs lo hi)) (fun b ob q => Heap.get?_push_of_some _ q) (Nat.le_refl _) ?_, rfl, q _ (I.hok.fresh (Nat.le_refl _))⟩
  exact ⟨Nat.le_trans (cutV_length xs lo hi) hz, _, 0, (r.drop (HT.sIx xs.length 0 lo)).take (HT.sIx xs.length xs.length hi - HT.sIx xs.length 0 lo), Heap.get?_push_size _ rfl⟩
def flatV : V → Bool
  | .non => true
  | .bl _ => true
  | .int _ => true
  | .str _ => true
  | _ => false
def eqV : V → V → Bool
  | .non, .non => true
  | .bl a, .bl b => a == b
  | .bl a, .int b => (if a then 1 else 0) == b
  | .int a, .bl b => a == (if b then 1 else 0)
  | .int a, .int b => a == b
  | .str a, .str b => a == b
  | _, _ => false
theorem eqAt_V {A : Around} {s : Shared} {y x : V} {u v : Value} (ry : RelV y u) (rx : RelV x v) (fy : flatV y = true) (fx : flatV x = true) : SeqAt.EqAt A s u v (eqV y x) := by
  cases y with
  | non =>
    cases ry
    cases x with
    | non => cases rx; exact SeqAt.EqAt.same _
    | bl b => cases rx; exact SeqAt.EqAt.none_bool b
    | int b => obtain ⟨t, rfl⟩ := rx; exact SeqAt.EqAt.none_int b t
    | str b => obtain ⟨t, rfl⟩ := rx; exact SeqAt.EqAt.none_str b t
    | _ => exact absurd (show false = true from fx) Bool.false_ne_true
  | bl a =>
    cases ry
    cases x with
    | non => cases rx; exact SeqAt.EqAt.bool_none a
    | bl b => cases rx; exact SeqAt.EqAt.bool_bool a b
    | int b => obtain ⟨t, rfl⟩ := rx; exact SeqAt.EqAt.bool_int a b t
    | str b => obtain ⟨t, rfl⟩ := rx; exact SeqAt.EqAt.bool_str a b t
    | _ => exact absurd (show false = true from fx) Bool.false_ne_true
  | int a =>
    obtain ⟨t', rfl⟩ := ry
    cases x with
    | non => cases rx; exact SeqAt.EqAt.int_none a t'
    | bl b => cases rx; exact SeqAt.EqAt.int_bool a t' b
    | int b => obtain ⟨t, rfl⟩ := rx; exact SeqAt.EqAt.int_int a t' b t
    | str b => obtain ⟨t, rfl⟩ := rx; exact SeqAt.EqAt.int_str a t' b t
    | _ => exact absurd (show false = true from fx) Bool.false_ne_true
  | str a =>
    obtain ⟨t', rfl⟩ := ry
    cases x with
    | non => cases rx; exact SeqAt.EqAt.str_none a t'
    | bl b => cases rx; exact SeqAt.EqAt.str_bool a t' b
    | int b => obtain ⟨t, rfl⟩ := rx; exact SeqAt.EqAt.str_int a t' b t
    | str b => obtain ⟨t, rfl⟩ := rx; exact SeqAt.EqAt.str_str a t' b t
    | _ => exact absurd (show false = true from fx) Bool.false_ne_true
  | _ => exact absurd (show false = true from fy) Bool.false_ne_true
def eqU (x : V) (u : Value) : Bool := match u with
  | .none => eqV .non x
  | .bool b => eqV (.bl b) x
  | .int i _ => eqV (.int i) x
  | .str z _ => eqV (.str z) x
  | _ => false
theorem eqU_of {x y : V} {u : Value} (r : RelV y u) (f : flatV y = true) : eqU x u = eqV y x := by
  cases y with
  | non => cases r; rfl
  | bl b => cases r; rfl
  | int i => obtain ⟨t, rfl⟩ := r; rfl
  | str z => obtain ⟨t, rfl⟩ := r; rfl
  | _ => exact absurd (show false = true from f) Bool.false_ne_true
theorem any_eqU {x : V} : ∀ {xs : List V} {us : List Value}, Vals xs us → xs.all flatV = true → us.any (eqU x) = xs.any fun y => eqV y x
  | _, _, .nil, _ => rfl
  | y :: xs, u :: us, .cons r t, f => by
    rw [List.all_cons, Bool.and_eq_true] at f
    rw [List.any_cons, List.any_cons, eqU_of r f.1, any_eqU t f.2]
theorem mem_eqAt {A : Around} {s : Shared} {x : V} {v : Value} (rx : RelV x v) (fx : flatV x = true) : ∀ {xs : List V} {us : List Value}, Vals xs us → xs.all flatV = true → ∀ u ∈ us, SeqAt.EqAt A s u v (eqU x u)
  | _, _, .nil, _ => fun u hu => by cases hu
  | y :: xs, u :: us, .cons r t, f => fun u' hu => by
    rw [List.all_cons, Bool.and_eq_true] at f
    rcases List.mem_cons.mp hu with rfl | hu
    · rw [eqU_of r f.1]; exact eqAt_V r rx f.1 fx
    · exact mem_eqAt rx fx t f.2 u' hu
def inV (x : V) (xs : List V) : Bool := xs.any fun y => eqV y x
def rIn (K : PySem.W.Frag) (neg : Bool) : R2 := fun x y H Q => ∃ p xs, y = .ref p ∧ (SqL K H p xs ∨ SqT K H p xs) ∧ flatV x = true ∧ xs.all flatV = true ∧ Q (.bl (if neg then !inV x xs else inV x xs)) H
theorem op_in_seq : OpR X (compareOp .In) (rIn X.K false) := by
  intro pins s σ H x y v u Q I rx ry h
  obtain ⟨p, xs, rfl, hq, fx, fs, q⟩ := h
  cases ry
  rcases hq with hq | hq
  · obtain ⟨its, r, pl, hz⟩ := I.list hq
    refine SeqAt.in_listAt (eqU x) pl.isList (fun w hw => mem_eqAt rx fx r fs w (by simpa using hw)) ⟨.bl _, H, I, rfl, ?_⟩
    rw [show its.toArray.any (eqU x) = its.any (eqU x) by simp, any_eqU r fs]
    exact q
  · obtain ⟨its, r, pl, hz⟩ := I.tuple hq
    refine SeqAt.in_tupleAt (eqU x) pl (fun w hw => mem_eqAt rx fx r fs w (by simpa using hw)) ⟨.bl _, H, I, rfl, ?_⟩
    rw [show its.toArray.any (eqU x) = its.any (eqU x) by simp, any_eqU r fs]
    exact q
theorem op_notIn_seq : OpR X (compareOp .NotIn) (rIn X.K true) := by
  intro pins s σ H x y v u Q I rx ry h
  obtain ⟨p, xs, rfl, hq, fx, fs, q⟩ := h
  cases ry
  rcases hq with hq | hq
  · obtain ⟨its, r, pl, hz⟩ := I.list hq
    refine SeqAt.notIn_listAt (eqU x) pl.isList (fun w hw => mem_eqAt rx fx r fs w (by simpa using hw)) ⟨.bl _, H, I, rfl, ?_⟩
    rw [show its.toArray.any (eqU x) = its.any (eqU x) by simp, any_eqU r fs]
    exact q
  · obtain ⟨its, r, pl, hz⟩ := I.tuple hq
    refine SeqAt.notIn_tupleAt (eqU x) pl (fun w hw => mem_eqAt rx fx r fs w (by simpa using hw)) ⟨.bl _, H, I, rfl, ?_⟩
    rw [show its.toArray.any (eqU x) = its.any (eqU x) by simp, any_eqU r fs]
    exact q
theorem op_notIn_str : OpR X (compareOp .NotIn) (fun x y H Q => ∃ i j, x = .str i ∧ y = .str j ∧ Q (.bl (!(!(Builtin.Str.occurrences j i 0 j.length 1).isEmpty))) H) := by
  intro pins s σ H x y v u Q I rx ry h
  obtain ⟨i, j, rfl, rfl, q⟩ := h
  obtain ⟨t, rfl⟩ := rx
  obtain ⟨t', rfl⟩ := ry
  exact notIn_str ⟨.bl _, H, I, rfl, q⟩
theorem call_len_seq : CallR X (.builtin "len") (fun xs H Q => ∃ p ys, xs = [.ref p] ∧ (SqL X.K H p ys ∨ SqT X.K H p ys) ∧ Q (.int ys.length) H) := by
  intro pins s σ H xs us Q I r h
  obtain ⟨p, ys, rfl, hq, q⟩ := h
  obtain ⟨u, rfl, rx⟩ := vals1 r
  cases rx
  have hn := line63
  rcases hq with hq | hq
  · obtain ⟨its, r', pl, hz⟩ := I.list hq
    have hlen := r'.length
    exact Calls.call_len_list pl.isList (by simp only [List.size_toArray] <;> omega) ⟨.int ys.length, H, I.tok _, ⟨s.toks + 1, by rw [List.size_toArray, hlen]⟩, q⟩
  · obtain ⟨its, r', pl, hz⟩ := I.tuple hq
    have hlen := r'.length
    exact len_tuple pl (by simp only [List.size_toArray] <;> omega) ⟨.int ys.length, H, I.tok _, ⟨s.toks + 1, by rw [List.size_toArray, hlen]⟩, q⟩
theorem call_len_str : CallR X (.builtin "len") (fun xs H Q => ∃ z, xs = [.str z] ∧ z.length ≤ sizeLine ∧ Q (.int z.length) H) := by
  intro pins s σ H xs us Q I r h
  obtain ⟨z, rfl, hz, q⟩ := h
  obtain ⟨u, rfl, t, rfl⟩ := vals1 r
  have hn := line63
  exact len_str (by omega) ⟨.int z.length, H, I.tok _, ⟨_, rfl⟩, q⟩
theorem call_list_of : CallR X (.type "list") (fun xs H Q => ∃ p ys, xs = [.ref p] ∧ (SqL X.K H p ys ∨ SqT X.K H p ys) ∧ ∀ l, H l = none → Q (.ref l) (upd H l (.lst ys))) := by
  intro pins s σ H xs us Q I r h
  obtain ⟨p, ys, rfl, hq, q⟩ := h
  obtain ⟨u, rfl, rx⟩ := vals1 r
  cases rx
  have fin : ∀ (its : List Value), Vals ys its → ys.length ≤ sizeLine → ∀ (h' : Heap) (c' : Nat), (∀ b o', s.heap.get? b = some o' → h'.get? b = some o') →
      h'.get? s.heap.objs.size = some { cls := .type "list", dict := none, data := .seq its.toArray c', slots := #[] } → EP X pins σ Q (.ref s.heap.objs.size) { s with heap := h' } := fun its r' hz h' c' kp e =>
    ⟨.ref s.heap.objs.size, _, I.laid (t' := s.toks) kp (Nat.le_refl _) (show ObjOk X.prog X.w _ h' _ (.lst ys) from ⟨hz, its, c', r', e⟩), rfl, q _ (I.hok.fresh (Nat.le_refl _))⟩
  rcases hq with hq | hq
  · obtain ⟨its, r', pl, hz⟩ := I.list hq
    have hlen := r'.length
    obtain ⟨o, ho, hc, n, hd⟩ := pl.isList
    exact call_list_seq p (.inl rfl) ho hc hd (fun h' c' kp e => fin its r' hz h' c' kp e) (by simp only [List.size_toArray] <;> omega)
  · obtain ⟨its, r', pl, hz⟩ := I.tuple hq
    have hlen := r'.length
    obtain ⟨o, ho, hc, n, hd⟩ := pl
    exact call_list_seq p (.inr rfl) ho hc hd (fun h' c' kp e => fin its r' hz h' c' kp e) (by simp only [List.size_toArray] <;> omega)
theorem call_tuple_of : CallR X (.type "tuple") (fun xs H Q => ∃ p ys, xs = [.ref p] ∧ ((SqL X.K H p ys ∧ ∀ l, H l = none → Q (.ref l) (upd H l (.tup ys))) ∨ (SqT X.K H p ys ∧ Q (.ref p) H))) := by
  intro pins s σ H xs us Q I r h
  obtain ⟨p, ys, rfl, h⟩ := h
  obtain ⟨u, rfl, rx⟩ := vals1 r
  cases rx
  rcases h with ⟨hq, q⟩ | ⟨hq, q⟩
  · obtain ⟨its, r', pl, hz⟩ := I.list hq
    have hlen := r'.length
    refine call_tuple_list pl.isList (fun h' kp => ?_) (by simp only [List.size_toArray] <;> omega)
    have I1 : Inv X pins σ H { s with heap := h' } := I.kept (t' := s.toks) kp
    have I2 : Inv X pins σ (upd H h'.objs.size (.tup ys)) { s with heap := h'.push { cls := .type "tuple", data := .seq its.toArray } } :=
      I1.laid (t' := s.toks) (fun b o e => Heap.get?_push_of_some _ e) (Nat.le_refl _) (show ObjOk X.prog X.w _ _ _ (.tup ys) from ⟨hz, its, r', IsTup.new _ _⟩)
    exact ⟨.ref h'.objs.size, _, I2, rfl, q _ (I1.hok.fresh (Nat.le_refl _))⟩
  · obtain ⟨its, r', pl, hz⟩ := I.tuple hq
    exact call_tuple_same pl ⟨.ref p, H, I, rfl, q⟩
def tyV (K : PySem.W.Frag) (T : String) (x : V) (H : Hp) : Prop := match x with
  | .str _ => T = "str"
  | .int _ => T = "int"
  | .ref p => (T = "list" ∧ ∃ xs, SqL K H p xs) ∨ (T = "tuple" ∧ ∃ o, K.lookup p = some o ∧ o.cls = .type "tuple" ∧ o.dict = none) ∨
      (T = "dict" ∧ ((∃ kvs, H p = some (.dK kvs)) ∨ ∃ kvs, H p = some (.dT kvs))) ∨ (T = "set" ∧ ∃ S n, H p = some (.set S n))
  | _ => False
theorem tyV_is {pins : List (Addr × Obj)} {σ : St} {H : Hp} {s : Shared} {T : String} {x : V} {v : Value} (I : Inv X pins σ H s) (r : RelV x v) (ty : tyV X.K T x H) :
    s.TypeIs v T ∧ ∀ a, v = .ref a → ∃ ob, s.heap.get? a = some ob ∧ ob.dict = none := by
  cases x with
  | str z =>
    obtain ⟨t, rfl⟩ := r
    cases (show T = "str" from ty)
    exact ⟨typeIs_str s z t, fun _ e => nomatch e⟩
  | int i =>
    obtain ⟨t, rfl⟩ := r
    cases (show T = "int" from ty)
    exact ⟨typeIs_int s i t, fun _ e => nomatch e⟩
  | ref p =>
    cases r
    rcases ty with ⟨rfl, xs, hq⟩ | ⟨rfl, o, hk, hc, hd⟩ | ⟨rfl, hk⟩ | ⟨rfl, S, n, hk⟩
    · obtain ⟨its, _, pl, _⟩ := I.list hq
      refine ⟨pl.isList.typeIs, fun a e => ?_⟩
      cases e
      obtain ⟨o, n, e, c, hd, _⟩ := pl
      exact ⟨o, e, hd⟩
    · refine ⟨⟨o, I.kIn p o hk, hc⟩, fun a e => ?_⟩
      cases e
      exact ⟨o, I.kIn _ o hk, hd⟩
    · have z : ∃ o, s.heap.get? p = some o ∧ o.ExactDict := by
        rcases hk with ⟨kvs, hk⟩ | ⟨kvs, hk⟩
        · obtain ⟨_, _, _, _, o, _, _, e, ex, _⟩ := I.hok p _ hk
          exact ⟨o, e, ex⟩
        · obtain ⟨_, _, _, _, o, _, _, e, ex, _⟩ := I.hok p _ hk
          exact ⟨o, e, ex⟩
      obtain ⟨o, e, ex⟩ := z
      refine ⟨⟨o, e, ex.1⟩, fun a e2 => ?_⟩
      cases e2
      exact ⟨o, e, ex.2.1⟩
    · obtain ⟨o, _, _, _, e, ex, _⟩ := I.hok p _ hk
      refine ⟨⟨o, e, ex.1⟩, fun a e2 => ?_⟩
      cases e2
      exact ⟨o, e, ex.2.1⟩
  | _ => exact False.elim ty
def tBM (K : PySem.W.Frag) (T : String) (r : V → List V → Hp → VK → Prop) (to : TE) (t : TA) : TE := fun σ H Q => to σ H fun x H1 => tyV K T x H1 ∧ t σ H1 fun xs H2 => r x xs H2 Q
variable {o e : Expr} {es : List Expr} {to : TE} {t : TA} {name : Str} {apos cpos : Pos} {T id : String} {r : V → List V → Hp → VK → Prop}
theorem pe_bm (pa : PlainAttrs T) (slot : Slot T name id) (hty : typeOf (.builtin id) = pure (.type "method_descriptor")) (hm : MtR X id r) (ho : PE X o to) (ha : PA X (e :: es) t)
    (hbase : attributeBase o name X.env (eval o X.env) = eval o X.env := by rfl)
    (hfew : ((backTo cpos (starEach (e :: es) X.env)).all (fun x => !x.1) && (backToKw cpos (keywordEach [] X.env)).all (fun x => x.1.isSome)
      && decide ((e :: es).length + ([] : List Keyword).length + (if ([] : List Keyword).isEmpty then 0 else 1) < 30)) = true := by rfl)
    (hline : (apos.endLine == cpos.line) = true := by rfl) (hs : starEach (e :: es) X.env = (false, eval e X.env) :: starEach es X.env := by rfl) (hplain : (backTo cpos (starEach es X.env)).any (·.1) = false := by rfl) :
    PE X (.Call (.Attribute o name apos) (e :: es) [] cpos) (tBM X.K T r to t) := by
  intro pins s σ H Q I h
  refine wpAny_Call_method_late hbase hfew hline rfl (thn (ho pins s σ H _ I h) fun v s1 ⟨x, H1, I1, r1, ty, q1⟩ => ?_)
  obtain ⟨h1, h2⟩ := tyV_is I1 r1 ty
  refine ⟨T, id, pa, slot, hty, h1, h2, ?_⟩
  have hA := ha cpos pins s1 σ H1 _ I1 q1
  rw [hs] at hA ⊢
  refine Calls.callWith_builtin (by show (false || (backTo cpos (starEach es X.env)).any (·.1)) = false; rw [hplain] <;> rfl) (Calls.evalArgs_plain ?_)
  exact thn hA fun us s2 ⟨vs, H2, I2, r2, q2⟩ => hm pins s2 σ H2 x vs v us Q I2 r1 r2 q2
/- xs.append(e), list.index on a module's tuple .. are MtR facts of 06m -/
end
end L2
namespace L2
open PySem PySem.Spec PyProof.Rows
def MtM (X : Cx) (id : String) (r : V → List V → Hp → VK → Prop) : Prop :=
  ∀ (pins : List (Addr × Obj)) (s : Shared) (σ : St) (H : Hp) (x : V) (xs : List V) (v : Value) (us : List Value) (Q : VK), Inv X pins σ H s → RelV x v → Vals xs us → r x xs H Q →
    wpAny (model X.prog X.w) X.A (call (.builtin id) (v :: us)) (EP X pins σ Q) X.xe s
theorem Vals.one {x : V} {us : List Value} (h : Vals [x] us) : ∃ u, us = [u] ∧ RelV x u := vals1 h
theorem Vals.two {x y : V} {us : List Value} (h : Vals [x, y] us) : ∃ u v, us = [u, v] ∧ RelV x u ∧ RelV y v := vals2 h
theorem Vals.eraseIdx : ∀ {xs : List V} {us : List Value} (i : Nat), Vals xs us → Vals (xs.eraseIdx i) (us.eraseIdx i)
  | _, _, _, .nil => .nil
  | _, _, 0, .cons _ t => t
  | _, _, i + 1, .cons r t => .cons r (Vals.eraseIdx i t)
theorem Vals.rep {xs : List V} {us : List Value} (h : Vals xs us) : ∀ k : Nat, Vals (List.replicate k xs).flatten (List.replicate k us).flatten
  | 0 => .nil
  | k + 1 => by
    rw [List.replicate_succ, List.replicate_succ, List.flatten_cons, List.flatten_cons]
    exact Vals.append h (Vals.rep h k)
theorem len_erase {α : Type} : ∀ (l : List α) (i : Nat), (l.eraseIdx i).length ≤ l.length
  | [], _ => Nat.le_refl _
  | _ :: _, 0 => Nat.le_succ _
  | _ :: r, i + 1 => Nat.succ_le_succ (len_erase r i)
theorem foldl_rep (its : List Value) : ∀ (k : Nat) (acc : List Value),
    List.foldl (fun x1 x2 => x1 ++ x2) acc.toArray (List.replicate k its.toArray) = (acc ++ (List.replicate k its).flatten).toArray
  | 0, acc => by simp
  | k + 1, acc => by
    have e : acc.toArray ++ its.toArray = (acc ++ its).toArray := by simp
    have e2 : (acc ++ its) ++ (List.replicate k its).flatten = acc ++ (List.replicate (k + 1) its).flatten := by
      rw [List.replicate_succ, List.flatten_cons, List.append_assoc]
    rw [← e2, ← foldl_rep its k (acc ++ its), ← e, List.replicate_succ, List.foldl_cons]
section
variable {X : Cx} {pins : List (Addr × Obj)} {σ : St} {H : Hp} {s : Shared} {l b : Addr} {xs ys zs : List V}
theorem Inv.lset {its its' : List Value} {n : Nat} {f : Array Value → Array Value} {t' : Nat} (I : Inv X pins σ H s) (hH : H l = some (.lst xs))
    (e : s.heap.get? l = some { cls := .type "list", data := .seq its.toArray n }) (hf : f its.toArray = its'.toArray) (hv : Vals ys its') (hz : ys.length ≤ sizeLine) :
    Inv X pins σ (upd H l (.lst ys)) { s with heap := s.heap.update l (Obj.mapSeq f), toks := t' } := by
  have q := PySem.IsL.update e f
  rw [hf] at q
  refine I.write (x := l) (e := l) (by rw [hH]; exact trivial) (.inl rfl) (fun b' u hb hu => (Heap.get?_update_other s.heap (Obj.mapSeq f) (Ne.symm hb)).trans hu) ⟨_, q⟩ ?_
  exact ⟨hz, its', _, hv, q⟩
theorem Inv.lnew {its : List Value} {t' : Nat} (I : Inv X pins σ H s) (hv : Vals ys its) (hz : ys.length ≤ sizeLine) :
    Inv X pins σ (upd H s.heap.objs.size (.lst ys)) { s with heap := s.heap.push { cls := .type "list", data := .seq its.toArray }, toks := t' } :=
  I.laid (fun _ _ q => Heap.get?_push_of_some _ q) (Nat.le_refl _) ⟨hz, its, 0, hv, Heap.get?_push_size _ rfl⟩
theorem Inv.fresh (I : Inv X pins σ H s) : H s.heap.objs.size = none := I.hok.fresh (Nat.le_refl _)
theorem Inv.lstM (I : Inv X pins σ H s) (hH : H l = some (.lst xs)) : xs.length ≤ sizeLine ∧ ∃ (its : List Value) (n : Nat), Vals xs its ∧ xs.length = its.length ∧ s.heap.get? l = some { cls := .type "list", data := .seq its.toArray n } := by
  obtain ⟨z, its, n, r, e⟩ := I.hok l _ hH
  exact ⟨z, its, n, r, r.length, e⟩
theorem notLongL {n : Nat} (h : n ≤ sizeLine) : Builtin.List.listTooLong n = false := by
  unfold Builtin.List.listTooLong
  exact decide_eq_false (by omega)
end
section
variable {X : Cx}
def rAppend : V → List V → Hp → VK → Prop := fun x vs H Q => ∃ l xs y, x = .ref l ∧ vs = [y] ∧ H l = some (.lst xs) ∧ xs.length < sizeLine ∧ Q .non (upd H l (.lst (xs ++ [y])))
theorem mt_append : MtM X "list.append" rAppend := by
  intro pins s σ H x vs v us Q I rx rv h
  obtain ⟨l, xs, y, rfl, rfl, hH, hz, q⟩ := h
  cases rx
  obtain ⟨u, rfl, ru⟩ := rv.one
  obtain ⟨z, its, n, r, hl, e⟩ := I.lstM hH
  refine call_meets F.slot_list_append ⟨_, e, rfl⟩ F.entry_list_append (F.args_list_append_2 _ _) (PySem.list_append l its.toArray n u (by rw [List.size_toArray]; omega)) ⟨e, ?_⟩
  refine ⟨.non, _, I.lset (its' := its ++ [u]) hH e (by simp) (r.append (.cons ru .nil)) ?_, rfl, q⟩
  rw [List.length_append, List.length_singleton]
  omega
def rPopAt : V → List V → Hp → VK → Prop := fun x vs H Q => ∃ l xs i k y, x = .ref l ∧ vs = [.int i] ∧ H l = some (.lst xs) ∧ -(2 ^ 63) ≤ i ∧ i < 2 ^ 63 ∧ seqIndex? i xs.length = some k ∧ xs[k]? = some y ∧ Q y (upd H l (.lst (xs.eraseIdx k)))
theorem mt_popAt : MtM X "list.pop" rPopAt := by
  intro pins s σ H x vs v us Q I rx rv h
  obtain ⟨l, xs, i, k, y, rfl, rfl, hH, h1, h2, hk, hy, q⟩ := h
  cases rx
  obtain ⟨u, rfl, ru⟩ := rv.one
  obtain ⟨t, rfl⟩ := ru
  obtain ⟨z, its, n, r, hl, e⟩ := I.lstM hH
  obtain ⟨w, hw, rw'⟩ := r.get hy
  refine call_meets F.slot_list_pop ⟨_, e, rfl⟩ F.entry_list_pop (F.args_list_pop_2 _ _)
    (MeetsSeq.list_pop_at l its.toArray n i t k w (fitsIndex_both h1 h2) (by rw [List.size_toArray, ← hl]; exact hk) (by rw [← Array.getElem?_toList]; exact hw) (by rw [List.size_toArray]; omega)) ⟨e, ?_⟩
  refine ⟨y, _, I.lset (its' := its.eraseIdx k) hH e ?_ (r.eraseIdx k) ?_, rw', q⟩
  · show its.toArray.eraseIdxIfInBounds k = (its.eraseIdx k).toArray
    rw [List.eraseIdxIfInBounds_toArray]
  · have := len_erase xs k
    omega
def rCat : R2 := fun x y H Q => ∃ l b xs zs, x = .ref l ∧ y = .ref b ∧ H l = some (.lst xs) ∧ H b = some (.lst zs) ∧ xs.length + zs.length ≤ sizeLine ∧ ∀ p, H p = none → Q (.ref p) (upd H p (.lst (xs ++ zs)))
theorem op_cat : OpR X (binaryOp .Add) rCat := by
  intro pins s σ H x y v u Q I rx ry h
  obtain ⟨l, b, xs, zs, rfl, rfl, hH, hB, hz, q⟩ := h
  cases rx
  cases ry
  obtain ⟨z, its, n, r, hl, e⟩ := I.lstM hH
  obtain ⟨z2, its2, n2, r2, hl2, e2⟩ := I.lstM hB
  refine PySem.P.add_list e e2 ?_ (by rw [List.size_toArray, List.size_toArray]; omega)
  have ea : its.toArray ++ its2.toArray = (its ++ its2).toArray := by simp
  rw [ea]
  exact ⟨.ref _, _, I.lnew (t' := s.toks) (r.append r2) (by rw [List.length_append]; omega), rfl, q _ I.fresh⟩
def rRep : R2 := fun x y H Q => ∃ l k xs, x = .ref l ∧ y = .int k ∧ H l = some (.lst xs) ∧ -(2 ^ 63) ≤ k ∧ k < 2 ^ 63 ∧ xs.length * k.toNat ≤ sizeLine ∧
  ∀ p, H p = none → Q (.ref p) (upd H p (.lst (List.replicate k.toNat xs).flatten))
theorem len_rep {α : Type} (xs : List α) (k : Nat) : (List.replicate k xs).flatten.length = k * xs.length := by
  induction k with
  | zero => simp
  | succ k ih => rw [List.replicate_succ, List.flatten_cons, List.length_append, ih, Nat.succ_mul, Nat.add_comm]
theorem op_rep : OpR X (binaryOp .Mult) rRep := by
  intro pins s σ H x y v u Q I rx ry h
  obtain ⟨l, k, xs, rfl, rfl, hH, h1, h2, hz, q⟩ := h
  cases rx
  obtain ⟨t, rfl⟩ := ry
  obtain ⟨z, its, n, r, hl, e⟩ := I.lstM hH
  have hlen : its.toArray.size * k.toNat ≤ sizeLine := by rw [List.size_toArray, ← hl]; exact hz
  have hcap : ¬ its.toArray.size * k.toNat > (2 ^ 63 - 1) / 8 := by
    have : (sizeLine : Nat) ≤ (2 ^ 63 - 1) / 8 := by decide
    omega
  have hfit : ¬ (!Builtin.List.listFitsIndex k) = true := by
    rw [fitsIndex_both h1 h2]
    exact Bool.false_ne_true
  have hlong : ¬ Builtin.List.listTooLong (its.toArray.size * k.toNat) = true := by
    rw [notLongL hlen]
    exact Bool.false_ne_true
  have hnew : List.foldl (fun x1 x2 => x1 ++ x2) #[] (List.replicate (if its.toArray.isEmpty = true then 0 else k.toNat) its.toArray) = (List.replicate k.toNat its).flatten.toArray := by
    have f0 : ∀ m : Nat, List.foldl (fun x1 x2 => x1 ++ x2) #[] (List.replicate m its.toArray) = (List.replicate m its).flatten.toArray := fun m => by
      have := foldl_rep its m []
      rw [List.nil_append] at this
      exact this
    rw [f0]
    cases its with
    | nil => simp
    | cons a r' => rw [if_neg (by simp)]
  refine wpAny_binaryOp_repeat_ref (T := "list") (U := "int") (by decide) ⟨_, e, rfl⟩ (fun s' => typeIs_int s' k t) noFill_list_mul F.fills_int_mul F.slot_int_rmul repeat_list F.slot_int_index.lookup
    (call_meets F.slot_int_rmul (typeIs_int s k t) F.entry_int_rmul (F.args_int_rmul_2 _ _) (int___rmul___int_list k t l its.toArray n)
      ⟨e, rfl, ⟨_, e, rfl⟩, call_meets F.slot_list_mul ⟨_, e, rfl⟩ F.entry_list_mul (F.args_list_mul_2 _ _) (AutoListH.list___mul___list_int_3 l its.toArray n k t hfit hcap hlong) ⟨e, ?_⟩⟩)
  rw [hnew]
  exact ⟨.ref _, _, I.lnew (t' := s.toks) (r.rep k.toNat) (by rw [len_rep, Nat.mul_comm]; exact hz), rfl, q _ I.fresh⟩
end
section
variable {prog : Program} {w : World} {A : Around} {E : Value → Shared → Prop} {s : Shared}
end
section
variable {X : Cx}
end
end L2
namespace Att
open PySem PySem.W PySem.Calls PyProof.Rows
theorem ints_of_wellAll {P : Params} {h : Heap} : ∀ (ns : List Int) (vs : List Value), WellAll P h vs (ns.map WData.int) → IntsAre vs ns := by
  intro ns
  induction ns with
  | nil =>
    intro vs w
    rw [List.map_nil] at w
    cases w
    exact .nil
  | cons n ns ih =>
    intro vs w
    rw [List.map_cons] at w
    cases w with
    | cons a b =>
      cases a
      exact .cons _ _ (ih _ b)
theorem script_of {l : OpenLaw} {n : Nat} (hn : l.most = some n) {P : Params} {h : Heap} {args : List WData} {vals : List Value}
    (hpre : l.row.toRowW.claim.pre args = true) (hwl : WellAll P h vals args) :
    ∃ a vs ns, vals = [Value.ref a] ∧ args = [WData.list (ns.map WData.int)] ∧ h.get? a = some { cls := .type "list", data := .seq vs.toArray } ∧ IntsAre vs ns ∧ ns.length ≤ n := by
  have hsh : WShape.hasAll [] args [.list .int] = true := (pre_splitW hpre).1
  have hc : l.pre.holds [] { args := args } = true := (pre_splitW hpre).2
  obtain ⟨d, r, rfl, h1, h2⟩ := hasAllW_cons hsh
  obtain rfl := hasAllW_nil h2
  obtain ⟨xs, rfl, h3⟩ := hasW_list h1
  obtain ⟨ns, rfl⟩ := items_int h3
  have hlen : ns.length ≤ n := by
    unfold OpenLaw.pre at hc
    have h4 : (WTm.not (.lt (.lit (.int (n : Int))) (.len (.arg 0)))).holds [] { args := [.list (ns.map .int)] } = true := by
      have h4 := (holds_andW hc).1
      rw [hn] at h4
      exact h4
    have h5 := condW_of h4 (w_not (w_lt w_lit (w_len_list (w_arg rfl))))
    rw [List.length_map] at h5
    refine Nat.le_of_not_lt fun q => ?_
    have q' : (n : Int) < ((ns.length : Nat) : Int) := by omega
    first
      | (rw [decide_eq_true q'] at h5; exact absurd h5 (by decide))
      | (simp at h5; omega)
  cases hwl with
  | cons w1 w2 =>
    cases w2
    cases w1 with
    | list ho hall => exact ⟨_, _, ns, rfl, rfl, ho, ints_of_wellAll ns _ hall, hlen⟩
theorem post_true (l : OpenLaw) (args : List WData) : l.row.toRowW.claim.post args (.bool true) args = true :=
  postW_of (r := l.row.toRowW) (X := (true == true))
    (show WShape.has [] (.bool true) .bool = true by first | rfl | decide | simp [WShape.has, WShape.arms, WShape.armsAll])
    (show (WTm.eq .res (.lit (.bool true))).value [] { args := args, res := some (.bool true), after := args } = some (.bool (true == true)) from w_eq_bool (w_res rfl) w_lit) rfl
theorem attach_call {l : OpenLaw} {n : Nat} {q : Program} {loose : List Str} {XP : (Str → Option Value) → Heap → Prop} {YP : World → Heap → Prop} {d : DefRec}
    (hn : l.most = some n) (hdf : d.params.defaults = [])
    (call : ∀ (w : World) (s₀ s₁ : Shared) (mg mb : Str → Option Value) (fa : Addr) (o : Obj) (pm cd doc : Value) (a : Addr) (vs : List Value) (ns : List Int),
      Ground q loose [] XP w s₀ mg mb s₁.heap → YP w s₁.heap →
      s₁.heap.get? fa = some o → o.data = .func (docDef d.name d.params d.body d.scope pm cd doc) → s₁.heap.CodeRec cd d.name → mg d.name = some (.ref fa) →
      s₁.heap.get? a = some { cls := .type "list", data := .seq vs.toArray } → IntsAre vs ns → ns.length ≤ n → s₁.gens = #[] →
      codeAny (model l.prog w) callerA (.call (.ref fa) ⟨[.ref a], []⟩) (fun r s' => r = .ok (.ret (.bool true)) ∧ OldK s₁.heap s'.heap ∧ s'.os = s₁.os ∧ AllBare s'.gens) s₁) :
    WalkO q loose XP YP l.row.toRowW d [] (fun f vs => PySem.call f vs) := by
  intro w s₀ s₁ mg mb G Y fa o pm cd doc dV kV ho hd hcd hD hmg hg args vals as hpre hlay hrd hwl hlo
  obtain rfl : dV = .none := Dflts.none hD hdf
  obtain rfl : kV = .none := Dflts.noKw hD
  obtain ⟨a, vs, ns, rfl, rfl, hobj, hints, hlen⟩ := script_of hn hpre hwl
  refine enter_call (codeAny_mono (call w s₀ s₁ mg mb fa o pm cd doc a vs ns G Y ho (fd_plain hd) hcd hmg hobj hints hlen hg) fun r s' hq => ?_)
  obtain ⟨rfl, h2, h3, h4⟩ := hq
  exact ⟨.inl ⟨.bool true, .bool true, [], rfl, fun _ => rfl, .bool true, post_true l _, fun _ => ⟨List.Pairwise.nil, fun _ hm => (nomatch hm)⟩⟩, h2, h3, h4⟩
section
variable {prog : Program} {w : World} {A : Around} {E : Value → Shared → Prop} {s : Shared} {K : Frag}
end
end Att
namespace L2
open PySem PySem.Spec PyProof.Rows
theorem vals_ints : ∀ {vs : List Value} {ns : List Int}, IntsAre vs ns → Vals (ns.map V.int) vs
  | _, _, .nil => .nil
  | _, _, .cons n t h => .cons ⟨t, rfl⟩ (vals_ints h)
def Only (H : Hp) : Prop := ∀ b, H b = none ∨ ∃ o xs, H b = some (.frz o (.lst xs))
theorem law_call {P : Program} {w : World} {K : PySem.W.Frag} {mg mb : Str → Option Value} {CX : CXT} {k : Nat} {fa a : Addr} {fd : FuncData} {x : Str} {sp : Sp} {s₁ : Shared} {vs : List Value} {ns : List Int}
    (KX : K.In s₁.heap) (hns : s₁.heap.Ns mainGlobals mg) (hb : s₁.heap.Ns builtinsNs mb) (hbb : ∀ x : Str, x ≠ "__name__" → mb x = bootBuiltins x) (hlim : s₁.heap.NoLimit) (hg : s₁.gens = #[])
    (ha : s₁.heap.get? a = some { cls := .type "list", data := .seq vs.toArray }) (hi : IntsAre vs ns) (hl : ns.length ≤ sizeLine) (hr : Room k callerA)
    (F : ∀ base : Heap, K.In base → base.Ns mainGlobals mg → FnOk P w K mg base CX k fa fd [x] sp) (hbind : ∀ (s : Shared) (u : Value), BindsTo s fd ⟨[u], []⟩ [(x, u)])
    (hsp : ∀ H : Hp, Only H → SqL K H a (ns.map V.int) → sp [.ref a] H (fun v _ => v = .bl true) fun _ _ _ => False)
    (hCX : ∀ H e s', CX [] H s₁ (fun _ _ _ => False) e s' → False) :
    codeAny (model P w) callerA (.call (.ref fa) ⟨[.ref a], []⟩) (fun r s' => r = .ok (.ret (.bool true)) ∧ OldK s₁.heap s'.heap ∧ s'.os = s₁.os ∧ AllBare s'.gens) s₁ := by
  have rv := vals_ints hi
  have lenV := hi.length
  -- from an abstract heap in which nothing but the script may be tracked
  have core : ∀ H : Hp, Only H → SqL K H a (ns.map V.int) → HOk P w H s₁.heap → (∀ b, H b ≠ none → b = a) → (H a ≠ none → K.lookup a = none) →
      codeAny (model P w) callerA (.call (.ref fa) ⟨[.ref a], []⟩) (fun r s' => r = .ok (.ret (.bool true)) ∧ OldK s₁.heap s'.heap ∧ s'.os = s₁.os ∧ AllBare s'.gens) s₁ := by
    intro H hO hS hok hA hK
    have base_of : ∀ {b : Addr} {o : Obj}, s₁.heap.get? b = some o → H b = none → (hidT s₁.heap H).get? b = some o := fun e n => hidT_get e n
    have noA : ∀ {b : Addr} {o : Obj} {es : Array DictEntry} {ep : Nat}, s₁.heap.get? b = some o → o.data = .dict es ep → H b = none := fun {b o es ep} e d => by
      cases q : H b with
      | none => rfl
      | some u =>
        have e' : b = a := hA b (by rw [q]; simp)
        subst e'
        rw [ha] at e; cases e
        have d' : Data.seq vs.toArray _ = Data.dict es ep := d
        cases d'
    have nsK : ∀ {b : Addr} {m : Str → Option Value}, s₁.heap.Ns b m → (hidT s₁.heap H).Ns b m := fun {b m} ⟨o, es, ep, e, d, r⟩ => ⟨o, es, ep, base_of e (noA e d), d, r⟩
    have hKb : K.In (hidT s₁.heap H) := fun b o e => base_of (KX b o e) (by
      cases q : H b with
      | none => rfl
      | some u =>
        have e' : b = a := hA b (by rw [q]; simp)
        subst e'
        rw [hK (by rw [q]; simp)] at e; cases e)
    have hM : Mod K mg (hidT s₁.heap H) := ⟨hKb, nsK hns, ⟨mb, nsK hb, hbb⟩, let ⟨mc, h1, h2⟩ := hlim; ⟨mc, nsK h1, h2⟩⟩
    have e0 : Env0 P w K mg (hidT s₁.heap H) callerA [] s₁ H := ⟨rfl, hM, fun b o e => of_hidT e, Nat.le_of_eq (hidT_size _ _), trivial, fun b hb => absurd (show b ∈ ([] : List Addr) from hb) (by simp), hok, .of_eq hg⟩
    refine codeAny_mono ((F _ hKb (nsK hns)).run callerA [] s₁ H ⟨[.ref a], []⟩ [.ref a] [.ref a] _ _ hr e0 (hbind s₁ (.ref a)) (.cons rfl .nil) (hsp H hO hS)) fun r s' h => ?_
    cases r with
    | error e => exact (hCX H e s' h).elim
    | ok fl =>
      cases fl with
      | next => exact False.elim h
      | brk => exact False.elim h
      | cont => exact False.elim h
      | ret u =>
        obtain ⟨v, H', os, bare, un, hok', r', q⟩ := h
        have q' : v = .bl true := q
        subst q'
        obtain rfl : u = Value.bool true := r'
        refine ⟨rfl, OldK.of_keep fun b o e => ?_, os, bare⟩
        cases q : H b with
        | none => exact un.keep b o e q (by intro z; exact absurd (show b ∈ ([] : List Addr) from z) (by simp)) (by simp)
        | some u =>
          rcases hO b with z | ⟨ob, xs, z⟩
          · rw [q] at z; cases z
          · have z2 := un.frzs b ob _ z
            obtain ⟨e1, _⟩ := hok b _ z
            obtain ⟨e2, _⟩ := hok' b _ z2
            rw [e] at e1; cases e1
            exact e2
  cases hk : K.lookup a with
  | some o =>
    -- the script is one of the module's own objects
    have e := KX a o hk
    rw [ha] at e
    cases e
    refine core (fun _ => none) (fun _ => .inl rfl) (.inr ⟨_, vs.toArray, _, hk, rfl, rfl, rfl, by rw [List.size_toArray, lenV]; exact hl, by simpa using rv⟩) (fun b u z => by have z' : (none : Option HO) = some u := z; cases z') (fun b z => absurd rfl z) fun z => absurd rfl z
  | none =>
    refine core (fun b => if b = a then some (.frz { cls := .type "list", data := .seq vs.toArray } (.lst (ns.map V.int))) else none) (fun b => ?_) (.inl (.inr ⟨{ cls := .type "list", data := .seq vs.toArray }, if_pos rfl⟩)) (fun b u z => ?_) (fun b z => ?_) fun _ => hk
    · by_cases hb : b = a
      · exact .inr ⟨_, _, if_pos hb⟩
      · exact .inl (if_neg hb)
    · by_cases hb : b = a
      · have z' := (if_pos hb).symm.trans z
        cases z'
        subst hb
        exact ⟨ha, by rw [List.length_map]; exact hl, vs, _, rv, ha⟩
      · have z' := (if_neg hb).symm.trans z
        cases z'
    · by_cases hb : b = a
      · exact hb
      · exact absurd (if_neg hb) z
end L2
namespace L2
open PySem PySem.Spec PyProof.Rows
theorem walk_of {l : PySem.W.OpenLaw} {n k : Nat} {q : Program} {loose : List Str} {XP : (Str → Option Value) → Heap → Prop} {YP : World → Heap → Prop} {d : DefRec} {K : Params → PySem.W.Frag} {CX : World → CXT} {sp : World → Sp} {x : Str}
    (hn : l.most = some n) (hn2 : n ≤ sizeLine) (hdf : d.params.defaults = []) (hr : Room k callerA)
    (hY : ∀ (w : World) (h : Heap), YP w h → (K w.params).In h)
    (F : ∀ (w : World) (mg : Str → Option Value) (fa : Addr) (h : Heap), (K w.params).In h → h.Ns mainGlobals mg → mg d.name = some (.ref fa) →
      ∃ fd : FuncData, (∀ (s : Shared) (u : Value), BindsTo s fd ⟨[u], []⟩ [(x, u)]) ∧
        ∀ base : Heap, (K w.params).In base → base.Ns mainGlobals mg → FnOk l.prog w (K w.params) mg base (CX w) k fa fd [x] (sp w))
    (hsp : ∀ (w : World) (H : Hp) (a : Addr) (ns : List Int), ns.length ≤ n → Only H → SqL (K w.params) H a (ns.map V.int) → sp w [.ref a] H (fun v _ => v = .bl true) fun _ _ _ => False)
    (hCX : ∀ (w : World) (H : Hp) (s : Shared) (e : Value) (s' : Shared), CX w [] H s (fun _ _ _ => False) e s' → False) :
    PySem.W.WalkO q loose XP YP l.row.toRowW d [] (fun f vs => PySem.call f vs) := by
  refine Att.attach_call hn hdf fun w s₀ s₁ mg mb fa o pm cd doc a vs ns G Y ho hd hcd hmg hobj hints hlen hg => ?_
  have KX := hY w _ Y
  obtain ⟨fd, hb, hF⟩ := F w mg fa _ KX G.T.g hmg
  exact law_call KX G.T.g G.T.b G.T.builtins G.T.nolimit hg hobj hints (Nat.le_trans hlen hn2) hr hF hb (fun H hO hS => hsp w H a ns hlen hO hS) fun H e s' => hCX w H s₁ e s'
end L2
/- THE LAST THEOREM (shape; LID, My.* are yours):
   My.Adr: a structure of the addresses that your layer names (classes, functions); My.Txt K t: a structure (Prop) of the equations over K;
   My.txt_mk : {K} {implicit addresses ..} (e1 : nsIn K mainGlobals "law" = some (some (.ref f))) (e2 : K.lookup f = some ⟨oc, od, .func (fnOf "law" "law" params body scope dV kV doc pm an cdv ct), sl⟩) (e3 : codeIn K cdv "law" = true) .. : ∃ t, My.Txt K t
(the tactic k_is has no namespace: write k_is) -/
namespace L2
open PySem PySem.Spec PyProof.Rows
def defArgs (s : Stmt) : Arguments := match s with
  | .FunctionDef _ a _ _ _ _ _ _ _ _ => a
  | _ => { posonlyargs := [], args := [], vararg := none, kwonlyargs := [], kw_defaults := [], kwarg := none, defaults := [] }
def defBody (s : Stmt) : List Stmt := match s with
  | .FunctionDef _ _ b _ _ _ _ _ _ _ => b
  | _ => []
def defScope (s : Stmt) : Scope := match s with
  | .FunctionDef _ _ _ _ _ _ sc _ _ _ => sc
  | _ => { kind := .function, names := [], isGenerator := false, isCoroutine := false }
abbrev CX0 : CXT := fun _ _ _ _ _ _ => False
abbrev E0 : XK := fun _ _ _ => False
theorem pass0 {X : Cx} : Passes CX0 X E0 := fun _ _ _ _ _ _ _ h => h.elim
structure Fun (K : PySem.W.Frag) (x qual : Str) (st : Stmt) (f : Addr) (fd : FuncData) : Prop where
  ex : ∃ (oc : Value) (od : Option Addr) (kV doc pm : Value) (an : Option Addr) (cdv ct : Value) (osl : Array (Option Value)),
    fd = PySem.W.fnOf x qual (defArgs st) (defBody st) (defScope st) .none kV doc pm an cdv ct ∧ K.lookup f = some ⟨oc, od, .func fd, osl⟩ ∧ PySem.W.codeIn K cdv qual = true
  kp : PySem.W.keepIn K (.ref f) = true
section
variable {P : Program} {w : World} {K : PySem.W.Frag} {mg : Str → Option Value} {base : Heap}
theorem Fun.ok {x qual : Str} {st : Stmt} {f : Addr} {fd : FuncData} {N ps : List Str} {k : Nat} {sp : Sp} (F : Fun K x qual st f fd) (S : FnScope N ps (defScope st)) (len : ∀ vs H Q E, sp vs H Q E → vs.length = ps.length)
    (hbody : ∀ (cdv : Value) (A : Around) (outer : List Env) (s : Shared) (H : Hp) (vs : List V) (Q : VK) (E : XK), Room k (A.deeper (envOfC qual (defScope st) s.heap.objs.size f cdv)) → sp vs H Q E →
      ∃ t, PSs (cxOf CX0 P w K mg base N qual (defScope st) f cdv A outer s H E).nox (defBody st) t ∧ t { nx := fun _ H' => Q .non H', rt := Q } (start N vs) H) : FnOk P w K mg base CX0 (k + 1) f fd ps sp := by
  obtain ⟨oc, od, kV, doc, pm, an, cdv, ct, osl, rfl, lk, hcd⟩ := F.ex
  refine fn_of lk hcd S len fun A outer s H vs Q E hr hsp => ?_
  obtain ⟨t, h, q⟩ := hbody cdv A outer s H vs Q E hr hsp
  exact ⟨t, h.nox, q⟩
theorem Fun.binds {x qual : Str} {st : Stmt} {f : Addr} {fd : FuncData} {ps : List Str} (F : Fun K x qual st f fd)
    (h : ∀ (kV doc pm : Value) (an : Option Addr) (cdv ct : Value) (us : List Value), us.length = ps.length → bindArgs (PySem.W.fnOf x qual (defArgs st) (defBody st) (defScope st) .none kV doc pm an cdv ct) ⟨us, []⟩ = pure (ps.zip us)) : Binds K fd ps [] := by
  obtain ⟨oc, od, kV, doc, pm, an, cdv, ct, osl, rfl, lk, hcd⟩ := F.ex
  exact .all (h kV doc pm an cdv ct)
theorem fun_mk {x qual : Str} {st : Stmt} {f : Addr} {oc : Value} {od an : Option Addr} {osl : Array (Option Value)} {kV doc pm cdv ct : Value} (l : K.lookup f = some ⟨oc, od, .func (PySem.W.fnOf x qual (defArgs st) (defBody st) (defScope st) .none kV doc pm an cdv ct), osl⟩)
    (c : PySem.W.codeIn K cdv qual = true) (k : PySem.W.keepIn K (.ref f) = true) : Fun K x qual st f (PySem.W.fnOf x qual (defArgs st) (defBody st) (defScope st) .none kV doc pm an cdv ct) := ⟨⟨oc, od, kV, doc, pm, an, cdv, ct, osl, rfl, l, c⟩, k⟩
end
section
variable {X : Cx}
theorem pv (i : Nat) {x : Str} {pos : Pos} (hN : X.N[i]? = some x := by rfl) (hv : Vis X.env.scope x := by first | exact Or.inl rfl | exact Or.inr (Or.inl rfl) | exact Or.inr (Or.inr rfl)) (hd : (x == ("__debug__" : Str)) = false := by decide)
    (hcd : (x == ("__classdict__" : Str)) = false := by decide) : PE X (.Name x pos) (tVar i) := pe_var hN hv hd hcd
end
theorem ite2 {c A B : Prop} [Decidable c] (h1 : c → A) (h2 : ¬ c → B) : if c then A else B := by
  by_cases h : c
  · rw [if_pos h]
    exact h1 h
  · rw [if_neg h]
    exact h2 h
end L2
namespace L2
open PySem PySem.Spec PyProof.Rows
section
variable {κ : Type} [DecidableEq κ]
def valV (kvs : List (κ × V)) (k : κ) : Option V := (kvs.find? fun kv => decide (kv.1 = k)).map (·.2)
def putK (kvs : List (κ × V)) (k : κ) (v : V) : List (κ × V) :=
  if (kvs.any fun kv => decide (kv.1 = k)) = true then kvs.map (fun kv => if kv.1 = k then (kv.1, v) else kv) else kvs ++ [(k, v)]
theorem valV_pos {p : κ × V} {r : List (κ × V)} {k : κ} (e : p.1 = k) : valV (p :: r) k = some p.2 := by simp [valV, List.find?_cons, e]
theorem valV_neg {p : κ × V} {r : List (κ × V)} {k : κ} (e : ¬ p.1 = k) : valV (p :: r) k = valV r k := by simp [valV, List.find?_cons, e]
theorem length_putK (kvs : List (κ × V)) (k : κ) (v : V) : (putK kvs k v).length ≤ kvs.length + 1 := by
  unfold putK
  split
  · rw [List.length_map]; omega
  · rw [List.length_append, List.length_cons, List.length_nil]; omega
theorem RelO.isSome_eq {o : Option V} {u : Option Value} (r : RelO o u) : o.isSome = u.isSome := by
  cases o with
  | none => cases u with
    | none => rfl
    | some _ => exact (show False from r).elim
  | some _ => cases u with
    | none => exact (show False from r).elim
    | some _ => rfl
theorem KV.val {kvs : List (κ × V)} {vs : List (κ × Value)} (r : KV kvs vs) (k : κ) : RelO (valV kvs k) (valueAt vs k) := by
  unfold KV at r
  induction r with
  | nil => exact True.intro
  | @cons p q ps qs h t ih =>
    obtain ⟨h1, h2⟩ := h
    by_cases e : p.1 = k
    · have e' : q.1 = k := h1.symm.trans e
      have b : valueAt (q :: qs) k = some q.2 := by simp [valueAt, List.find?_cons, e']
      rw [valV_pos e, b]; exact h2
    · have e' : ¬ q.1 = k := fun z => e (h1.trans z)
      have b : valueAt (q :: qs) k = valueAt qs k := by simp [valueAt, List.find?_cons, e']
      rw [valV_neg e, b]; exact ih
theorem KV.any {kvs : List (κ × V)} {vs : List (κ × Value)} (r : KV kvs vs) (k : κ) : (kvs.any fun kv => decide (kv.1 = k)) = vs.any fun kv => decide (kv.1 = k) := by
  unfold KV at r
  induction r with
  | nil => rfl
  | cons h t ih => rw [List.any_cons, List.any_cons, ih, h.1]
theorem KV.repl {kvs : List (κ × V)} {vs : List (κ × Value)} (r : KV kvs vs) (k : κ) {y : V} {u : Value} (ry : RelV y u) :
    KV (kvs.map fun kv => if kv.1 = k then (kv.1, y) else kv) (vs.map fun kv => if kv.1 = k then (kv.1, u) else kv) := by
  unfold KV at r ⊢
  induction r with
  | nil => exact .nil
  | @cons p q ps qs h t ih =>
    rw [List.map_cons, List.map_cons]
    refine .cons ?_ ih
    obtain ⟨h1, h2⟩ := h
    by_cases e : p.1 = k
    · rw [if_pos e, if_pos (h1.symm.trans e)]; exact ⟨h1, ry⟩
    · rw [if_neg e, if_neg (fun z => e (h1.trans z))]; exact ⟨h1, h2⟩
theorem KV.put {kvs : List (κ × V)} {vs : List (κ × Value)} (r : KV kvs vs) (k : κ) {y : V} {u : Value} (ry : RelV y u) : KV (putK kvs k y) (stored vs k u) := by
  unfold putK stored
  rw [r.any k]
  by_cases e : (vs.any fun kv => decide (kv.1 = k)) = true
  · rw [if_pos e, if_pos e]; exact r.repl k ry
  · rw [if_neg e, if_neg e]; exact Paired.snoc r ⟨rfl, ry⟩
theorem KV.length {kvs : List (κ × V)} {vs : List (κ × Value)} (r : KV kvs vs) : kvs.length = vs.length := Paired.length r
end
theorem kV_is {P : Program} {w : World} {k : Key} {u : Value} (r : RelV (kV k) u) : (mixKind P w).is k u = true := by
  cases k with
  | inl i => obtain ⟨t, e⟩ := (show ∃ t, u = Value.int i t from r); subst e; exact mixKind_int P w i t
  | inr x => obtain ⟨t, e⟩ := (show ∃ t, u = Value.str x t from r); subst e; exact mixKind_str P w x t
theorem items_are {P : Program} {w : World} : ∀ {ks : List Key} {us : List Value}, Vals (ks.map kV) us → ItemsAre (mixKind P w) ks us
  | [], _, r => by rw [List.map_nil] at r; cases r; exact .nil
  | k :: ks, _, r => by
    rw [List.map_cons] at r
    cases r with
    | cons h t => exact .cons (kV_is h) (items_are t)
abbrev KT (H : Hp) : List (List Key × V) → List (List Key × Addr × Value) → Prop := Paired fun p q => p.1 = q.1 ∧ H q.2.1 = some (.tup (p.1.map kV)) ∧ RelV p.2 q.2.2
theorem KT.val {H : Hp} {kvs : List (List Key × V)} {xs : List (List Key × Addr × Value)} (r : KT H kvs xs) (k : List Key) : RelO (valV kvs k) ((atKey xs k).map (·.2)) := by
  induction r with
  | nil => exact True.intro
  | @cons p q ps qs h t ih =>
    obtain ⟨h1, _, h2⟩ := h
    by_cases e : p.1 = k
    · have e' : q.1 = k := h1.symm.trans e
      have b : atKey (q :: qs) k = some q.2 := by simp [atKey, List.find?_cons, e']
      rw [valV_pos e, b]; exact h2
    · have e' : ¬ q.1 = k := fun z => e (h1.trans z)
      have b : atKey (q :: qs) k = atKey qs k := by simp [atKey, List.find?_cons, e']
      rw [valV_neg e, b]; exact ih
section
variable {P : Program} {w : World} {H : Hp} {h : Heap} {a : Addr}
theorem rd_of {u : HO} (ok : HOk P w H h) (e : Rd H a u) : ObjOk P w H h a u := e.ok ok
theorem dk_rd {kvs : List (Key × V)} (ok : HOk P w H h) (e : Rd H a (.dK kvs)) : kvs.length ≤ sizeLine ∧ (a == sysModules) = false ∧ ∃ vs, KV kvs vs ∧ h.DictOf (mixKind P w) a vs :=
  show ObjOk P w H h a (.dK kvs) from rd_of ok e
theorem dk_of {kvs : List (Key × V)} (ok : HOk P w H h) (e : H a = some (.dK kvs)) : kvs.length ≤ sizeLine ∧ (a == sysModules) = false ∧ ∃ vs, KV kvs vs ∧ h.DictOf (mixKind P w) a vs := dk_rd ok (.inl e)
theorem key_of {ks : List Key} (ok : HOk P w H h) (e : H a = some (.tup (ks.map kV))) : (tupleKind (mixKind P w)).is h ks a := by
  obtain ⟨_, its, r, o, h1, h2, n, h3⟩ := (show ObjOk P w H h a (.tup (ks.map kV)) from ok a _ e)
  exact ⟨o, its.toArray, n, h1, h2, h3, by simpa using items_are r⟩
theorem dt_rd {kvs : List (List Key × V)} (ok : HOk P w H h) (e : Rd H a (.dT kvs)) : kvs.length ≤ sizeLine ∧ (a == sysModules) = false ∧
    ∃ xs, KT H kvs xs ∧ h.DictOfH (tupleKind (mixKind P w)) a xs := by
  obtain ⟨z, y, xs, r, o, es, ep, h1, h2, h3, h4, h5⟩ := (show ObjOk P w H h a (.dT kvs) from rd_of ok e)
  refine ⟨z, y, xs, r, o, es, ep, h1, h2, h3, h4, fun x hx => ?_, h5⟩
  have all : ∀ {l : List (List Key × V)} {m : List (List Key × Addr × Value)}, KT H l m → ∀ x ∈ m, (tupleKind (mixKind P w)).is h x.1 x.2.1 := by
    intro l m q
    induction q with
    | nil => intro x hx; exact nomatch hx
    | @cons p q ps qs hq t ih =>
      intro x hx
      rcases List.mem_cons.mp hx with e | hx
      · subst e
        exact key_of ok (by rw [← hq.1]; exact hq.2.1)
      · exact ih x hx
  exact all r x hx
end
def DGet (H : Hp) (a : Addr) (y : V) (r : Option V) : Prop :=
  (∃ kvs k, Rd H a (.dK kvs) ∧ y = kV k ∧ r = valV kvs k) ∨ ∃ kvs k b, Rd H a (.dT kvs) ∧ y = .ref b ∧ H b = some (.tup (k.map kV)) ∧ r = valV kvs k
section
variable {X : Cx} {pins : List (Addr × Obj)} {σ : St} {H : Hp} {s : Shared} {a : Addr} {y v : V} {u r : Value} {o : Option V} {A : Around} {E : Value → Shared → Prop}
theorem Inv.big (I : Inv X pins σ H s) : sysModules < s.heap.objs.size := by
  have h : mainGlobals < s.heap.objs.size := (I.mod.glob.keeps I.bk).lt
  exact Nat.lt_trans (by decide) h
theorem d_getItem {Q : Value → Shared → Prop} (hu : A.units + 1 < cLine) (I : Inv X pins σ H s) (g : DGet H a y (some v)) (ry : RelV y u) (h : ∀ w' s', Inv X pins σ H s' → RelV v w' → Q w' s') :
    wpAny (model X.prog X.w) A (getItem (.ref a) u) Q E s := by
  rcases g with ⟨kvs, k, e, ey, l⟩ | ⟨kvs, k, b, e, ey, eb, l⟩
  · subst ey
    obtain ⟨z, hd, vs, rel, dd⟩ := dk_rd I.hok e
    obtain ⟨w', hw, rw'⟩ := RelO.some_of (v := v) (o := valueAt vs k) (by rw [l]; exact rel.val k)
    exact wpAny_getItem_of (kV_is ry) dd.mapOf hw (h w' _ (I.tok _) rw')
  · subst ey
    cases (show u = Value.ref b from ry)
    obtain ⟨z, hd, xs, rel, dd⟩ := dt_rd I.hok e
    obtain ⟨w', hw, rw'⟩ := RelO.some_of (v := v) (o := (atKey xs k).map (·.2)) (by rw [l]; exact rel.val k)
    obtain ⟨p, hp, hp2⟩ := Option.map_eq_some_iff.mp hw
    refine wpAny_getItem_heap (tupleKind_room_in1 hu) (key_of I.hok eb) dd hp ?_
    rw [hp2]
    exact h w' _ (I.tok _) rw'
theorem d_write {h' : Heap} {t' : Nat} {ob : HO} (I : Inv X pins σ H s) (mu : Mut (H a)) (hs : Heap.SameBut a s.heap h') (he : ∃ q, h'.get? a = some q) (new : ObjOk X.prog X.w (upd H a ob) h' a ob) :
    Inv X pins σ (upd H a ob) { s with heap := h', toks := t' } :=
  I.write (x := a) (e := a) mu (.inl rfl) (fun b q hb z => (hs.2 b hb).trans z) he new
theorem dk_new {P : Program} {w : World} {H' : Hp} {h' : Heap} {kvs : List (Key × V)} {vs : List (Key × Value)} (z : kvs.length ≤ sizeLine) (hd : (a == sysModules) = false) (rel : KV kvs vs) (dd : h'.DictOf (mixKind P w) a vs) :
    ObjOk P w H' h' a (.dK kvs) := ⟨z, hd, vs, rel, dd⟩
end
section
variable {X : Cx} {pins : List (Addr × Obj)} {σ : St} {H : Hp} {s : Shared} {a : Addr} {kvs : List (Key × V)} {k : Key} {u : Value} {A : Around} {E : Value → Shared → Prop}
end
def NoSl (i : Expr) : Prop := ∀ ov iv, subscripted i false ov iv = operate [ov, iv] (getItem ov iv)
theorem subD_of {prog : Program} {w : World} {A : Around} {E : Value → Shared → Prop} {s : Shared} {env : Env} {value slice : Expr} {pos : Pos} {T id : String} {Q : Value → Shared → Prop}
    (hl : typeLookup (.type T) "__getitem__" = pure (some (.builtin id))) (hs : NoSl slice)
    (h : wpAny (model prog w) A (eval value env) (fun o s₁ => wpAny (model prog w) A (eval slice env) (fun i s₂ => s₂.TypeIs o T ∧ wpAny (model prog w) A (getItem o i) Q E s₂) E s₁) E s) :
    wpAny (model prog w) A (eval (.Subscript value slice pos) env) Q E s := by
  refine Subscript_ (wpAny_mono h (fun o s₁ h₁ => wpAny_mono h₁ (fun i s₂ h₂ => ?_) fun _ _ x => x) fun _ _ x => x)
  obtain ⟨hT, h₂⟩ := h₂
  unfold subscriptTail
  refine wpAny_bind ?_
  rw [getitemInPython_of_ne hT.not_modules]
  refine wpAny_bind (wpAny_specialOf hT hl ?_)
  have fin : wpAny (model prog w) A (subscripted slice false o i) (fun r s₃ => wpAny (model prog w) A (letTemporaryGo value o r >>= fun _ => pure r) Q E s₃) E s₂ := by
    rw [hs o i]
    exact wpAny_operating (wpAny_mono h₂ (fun r s₃ h₃ => wpAny_bind (wpAny_letTemporaryGo (wpAny_pure h₃))) fun _ _ x => x)
  first
    | exact wpAny_pure (wpAny_bind fin)
    | exact wpAny_bind (wpAny_pure (wpAny_bind fin))
    | exact wpAny_bind fin
theorem dict_typeIs {X : Cx} {pins : List (Addr × Obj)} {σ : St} {H : Hp} {s : Shared} {a : Addr} {y : V} {o : Option V} (I : Inv X pins σ H s) (g : DGet H a y o) : s.TypeIs (.ref a) "dict" := by
  rcases g with ⟨kvs, k, e, _, _⟩ | ⟨kvs, k, b, e, _, _, _⟩
  · obtain ⟨_, _, vs, _, dd⟩ := dk_rd I.hok e
    exact dd.typeIs
  · obtain ⟨_, _, xs, _, dd⟩ := dt_rd I.hok e
    exact dd.typeIs
def tDGet (td ty : TE) : TE := fun σ H Q => td σ H fun x H1 => ty σ H1 fun y H2 => ∃ a v, x = .ref a ∧ DGet H2 a y (some v) ∧ Q v H2
section
variable {X : Cx} {o i e value : Expr} {pos pos' tpos : Pos} {td ty tv : TE}
theorem pe_dget (hu : X.A.units + 1 < cLine) (ho : PE X o td) (hi : PE X i ty) (hs : NoSl i) : PE X (.Subscript o i pos) (tDGet td ty) := by
  intro pins s σ H Q I h
  refine subD_of PySem.F.slot_dict_getitem.lookup hs (thn (ho pins s σ H _ I h) fun u s1 ⟨x, H1, I1, rx, q1⟩ => thn (hi pins s1 σ H1 _ I1 q1) fun iv s2 ⟨y, H2, I2, ry, a, v, ex, g, q2⟩ => ?_)
  subst ex
  obtain rfl : u = Value.ref a := rx
  exact ⟨dict_typeIs I2 g, d_getItem hu I2 g ry fun w' s3 I3 rw' => ⟨v, H2, I3, rw', q2⟩⟩
end
theorem dk_empty {P : Program} {w : World} {H : Hp} (h : Heap) (hb : sysModules < h.objs.size) : ObjOk P w H (h.push { cls := .type "dict", data := .dict #[] }) h.objs.size (.dK []) :=
  ⟨Nat.zero_le _, beq_eq_false_iff_ne.mpr (Ne.symm (Nat.ne_of_lt hb)), [], .nil, Heap.DictOf.new h⟩
section
variable {X : Cx} {pos : Pos}
end
def tPairs : List (TE × TE) → St → Hp → (List (V × V) → Hp → Prop) → Prop
  | [], _, H, Q => Q [] H
  | (tk, tv) :: r, σ, H, Q => tk σ H fun x H1 => tv σ H1 fun y H2 => tPairs r σ H2 fun ps H3 => Q ((x, y) :: ps) H3
abbrev VV : List (V × V) → List (Value × Value) → Prop := Paired fun p q => RelV p.1 q.1 ∧ RelV p.2 q.2
def PPs (X : Cx) (pos : Pos) (keys : List (Option Expr)) (values : List Expr) (trs : List (TE × TE)) : Prop :=
  ∀ (pins : List (Addr × Obj)) (s : Shared) (σ : St) (H : Hp) (Q : List (V × V) → Hp → Prop), Inv X pins σ H s → tPairs trs σ H Q →
    wpAny (model X.prog X.w) X.A (evalPairs (pairTrees keys values X.env pos)) (fun vs s' => ∃ ps H', Inv X pins σ H' s' ∧ VV ps vs ∧ Q ps H') X.xe s
theorem pps_nil {X : Cx} {pos : Pos} : PPs X pos [] [] [] := fun pins s σ H Q I h => pairTrees_nil_walk ⟨[], H, I, .nil, h⟩
theorem pps_cons {X : Cx} {pos : Pos} {k v : Expr} {ks : List (Option Expr)} {vs : List Expr} {tk tv : TE} {trs : List (TE × TE)} (hk : PE X k tk) (hv : PE X v tv) (hr : PPs X pos ks vs trs) :
    PPs X pos (some k :: ks) (v :: vs) ((tk, tv) :: trs) := fun pins s σ H Q I h =>
  pairTrees_cons_walk (thn (hk pins s σ H _ I h) fun u s1 ⟨x, H1, I1, rx, q1⟩ => thn (hv pins s1 σ H1 _ I1 q1) fun w2 s2 ⟨y, H2, I2, ry, q2⟩ =>
    thn (hr pins s2 σ H2 _ I2 q2) fun ws s3 ⟨ps, H3, I3, rel, q3⟩ => ⟨(x, y) :: ps, H3, I3, .cons ⟨rx, ry⟩ rel, q3⟩)
def mergeK (kvs more : List (Key × V)) : List (Key × V) := more.foldl (fun acc kv => putK acc kv.1 kv.2) kvs
theorem KV.merge : ∀ {more : List (Key × V)} {rs : List (Key × Value)} {kvs : List (Key × V)} {vs : List (Key × Value)}, KV more rs → KV kvs vs → KV (mergeK kvs more) (merged vs rs) := by
  intro more rs kvs vs r
  unfold KV at r
  induction r generalizing kvs vs with
  | nil => intro q; exact q
  | @cons p q ps qs h t ih =>
    intro r0
    have e : KV (putK kvs p.1 p.2) (stored vs q.1 q.2) := by
      have := r0.put p.1 h.2
      rw [← h.1]; exact this
    exact ih e
theorem length_mergeK : ∀ (more kvs : List (Key × V)), (mergeK kvs more).length ≤ kvs.length + more.length
  | [], kvs => by show kvs.length ≤ kvs.length + 0; omega
  | p :: r, kvs => by
    have h1 := length_mergeK r (putK kvs p.1 p.2)
    have h2 := length_putK kvs p.1 p.2
    show (mergeK (putK kvs p.1 p.2) r).length ≤ _
    rw [List.length_cons]; omega
theorem carries_of {P : Program} {w : World} : ∀ {kvs : List (Key × V)} {ws : List (Value × Value)}, VV (kvs.map fun kv => (kV kv.1, kv.2)) ws → ∃ rs, Carries (mixKind P w) ws rs ∧ KV kvs rs
  | [], _, r => by rw [List.map_nil] at r; cases r; exact ⟨[], True.intro, .nil⟩
  | p :: kvs, _, r => by
    rw [List.map_cons] at r
    cases r with
    | @cons a b as bs h t =>
      obtain ⟨rs, c, q⟩ := carries_of (P := P) (w := w) t
      obtain ⟨b1, b2⟩ := b
      exact ⟨(p.1, b2) :: rs, ⟨kV_is h.1, rfl, c⟩, .cons ⟨rfl, h.2⟩ q⟩
def tDisp (trs : List (TE × TE)) : TE := fun σ H Q => ∀ p, H p = none → tPairs trs σ (upd H p (.dK [])) fun ps H2 => H2 p = some (.dK []) ∧ ∃ kvs : List (Key × V), ps = kvs.map (fun kv => (kV kv.1, kv.2)) ∧ kvs.length ≤ 15 ∧ Q (.ref p) (upd H2 p (.dK (mergeK [] kvs)))
theorem pe_disp {X : Cx} {pos : Pos} {keys : List (Option Expr)} {values : List Expr} {trs : List (TE × TE)} (h : PPs X pos keys values trs) (hall : keys.all (·.isSome) = true) (hl : keys.length = values.length) (h0 : keys ≠ [])
    (h15 : keys.length ≤ 15) : PE X (.Dict keys values pos) (tDisp trs) := by
  intro pins s σ H Q I q
  have hn := I.hok.fresh (Nat.le_refl s.heap.objs.size)
  have I1 := I.laid (a := s.heap.objs.size) (o := .dK []) (h' := s.heap.push { cls := .type "dict", data := .dict #[] }) (t' := s.toks) (fun _ _ q => Heap.get?_push_of_some _ q) (Nat.le_refl _) (dk_empty s.heap I.big)
  refine wpAny_Dict_walk (knd := mixKind X.prog X.w) hall hl h0 h15 (thn (h pins _ σ _ _ I1 (q _ hn)) fun ws s2 ⟨ps, H2, I2, rel, e, kvs, ep, lk, q2⟩ => ?_)
  subst ep
  obtain ⟨rs, c, rk⟩ := carries_of (P := X.prog) (w := X.w) rel
  obtain ⟨z, hd, vs0, r0, dd⟩ := dk_of I2.hok e
  cases r0
  refine ⟨rs, c, dd, fun h' dd' hs => ⟨.ref s.heap.objs.size, _, ?_, rfl, q2⟩⟩
  have hz : (mergeK [] kvs).length ≤ sizeLine := by
    have h1 := length_mergeK kvs []
    rw [List.length_nil] at h1
    rw [sizeLine_eq]; omega
  have he : ∃ q, h'.get? s.heap.objs.size = some q := let ⟨q, _, _, hq, _⟩ := dd'; ⟨q, hq⟩
  exact d_write I2 (by rw [e]; exact True.intro) hs he (dk_new hz hd (rk.merge .nil) dd')
section
variable {X : Cx} {pins : List (Addr × Obj)} {σ : St} {H : Hp} {s : Shared} {a : Addr} {y d : V} {u r : Value} {o : Option V} {A : Around} {E : Value → Shared → Prop}
end
section
variable {X : Cx} {o e f : Expr} {apos cpos : Pos} {td ty tx : TE}
end
section
variable {X : Cx} {pins : List (Addr × Obj)} {σ : St} {H : Hp} {s : Shared} {a : Addr} {kvs : List (Key × V)} {A : Around} {E : Value → Shared → Prop}
theorem d_copyOf {Q : Value → Shared → Prop} (I : Inv X pins σ H s) (e : Rd H a (.dK kvs)) (h : ∀ p s', H p = none → Inv X pins σ (upd H p (.dK kvs)) s' → Q (.ref p) s') : wpAny (model X.prog X.w) A (call (.type "dict") [.ref a]) Q E s := by
  obtain ⟨z, hd, vs, rel, dd⟩ := dk_rd I.hok e
  refine kt_call_dict hd dd (by rw [← rel.length]; exact z) fun h' dd' hs => ?_
  refine h _ _ (I.hok.fresh (Nat.le_refl _)) (I.laid (a := s.heap.objs.size) (o := .dK kvs) (t' := s.toks) (fun b q hq => ?_) (Nat.le_refl _) (dk_new z (beq_eq_false_iff_ne.mpr (Ne.symm (Nat.ne_of_lt I.big))) rel dd'))
  exact (hs.2 b (Nat.ne_of_lt (Heap.lt_size hq))).trans (Heap.get?_push_of_some _ hq)
end
section
variable {X : Cx} {pins : List (Addr × Obj)} {σ : St} {H : Hp} {s : Shared} {a : Addr} {y : V} {u : Value} {A : Around} {E : Value → Shared → Prop}
end
end L2
namespace L2
open PySem PySem.Spec PyProof.Rows
section
variable {κ : Type} [DecidableEq κ]
end
end L2
set_option Elab.async false
set_option linter.all false
set_option maxRecDepth 100000
set_option maxHeartbeats 4000000
namespace L2
open PySem PySem.Spec PyProof.Rows
structure Kp (S : List Addr) (H H' : Hp) : Prop where
  old : ∀ a o, H a = some o → a ∉ S → H' a = some o
  tup : ∀ a xs, H a = some (.tup xs) → H' a = some (.tup xs)
  dom : ∀ a o, H a = some o → ∃ o', H' a = some o'
theorem Kp.refl (S : List Addr) (H : Hp) : Kp S H H := ⟨fun _ _ e _ => e, fun _ _ e => e, fun _ o e => ⟨o, e⟩⟩
theorem Kp.trans {S : List Addr} {H H1 H2 : Hp} (a : Kp S H H1) (b : Kp S H1 H2) : Kp S H H2 :=
  ⟨fun c o e n => b.old c o (a.old c o e n) n, fun c xs e => b.tup c xs (a.tup c xs e), fun c o e => let ⟨o', e'⟩ := a.dom c o e; b.dom c o' e'⟩
theorem Kp.mono {S S' : List Addr} {H H1 : Hp} (a : Kp S H H1) (h : ∀ x ∈ S, x ∈ S') : Kp S' H H1 := ⟨fun c o e n => a.old c o e fun z => n (h c z), a.tup, a.dom⟩
theorem Kp.free {S : List Addr} {H H1 : Hp} (k : Kp S H H1) {p : Addr} (h : H1 p = none) : H p = none := by
  cases e : H p with
  | none => rfl
  | some o => obtain ⟨o', e'⟩ := k.dom p o e; rw [h] at e'; cases e'
theorem Kp.new {S : List Addr} {H H1 : Hp} (k : Kp S H H1) {p : Addr} {o : HO} (h : H1 p = none) : Kp S H (upd H1 p o) :=
  ⟨fun c u e n => by rw [upd_ne (ne_of_none (k.old c u e n) h)]; exact k.old c u e n, fun c xs e => by rw [upd_ne (ne_of_none (k.tup c xs e) h)]; exact k.tup c xs e,
    fun c u e => by
      obtain ⟨o', e'⟩ := k.dom c u e
      exact ⟨o', by rw [upd_ne (ne_of_none e' h)]; exact e'⟩⟩
theorem Kp.set {S : List Addr} {H H1 : Hp} (k : Kp S H H1) {b : Addr} {xs : List V} {o : HO} (hb : H1 b = some (.lst xs)) (h : b ∈ S ∨ H b = none) : Kp S H (upd H1 b o) :=
  ⟨fun c u e n => by
    have : c ≠ b := by
      rintro rfl
      rcases h with h | h
      · exact n h
      · rw [h] at e; cases e
    rw [upd_ne this]; exact k.old c u e n,
   fun c ys e => by
    have e1 := k.tup c ys e
    rw [upd_ne (ne_of e1 hb (by intro z; cases z))]; exact e1,
   fun c u e => by
    obtain ⟨o', e'⟩ := k.dom c u e
    by_cases q : c = b
    · subst q; exact ⟨o, upd_same⟩
    · exact ⟨o', by rw [upd_ne q]; exact e'⟩⟩
def lstOf : Option HO → Option (List V)
  | some (.lst xs) => some xs
  | _ => none
def tupOf : Option HO → Option (List V)
  | some (.tup xs) => some xs
  | _ => none
def seqOf : Option HO → Option (List V)
  | some (.lst xs) => some xs
  | some (.tup xs) => some xs
  | _ => none
theorem lstOf_lst (xs : List V) : lstOf (some (.lst xs)) = some xs := rfl
theorem tupOf_tup (xs : List V) : tupOf (some (.tup xs)) = some xs := rfl
theorem seqOf_lst (xs : List V) : seqOf (some (.lst xs)) = some xs := rfl
theorem seqOf_tup (xs : List V) : seqOf (some (.tup xs)) = some xs := rfl
theorem of_lstOf {o : Option HO} {xs : List V} (h : lstOf o = some xs) : o = some (.lst xs) := by
  unfold lstOf at h
  split at h
  · cases h; rfl
  · cases h
theorem of_tupOf {o : Option HO} {xs : List V} (h : tupOf o = some xs) : o = some (.tup xs) := by
  unfold tupOf at h
  split at h
  · cases h; rfl
  · cases h
theorem of_seqOf {o : Option HO} {xs : List V} (h : seqOf o = some xs) : o = some (.lst xs) ∨ o = some (.tup xs) := by
  unfold seqOf at h
  split at h
  · cases h; exact .inl rfl
  · cases h; exact .inr rfl
  · cases h
section
variable {X : Cx}
def rLtU : R2 := fun x y H Q => match x, y with
  | .int i, .int j => Q (.bl (decide (i < j))) H
  | .str i, .str j => Q (.bl (decide (i.cps.toList < j.cps.toList))) H
  | _, _ => False
theorem op_ltU : OpR X (compareOp .Lt) rLtU := by
  intro pins s σ H x y v u Q I rx ry h
  cases x with
  | int i => cases y with
    | int j => exact op_lt pins s σ H _ _ v u Q I rx ry ⟨i, j, rfl, rfl, h⟩
    | _ => exact False.elim h
  | str i => cases y with
    | str j => exact op_lt_str pins s σ H _ _ v u Q I rx ry ⟨i, j, rfl, rfl, h⟩
    | _ => exact False.elim h
  | _ => exact False.elim h
def rIxU : R2 := fun x y H Q => match x, y with
  | .str z, .int i => z.length ≤ sizeLine ∧ ∃ c, atI z.cps.toList i = some c ∧ Q (.str ⟨#[c]⟩) H
  | .ref p, .int i => ∃ xs, seqOf (H p) = some xs ∧ ∃ v, atI xs i = some v ∧ Q v H
  | _, _ => False
theorem ix_U : IxR X rIxU := by
  intro value slice pins s σ H x y v u Q I rx ry h hs
  cases x with
  | str z => cases y with
    | int i => obtain ⟨h1, c, h2, h3⟩ := h; exact ix_str value slice pins s σ H _ _ v u Q I rx ry ⟨z, i, c, rfl, rfl, h1, h2, h3⟩ hs
    | _ => exact False.elim h
  | ref p => cases y with
    | int i =>
      obtain ⟨xs, e, w, h2, h3⟩ := h
      rcases of_seqOf e with e | e
      · exact ix_list value slice pins s σ H _ _ v u Q I rx ry ⟨p, xs, i, w, rfl, rfl, SqL.of e, h2, h3⟩ hs
      · exact ix_tup value slice pins s σ H _ _ v u Q I rx ry ⟨p, xs, i, w, rfl, rfl, SqT.of e, h2, h3⟩ hs
    | _ => exact False.elim h
  | _ => exact False.elim h
theorem atI_0 {α : Type} (x : α) (r : List α) : atI (x :: r) 0 = some x := atI_nat (j := 0) rfl
theorem atI_1 {α : Type} (x y : α) (r : List α) : atI (x :: y :: r) 1 = some y := atI_nat (j := 1) rfl
theorem atI_2 {α : Type} (x y z : α) (r : List α) : atI (x :: y :: z :: r) 2 = some z := atI_nat (j := 2) rfl
theorem atI_of {α : Type} {xs : List α} {i : Int} {v : α} (h0 : 0 ≤ i) (h : xs[i.toNat]? = some v) : atI xs i = some v := by
  have := atI_nat (xs := xs) (j := i.toNat) h
  rwa [Int.toNat_of_nonneg h0] at this
def rSetU : V → V → V → Hp → (Hp → Prop) → Prop := fun o i v H Q => match o, i with
  | .ref p, .int k => ∃ xs, lstOf (H p) = some xs ∧ ∃ j, ixN xs.length k = some j ∧ Q (upd H p (.lst (xs.set j v)))
  | _, _ => False
theorem set_U : PSet X rSetU := by
  intro pins s σ H o i v ov iv u Q I ro ri rv h
  cases o with
  | ref p => cases i with
    | int k =>
      obtain ⟨xs, e, j, h1, h2⟩ := h
      exact set_list pins s σ H _ _ v ov iv u Q I ro ri rv ⟨p, xs, k, j, rfl, rfl, of_lstOf e, h1, h2⟩
    | _ => exact False.elim h
  | _ => exact False.elim h
def rLenU : List V → Hp → VK → Prop := fun xs H Q => match xs with
  | [.str z] => z.length ≤ sizeLine ∧ Q (.int z.length) H
  | [.ref p] => ∃ ys, seqOf (H p) = some ys ∧ Q (.int ys.length) H
  | _ => False
theorem call_lenU : CallR X (.builtin "len") rLenU := by
  intro pins s σ H xs us Q I r h
  unfold rLenU at h
  split at h
  · rename_i z; exact call_len_str pins s σ H _ us Q I r ⟨z, rfl, h⟩
  · rename_i p
    obtain ⟨ys, e, h⟩ := h
    rcases of_seqOf e with e | e
    · exact call_len_seq pins s σ H _ us Q I r ⟨p, ys, rfl, .inl (SqL.of e), h⟩
    · exact call_len_seq pins s σ H _ us Q I r ⟨p, ys, rfl, .inr (SqT.of e), h⟩
  · exact h.elim
def rIntU : List V → Hp → VK → Prop := fun xs H Q => match xs with
  | [.int i] => Q (.int i) H
  | [.bl k] => Q (.int (if k then 1 else 0)) H
  | _ => False
theorem call_intU : CallR X (.type "int") rIntU := by
  intro pins s σ H xs us Q I r h
  unfold rIntU at h
  split at h
  · rename_i i; exact call_int1 pins s σ H _ us Q I r (.inl ⟨i, rfl, h⟩)
  · rename_i k; exact call_int1 pins s σ H _ us Q I r (.inr ⟨k, rfl, h⟩)
  · exact h.elim
def sgn (z : Str) : List V := z.cps.toList.map fun c => V.str ⟨#[c]⟩
theorem sgn_len (z : Str) : (sgn z).length = z.length := by simp [sgn, Str.length]
theorem vals_sgn {z : Str} {acc : Array Value} (h : ItemsOf (SignAt z) acc z.cps.size) : Vals (sgn z) acc.toList := by
  obtain ⟨h1, h2⟩ := h
  have hl : (sgn z).length = acc.toList.length := by simp [sgn, h1]
  have gen : ∀ (xs : List V) (us : List Value), xs.length = us.length → (∀ (i : Nat) (x : V) (u : Value), xs[i]? = some x → us[i]? = some u → RelV x u) → Vals xs us := by
    intro xs
    induction xs with
    | nil => intro us hl _; cases us with
      | nil => exact .nil
      | cons _ _ => simp at hl
    | cons x xs ih => intro us hl h; cases us with
      | nil => simp at hl
      | cons u us => exact .cons (h 0 x u rfl rfl) (ih us (by simpa using hl) fun i a b e1 e2 => h (i + 1) a b (by simpa using e1) (by simpa using e2))
  refine gen _ _ hl fun i x u e1 e2 => ?_
  obtain ⟨c, t, hc, hu⟩ := h2 i u (by simpa using e2)
  subst hu
  simp only [sgn, List.getElem?_map] at e1
  have : z.cps.toList[i]? = some c := by simpa using hc
  rw [this] at e1
  have e1' : V.str ⟨#[c]⟩ = x := Option.some.inj e1
  subst e1'
  exact ⟨t, rfl⟩
def rListU : List V → Hp → VK → Prop := fun xs H Q => match xs with
  | [.str z] => z.length ≤ sizeLine ∧ ∀ l, H l = none → Q (.ref l) (upd H l (.lst (sgn z)))
  | [.ref p] => ∃ ys, seqOf (H p) = some ys ∧ ∀ l, H l = none → Q (.ref l) (upd H l (.lst ys))
  | _ => False
theorem call_listU (hc : X.calm = true) : CallR X (.type "list") rListU := by
  intro pins s σ H xs us Q I r h
  unfold rListU at h
  split at h
  · rename_i z
    obtain ⟨u, rfl, t, rfl⟩ := vals1 r
    obtain ⟨hz, q⟩ := h
    refine call_list_str (I.ok.hd hc) z t (fun h' tk acc c hk hn hi => ?_) hz
    have hf := I.hok.fresh (Nat.le_refl s.heap.objs.size)
    refine ⟨.ref s.heap.objs.size, upd H s.heap.objs.size (.lst (sgn z)), I.laid hk (Nat.le_refl _) ⟨by rw [sgn_len]; exact hz, acc.toList, c, vals_sgn hi, by simpa using hn⟩, rfl, q _ hf⟩
  · rename_i p
    obtain ⟨ys, e, h⟩ := h
    rcases of_seqOf e with e | e
    · exact call_list_of pins s σ H _ us Q I r ⟨p, ys, rfl, .inl (SqL.of e), h⟩
    · exact call_list_of pins s σ H _ us Q I r ⟨p, ys, rfl, .inr (SqT.of e), h⟩
  · exact h.elim
def rPopU : V → List V → Hp → VK → Prop := fun x vs H Q => match x, vs with
  | .ref l, [.int i] => ∃ xs, lstOf (H l) = some xs ∧ 0 ≤ i ∧ ∃ y, xs[i.toNat]? = some y ∧ Q y (upd H l (.lst (xs.eraseIdx i.toNat)))
  | _, _ => False
theorem mt_popU : MtM X "list.pop" rPopU := by
  intro pins s σ H x vs v us Q I rx rv h
  unfold rPopU at h
  split at h
  · rename_i l i
    obtain ⟨xs, e, h0, y, hy, q⟩ := h
    have e := of_lstOf e
    have hz := (I.lstM e).1
    have hlt : i.toNat < xs.length := (List.getElem?_eq_some_iff.mp hy).1
    have hs : sizeLine = 16777216 := sizeLine_eq
    refine mt_popAt pins s σ H _ _ v us Q I rx rv ⟨l, xs, i, i.toNat, y, rfl, rfl, e, by omega, by omega, ?_, hy, q⟩
    exact seqIndex_of h0 (by omega)
  · exact h.elim
def rIsU (K : PySem.W.Frag) : List V → Hp → VK → Prop := fun xs H Q => match xs with
  | [x, .ty c] => ∃ t b, TyOf K H x t ∧ PySem.W.kitOne K t (.type c) = some b ∧ Q (.bl b) H
  | _ => False
theorem call_isinstanceU : CallR X (.builtin "isinstance") (rIsU X.K) := by
  intro pins s σ H xs us Q I r h
  unfold rIsU at h
  split at h
  · rename_i x c
    obtain ⟨t, b, ty, e, q⟩ := h
    obtain ⟨u, w', rfl, rx, rc⟩ := vals2 r
    cases rc
    exact isinst_ok I rx ty e fun tk => ⟨.bl b, H, I.tok tk, rfl, q⟩
  · exact h.elim
def ItS (z : Str) : It := ⟨fun i _ => i < z.length, fun i H x H' => H' = H ∧ ∃ c, z.cps.toList[i]? = some c ∧ x = .str ⟨#[c]⟩, fun i _ => z.length ≤ i⟩
theorem turn_strA {P : Program} {w : World} {K : PySem.W.Frag} {tg : Expr} (z : Str) (t : Tok) (it : Addr) : Turn P w K tg (ItS z) [it] it (fun i h => h.IsStrIter it "str_ascii_iterator" z t i) where
  mem := by simp
  obj := fun i h st b hb => by
    have e : b = it := by simpa using hb
    subst e
    obtain ⟨o, e, c, d⟩ := st
    exact ⟨o, e, fun v z => by rw [d] at z; cases z⟩
  keep := fun i h h' st k => let ⟨o, ho, r⟩ := st; ⟨o, k it (by simp) o ho, r⟩
  item := by
    intro X hP hw hK hc i pins s σ H E I hf st hg
    subst hP hw hK
    obtain ⟨f0, f1, f2, f3, f4, f5⟩ := hf it (by simp)
    have hi : i < z.cps.size := hg
    refine wpAny_pyNext_ascii_item st (c := z.cps[i]) (by simp [hi]) fun h' st' sb => ?_
    have I1 : Inv X pins σ H { s with heap := h', toks := s.toks + 1 } := I.turned (t' := s.toks + 1) (fun b o hb e => (sb.2 b hb).trans e) f0 f1 f3 f4 f5
    obtain ⟨o, e, c, d⟩ := id st'
    exact ⟨_, rfl, go_of (s := { s with heap := h', toks := s.toks + 1 }) e c d (by decide) ⟨.str ⟨#[z.cps[i]]⟩, H, I1, ⟨_, rfl⟩, ⟨rfl, _, by simp [hi], rfl⟩, st', fun b hb => (hf b hb).1⟩⟩
  done := by
    intro X hP hw hK hc i pins s σ H E I hf st hg
    subst hP hw hK
    obtain ⟨f0, f1, f2, f3, f4, f5⟩ := hf it (by simp)
    have hi : z.cps.size ≤ i := hg
    exact wpAny_pyNext_ascii_end (I.ok.hd hc) st (by simp [hi]) fun h' eb => ⟨rfl, I.turned (t' := s.toks) (fun b o hb e => eb b o hb e) f0 f1 f3 f4 f5⟩
  self := fun _ _ _ _ _ st h => wpAny_pyIter_striter_ascii st h
theorem turn_strW {P : Program} {w : World} {K : PySem.W.Frag} {tg : Expr} (z : Str) (t : Tok) (it : Addr) : Turn P w K tg (ItS z) [it] it (fun i h => h.IsStrIter it "str_iterator" z t i) where
  mem := by simp
  obj := fun i h st b hb => by
    have e : b = it := by simpa using hb
    subst e
    obtain ⟨o, e, c, d⟩ := st
    exact ⟨o, e, fun v z => by rw [d] at z; cases z⟩
  keep := fun i h h' st k => let ⟨o, ho, r⟩ := st; ⟨o, k it (by simp) o ho, r⟩
  item := by
    intro X hP hw hK hc i pins s σ H E I hf st hg
    subst hP hw hK
    obtain ⟨f0, f1, f2, f3, f4, f5⟩ := hf it (by simp)
    have hi : i < z.cps.size := hg
    refine wpAny_pyNext_wide_item st (c := z.cps[i]) (by simp [hi]) fun h' st' sb => ?_
    have I1 : Inv X pins σ H { s with heap := h', toks := s.toks + 1 } := I.turned (t' := s.toks + 1) (fun b o hb e => (sb.2 b hb).trans e) f0 f1 f3 f4 f5
    obtain ⟨o, e, c, d⟩ := id st'
    exact ⟨_, rfl, go_of (s := { s with heap := h', toks := s.toks + 1 }) e c d (by decide) ⟨.str ⟨#[z.cps[i]]⟩, H, I1, ⟨_, rfl⟩, ⟨rfl, _, by simp [hi], rfl⟩, st', fun b hb => (hf b hb).1⟩⟩
  done := by
    intro X hP hw hK hc i pins s σ H E I hf st hg
    subst hP hw hK
    obtain ⟨f0, f1, f2, f3, f4, f5⟩ := hf it (by simp)
    have hi : z.cps.size ≤ i := hg
    exact wpAny_pyNext_wide_end (I.ok.hd hc) st (by simp [hi]) fun h' eb => ⟨rfl, I.turned (t' := s.toks) (fun b o hb e => eb b o hb e) f0 f1 f3 f4 f5⟩
  self := fun _ _ _ _ _ st h => wpAny_pyIter_striter_wide st h
def iAny (K : PySem.W.Frag) (t : TE) : TI := fun σ H R => t σ H fun x H1 => match x with
  | .str z => R (ItS z) H1
  | .ref a => match H1 a with
    | some (.lst _) => R (Itl K a) H1
    | some (.tup _) => R (Itt K a) H1
    | _ => False
  | _ => False
theorem pi_any {tg l : Expr} {tl : TE} (hl : PE X l tl) : PI X tg l (iAny X.K tl) := by
  intro pins s σ H R I h
  refine thn (hl pins s σ H _ I h) fun v s1 ⟨x, H1, I1, r1, q1⟩ => ?_
  cases x with
  | str z =>
    obtain ⟨t, rfl⟩ := r1
    have fr : ∀ b ∈ [s1.heap.objs.size], FpOk X pins H1 b := fun b hb => by
      have e : b = s1.heap.objs.size := by simpa using hb
      subst e
      exact I1.fpOk (Nat.le_refl _) (I1.hok.fresh (Nat.le_refl _))
    cases ha : z.cps.all (· < 128)
    · exact wpAny_pyIter_wide ha ⟨s1.heap.objs.size, [s1.heap.objs.size], _, _, H1, rfl, I1.kept (t' := s1.toks) fun b o e => Heap.get?_push_of_some _ e, turn_strW z t _, ⟨_, Heap.get?_push_size _ rfl, rfl, rfl⟩, fr, q1⟩
    · exact wpAny_pyIter_ascii ha ⟨s1.heap.objs.size, [s1.heap.objs.size], _, _, H1, rfl, I1.kept (t' := s1.toks) fun b o e => Heap.get?_push_of_some _ e, turn_strA z t _, ⟨_, Heap.get?_push_size _ rfl, rfl, rfl⟩, fr, q1⟩
  | ref a =>
    cases r1
    have fr : ∀ b ∈ [s1.heap.objs.size], FpOk X pins H1 b := fun b hb => by
      have e : b = s1.heap.objs.size := by simpa using hb
      subst e
      exact I1.fpOk (Nat.le_refl _) (I1.hok.fresh (Nat.le_refl _))
    simp only at q1
    split at q1
    · rename_i xs e
      obtain ⟨its, rv, p, hz⟩ := I1.list (SqL.of e)
      exact wpAny_pyIter_list p.isList ⟨s1.heap.objs.size, [s1.heap.objs.size], _, _, H1, rfl, I1.kept (t' := s1.toks) fun b o e => Heap.get?_push_of_some _ e, turn_list a _, ⟨_, Heap.get?_push_size _ rfl, rfl, rfl⟩, fr, q1⟩
    · rename_i xs e
      obtain ⟨its, rv, p, hz⟩ := I1.tuple (SqT.of e)
      exact wpAny_pyIter_tuple (show s1.heap.IsTuple a its.toArray from p) ⟨s1.heap.objs.size, [s1.heap.objs.size], _, _, H1, rfl, I1.kept (t' := s1.toks) fun b o e => Heap.get?_push_of_some _ e, turn_tuple a _, ⟨_, Heap.get?_push_size _ rfl, rfl, rfl⟩, fr, q1⟩
    · exact q1.elim
  | _ => exact False.elim q1
theorem for_str {z : Str} {g : TG} {tb : TS} {D : Ends} {σ : St} {H : Hp} (Pv : Nat → St → Hp → Prop) (h0 : Pv 0 σ H)
    (hs : ∀ i c σ H, z.cps.toList[i]? = some c → Pv i σ H → g (.str ⟨#[c]⟩) σ H fun σ2 H2 => tb { D with nx := Pv (i + 1), ct := Pv (i + 1), bk := D.nx } σ2 H2) (hd : ∀ σ H, Pv z.length σ H → D.nx σ H) :
    ∃ W : Nat → Nat → St → Hp → Prop, (∃ m, W 0 m σ H) ∧ ∀ i m σ H, W i m σ H →
      ((ItS z).stop i H ∧ D.nx σ H) ∨ ((ItS z).go i H ∧ ∃ N : St → Hp → Prop, (∀ σ' H', N σ' H' → ∃ m', m' < m ∧ W (i + 1) m' σ' H') ∧ ∀ x H', (ItS z).yld i H x H' → g x σ H' fun σ2 H2 => tb { D with nx := N, ct := N, bk := D.nx } σ2 H2) := by
  refine ⟨fun i m σ H => m = z.length - i ∧ i ≤ z.length ∧ Pv i σ H, ⟨z.length, by simp, Nat.zero_le _, h0⟩, ?_⟩
  rintro i m σ H ⟨rfl, hi, p⟩
  by_cases hlt : i < z.length
  · refine .inr ⟨hlt, Pv (i + 1), fun σ' H' p' => ⟨z.length - (i + 1), by omega, rfl, hlt, p'⟩, fun x H' y => ?_⟩
    obtain ⟨e, c, e1, e2⟩ := y
    subst e e2
    exact hs i c σ _ e1 p
  · have e : i = z.length := by omega
    subst e
    exact .inl ⟨Nat.le_refl _, hd σ H p⟩
mutual
def Rep (H : Hp) : V → PyData → Prop
  | v, .none => v = .non
  | v, .bool b => v = .bl b
  | v, .int i => v = .int i
  | v, .str x => v = .str x
  | v, .list ds => ∃ a vs, v = .ref a ∧ H a = some (.lst vs) ∧ Reps H vs ds
  | v, .tuple ds => ∃ a vs, v = .ref a ∧ H a = some (.tup vs) ∧ Reps H vs ds
  | _, .dict _ => False
def Reps (H : Hp) : List V → List PyData → Prop
  | [], [] => True
  | v :: vs, d :: ds => Rep H v d ∧ Reps H vs ds
  | _, _ => False
end
theorem Reps.strs (H : Hp) : ∀ l : List Str, Reps H (l.map V.str) (l.map PyData.str)
  | [] => by simp [Reps]
  | x :: r => by simp [Reps, Rep, Reps.strs H r]
section
variable {pins : List (Addr × Obj)} {σ : L2.St} {H : Hp} {s : Shared}
mutual
theorem Rep.reads (I : Inv X pins σ H s) : ∀ {d : PyData} {v : V} {u : Value}, Rep H v d → RelV v u → ∃ as, Reads s.heap u d as
  | .none, v, u, h, r => by simp only [Rep] at h; subst h; cases r; exact ⟨_, .none⟩
  | .bool b, v, u, h, r => by simp only [Rep] at h; subst h; cases r; exact ⟨_, .bool b⟩
  | .int i, v, u, h, r => by simp only [Rep] at h; subst h; obtain ⟨t, rfl⟩ := r; exact ⟨_, .int i t⟩
  | .str x, v, u, h, r => by simp only [Rep] at h; subst h; obtain ⟨t, rfl⟩ := r; exact ⟨_, .str x t⟩
  | .list ds, v, u, h, r => by
    simp only [Rep] at h
    obtain ⟨a, vs, rfl, e, h⟩ := h
    cases r
    obtain ⟨its, rv, ⟨o, n, e1, e2, e3, e4⟩, hz⟩ := I.list (SqL.of e)
    obtain ⟨as, q⟩ := Reps.reads I h rv
    exact ⟨_, reads_list_at e1 e2 e4 (by simpa using q)⟩
  | .tuple ds, v, u, h, r => by
    simp only [Rep] at h
    obtain ⟨a, vs, rfl, e, h⟩ := h
    cases r
    obtain ⟨its, rv, ⟨o, e1, e2, n, e4⟩, hz⟩ := I.tuple (SqT.of e)
    obtain ⟨as, q⟩ := Reps.reads I h rv
    exact ⟨_, reads_tuple_at e1 e2 e4 (by simpa using q)⟩
  | .dict _, v, u, h, r => by simp only [Rep] at h
theorem Reps.reads (I : Inv X pins σ H s) : ∀ {ds : List PyData} {vs : List V} {us : List Value}, Reps H vs ds → Vals vs us → ∃ as, ReadsAll s.heap us ds as
  | [], [], us, h, r => by cases r; exact ⟨_, .nil⟩
  | [], v :: vs, us, h, r => by simp only [Reps] at h
  | d :: ds, [], us, h, r => by simp only [Reps] at h
  | d :: ds, v :: vs, us, h, r => by
    simp only [Reps] at h
    cases r with
    | cons r1 r2 =>
      obtain ⟨as, q⟩ := Rep.reads I h.1 r1
      obtain ⟨bs, q2⟩ := Reps.reads I h.2 r2
      exact ⟨_, .cons q q2⟩
end
end
def rEqD : R2 := fun x y H Q => ∃ d e, Rep H x d ∧ Rep H y e ∧ SeqAt.shaped d = true ∧ SeqAt.shaped e = true ∧ Q (.bl (PyData.eqv d e)) H
theorem op_eqD (hu : X.A.units + 64 < cLine) : OpR X (compareOp .Eq) rEqD := by
  intro pins s σ H x y v u Q I rx ry h
  obtain ⟨d, e, hd, he, sd, se, q⟩ := h
  obtain ⟨as, r1⟩ := hd.reads I rx
  obtain ⟨bs, r2⟩ := he.reads I ry
  exact eq_dataH r1 r2 sd se hu ⟨.bl _, H, I, rfl, q⟩
def rNeD : R2 := fun x y H Q => ∃ d e, Rep H x d ∧ Rep H y e ∧ SeqAt.shaped d = true ∧ SeqAt.shaped e = true ∧ Q (.bl (!PyData.eqv d e)) H
theorem op_neD (hu : X.A.units + 64 < cLine) : OpR X (compareOp .NotEq) rNeD := by
  intro pins s σ H x y v u Q I rx ry h
  obtain ⟨d, e, hd, he, sd, se, q⟩ := h
  obtain ⟨as, r1⟩ := hd.reads I rx
  obtain ⟨bs, r2⟩ := he.reads I ry
  exact ne_dataH r1 r2 sd se hu ⟨.bl _, H, I, rfl, q⟩
end
end L2
set_option Elab.async false
set_option linter.all false
set_option maxRecDepth 100000
set_option maxHeartbeats 4000000
namespace L2
open PySem PySem.Spec PyProof.Rows
theorem bt_len : bootBuiltins "len" = some (.builtin "len") := by decide +kernel
theorem bt_isinstance : bootBuiltins "isinstance" = some (.builtin "isinstance") := by decide +kernel
theorem bt_all : bootBuiltins "all" = some (.builtin "all") := by decide +kernel
theorem bt_any : bootBuiltins "any" = some (.builtin "any") := by decide +kernel
theorem bt_sorted : bootBuiltins "sorted" = some (.builtin "sorted") := by decide +kernel
theorem bt_int : bootBuiltins "int" = some (.type "int") := by decide +kernel
theorem bt_list : bootBuiltins "list" = some (.type "list") := by decide +kernel
theorem bt_tuple : bootBuiltins "tuple" = some (.type "tuple") := by decide +kernel
theorem bt_dict : bootBuiltins "dict" = some (.type "dict") := by decide +kernel
theorem bt_set : bootBuiltins "set" = some (.type "set") := by decide +kernel
theorem bt_bool : bootBuiltins "bool" = some (.type "bool") := by decide +kernel
theorem bt_zip : bootBuiltins "zip" = some (.type "zip") := by decide +kernel
section
variable {X : Cx}
def isL (x : V) (H : Hp) : Prop := match x with
  | .ref p => (lstOf (H p)).isSome = true
  | _ => False
def tBML (r : V → List V → Hp → VK → Prop) (to : TE) (t : TA) : TE := fun σ H Q => to σ H fun x H1 => isL x H1 ∧ t σ H1 fun xs H2 => r x xs H2 Q
theorem isL.ty {K : PySem.W.Frag} {x : V} {H : Hp} (h : isL x H) : tyV K "list" x H := by
  unfold isL at h
  split at h
  · rename_i p
    cases e : lstOf (H p) with
    | none => rw [e] at h; cases h
    | some ys => exact .inl ⟨rfl, ys, SqL.of (of_lstOf e)⟩
  · exact h.elim
variable {o e : Expr} {es : List Expr} {to : TE} {t : TA} {name : Str} {apos cpos : Pos} {id : String} {r : V → List V → Hp → VK → Prop}
theorem PE.imp {e : Expr} {t t' : TE} (h : PE X e t) (hi : ∀ σ H Q, t' σ H Q → t σ H Q) : PE X e t' := fun pins s σ H Q I hw => h pins s σ H Q I (hi σ H Q hw)
theorem pe_bmL (slot : Slot "list" name id) (hty : typeOf (.builtin id) = pure (.type "method_descriptor")) (hm : MtM X id r) (ho : PE X o to) (ha : PA X (e :: es) t) (mono : ∀ σ H Q Q', (∀ v H', Q v H' → Q' v H') → to σ H Q → to σ H Q')
    (hbase : attributeBase o name X.env (eval o X.env) = eval o X.env := by rfl)
    (hfew : ((backTo cpos (starEach (e :: es) X.env)).all (fun x => !x.1) && (backToKw cpos (keywordEach [] X.env)).all (fun x => x.1.isSome)
      && decide ((e :: es).length + ([] : List Keyword).length + (if ([] : List Keyword).isEmpty then 0 else 1) < 30)) = true := by rfl)
    (hline : (apos.endLine == cpos.line) = true := by rfl) (hs : starEach (e :: es) X.env = (false, eval e X.env) :: starEach es X.env := by rfl) (hplain : (backTo cpos (starEach es X.env)).any (·.1) = false := by rfl) :
    PE X (.Call (.Attribute o name apos) (e :: es) [] cpos) (tBML r to t) :=
  (pe_bm PySem.F.plainAttrs_list slot hty hm ho ha hbase hfew hline hs hplain).imp fun σ H Q h => mono σ H _ _ (fun v H' q => ⟨q.1.ty, q.2⟩) h
theorem mono_var {i : Nat} : ∀ σ H Q Q', (∀ v H', Q v H' → Q' v H') → tVar i σ H Q → tVar i σ H Q' := fun _ _ _ _ h ⟨v, e, q⟩ => ⟨v, e, h v _ q⟩
def rAppendU : V → List V → Hp → VK → Prop := fun x vs H Q => match x, vs with
  | .ref l, [y] => ∃ xs, lstOf (H l) = some xs ∧ xs.length < sizeLine ∧ Q .non (upd H l (.lst (xs ++ [y])))
  | _, _ => False
theorem mt_appendU : MtM X "list.append" rAppendU := by
  intro pins s σ H x vs v us Q I rx rv h
  unfold rAppendU at h
  split at h
  · rename_i l y
    obtain ⟨xs, e, h⟩ := h
    exact mt_append pins s σ H _ _ v us Q I rx rv ⟨l, xs, y, rfl, rfl, of_lstOf e, h⟩
  · exact h.elim
def rEqU : R2 := fun x y H Q => match x, y with
  | .int i, .int j => Q (.bl (decide (i = j))) H
  | .bl i, .bl j => Q (.bl (decide (i = j))) H
  | .str i, .str j => Q (.bl (decide (i = j))) H
  | .ref a, .ref b => rEqD (.ref a) (.ref b) H Q
  | x, y => scal x y = true ∧ Q (.bl (decide (x = y))) H
def rNeU : R2 := fun x y H Q => match x, y with
  | .int i, .int j => Q (.bl (!decide (i = j))) H
  | .bl i, .bl j => Q (.bl (!decide (i = j))) H
  | .str i, .str j => Q (.bl (!decide (i = j))) H
  | .ref a, .ref b => rNeD (.ref a) (.ref b) H Q
  | x, y => scal x y = true ∧ Q (.bl (!decide (x = y))) H
theorem op_eqU (hu : X.A.units + 64 < cLine) : OpR X (compareOp .Eq) rEqU := by
  intro pins s σ H x y v u Q I rx ry h
  unfold rEqU at h
  split at h
  · exact op_eq pins s σ H _ _ v u Q I rx ry ⟨rfl, by simpa using h⟩
  · exact op_eq pins s σ H _ _ v u Q I rx ry ⟨rfl, by simpa using h⟩
  · exact op_eq pins s σ H _ _ v u Q I rx ry ⟨rfl, by simpa using h⟩
  · exact op_eqD hu pins s σ H _ _ v u Q I rx ry h
  · exact op_eq pins s σ H _ _ v u Q I rx ry h
theorem op_neU (hu : X.A.units + 64 < cLine) : OpR X (compareOp .NotEq) rNeU := by
  intro pins s σ H x y v u Q I rx ry h
  unfold rNeU at h
  split at h
  · exact op_ne pins s σ H _ _ v u Q I rx ry ⟨rfl, by simpa using h⟩
  · exact op_ne pins s σ H _ _ v u Q I rx ry ⟨rfl, by simpa using h⟩
  · exact op_ne pins s σ H _ _ v u Q I rx ry ⟨rfl, by simpa using h⟩
  · exact op_neD hu pins s σ H _ _ v u Q I rx ry h
  · exact op_ne pins s σ H _ _ v u Q I rx ry h
theorem rLtU_int (H : Hp) (Q : VK) (i j : Int) : rLtU (.int i) (.int j) H Q = (Q (.bl (decide (i < j))) H) := rfl
theorem rLtU_str (H : Hp) (Q : VK) (i j : Str) : rLtU (.str i) (.str j) H Q = (Q (.bl (decide (i.cps.toList < j.cps.toList))) H) := rfl
theorem rIxU_str (H : Hp) (Q : VK) (z : Str) (i : Int) : rIxU (.str z) (.int i) H Q = (z.length ≤ sizeLine ∧ ∃ c, atI z.cps.toList i = some c ∧ Q (.str ⟨#[c]⟩) H) := rfl
theorem rIxU_ref (H : Hp) (Q : VK) (p : Addr) (i : Int) : rIxU (.ref p) (.int i) H Q = (∃ xs, seqOf (H p) = some xs ∧ ∃ v, atI xs i = some v ∧ Q v H) := rfl
theorem rLenU_str (H : Hp) (Q : VK) (z : Str) : rLenU [.str z] H Q = (z.length ≤ sizeLine ∧ Q (.int z.length) H) := rfl
theorem rLenU_ref (H : Hp) (Q : VK) (p : Addr) : rLenU [.ref p] H Q = (∃ ys, seqOf (H p) = some ys ∧ Q (.int ys.length) H) := rfl
theorem rIntU_int (H : Hp) (Q : VK) (i : Int) : rIntU [.int i] H Q = (Q (.int i) H) := rfl
theorem rIntU_bl (H : Hp) (Q : VK) (k : Bool) : rIntU [.bl k] H Q = (Q (.int (if k then 1 else 0)) H) := rfl
theorem rListU_str (H : Hp) (Q : VK) (z : Str) : rListU [.str z] H Q = (z.length ≤ sizeLine ∧ ∀ l, H l = none → Q (.ref l) (upd H l (.lst (sgn z)))) := rfl
theorem rListU_ref (H : Hp) (Q : VK) (p : Addr) : rListU [.ref p] H Q = (∃ ys, seqOf (H p) = some ys ∧ ∀ l, H l = none → Q (.ref l) (upd H l (.lst ys))) := rfl
theorem rPopU_ref (H : Hp) (Q : VK) (l : Addr) (i : Int) : rPopU (.ref l) [.int i] H Q = (∃ xs, lstOf (H l) = some xs ∧ 0 ≤ i ∧ ∃ y, xs[i.toNat]? = some y ∧ Q y (upd H l (.lst (xs.eraseIdx i.toNat)))) := rfl
theorem rAppendU_ref (H : Hp) (Q : VK) (l : Addr) (y : V) : rAppendU (.ref l) [y] H Q = (∃ xs, lstOf (H l) = some xs ∧ xs.length < sizeLine ∧ Q .non (upd H l (.lst (xs ++ [y])))) := rfl
theorem rEqU_int (H : Hp) (Q : VK) (i j : Int) : rEqU (.int i) (.int j) H Q = (Q (.bl (decide (i = j))) H) := rfl
theorem rEqU_bl (H : Hp) (Q : VK) (i j : Bool) : rEqU (.bl i) (.bl j) H Q = (Q (.bl (decide (i = j))) H) := rfl
theorem rEqU_str (H : Hp) (Q : VK) (i j : Str) : rEqU (.str i) (.str j) H Q = (Q (.bl (decide (i = j))) H) := rfl
theorem rEqU_ref (H : Hp) (Q : VK) (i j : Addr) : rEqU (.ref i) (.ref j) H Q = (rEqD (.ref i) (.ref j) H Q) := rfl
theorem rNeU_int (H : Hp) (Q : VK) (i j : Int) : rNeU (.int i) (.int j) H Q = (Q (.bl (!decide (i = j))) H) := rfl
theorem rNeU_bl (H : Hp) (Q : VK) (i j : Bool) : rNeU (.bl i) (.bl j) H Q = (Q (.bl (!decide (i = j))) H) := rfl
theorem rNeU_str (H : Hp) (Q : VK) (i j : Str) : rNeU (.str i) (.str j) H Q = (Q (.bl (!decide (i = j))) H) := rfl
theorem rNeU_ref (H : Hp) (Q : VK) (i j : Addr) : rNeU (.ref i) (.ref j) H Q = (rNeD (.ref i) (.ref j) H Q) := rfl
theorem rIsU_ty (K : PySem.W.Frag) (x : V) (c : String) (H : Hp) (Q : VK) : rIsU K [x, .ty c] H Q = (∃ t b, TyOf K H x t ∧ PySem.W.kitOne K t (.type c) = some b ∧ Q (.bl b) H) := rfl
theorem rSetU_ref (p : Addr) (k : Int) (v : V) (H : Hp) (Q : Hp → Prop) : rSetU (.ref p) (.int k) v H Q = (∃ xs, lstOf (H p) = some xs ∧ ∃ j, ixN xs.length k = some j ∧ Q (upd H p (.lst (xs.set j v)))) := rfl
theorem isL_ref (p : Addr) (H : Hp) : isL (.ref p) H = ((lstOf (H p)).isSome = true) := rfl
def LoopR (J : It) (g : TG) (tb : TS) (D : Ends) (σ : L2.St) (H1 : Hp) : Prop := ∃ W : Nat → Nat → L2.St → Hp → Prop, (∃ m, W 0 m σ H1) ∧ ∀ i m σ H, W i m σ H →
  (J.stop i H ∧ D.nx σ H) ∨ (J.go i H ∧ ∃ N : L2.St → Hp → Prop, (∀ σ' H', N σ' H' → ∃ m', m' < m ∧ W (i + 1) m' σ' H') ∧ ∀ x H', J.yld i H x H' → g x σ H' fun σ2 H2 => tb { D with nx := N, ct := N, bk := D.nx } σ2 H2)
theorem tFor_eq (wi : TI) (g : TG) (tb : TS) (D : Ends) (σ : L2.St) (H : Hp) : tFor wi g tb D σ H = wi σ H fun J H1 => LoopR J g tb D σ H1 := rfl
theorem loop_range {lo : Int} {n : Nat} {g : TG} {tb : TS} {D : Ends} {σ : L2.St} {H : Hp} (Pv : Nat → L2.St → Hp → Prop) (h0 : Pv 0 σ H)
    (hs : ∀ i σ H, i < n → Pv i σ H → g (.int (lo + i)) σ H fun σ2 H2 => tb { D with nx := Pv (i + 1), ct := Pv (i + 1), bk := D.nx } σ2 H2) (hd : ∀ σ H, Pv n σ H → D.nx σ H) : LoopR (Itr lo n) g tb D σ H := for_range Pv h0 hs hd
theorem loop_str {z : Str} {g : TG} {tb : TS} {D : Ends} {σ : L2.St} {H : Hp} (Pv : Nat → L2.St → Hp → Prop) (h0 : Pv 0 σ H)
    (hs : ∀ i c σ H, z.cps.toList[i]? = some c → Pv i σ H → g (.str ⟨#[c]⟩) σ H fun σ2 H2 => tb { D with nx := Pv (i + 1), ct := Pv (i + 1), bk := D.nx } σ2 H2) (hd : ∀ σ H, Pv z.length σ H → D.nx σ H) : LoopR (ItS z) g tb D σ H := for_str Pv h0 hs hd
theorem loop_list {K : PySem.W.Frag} {a : Addr} {xs : List V} {g : TG} {tb : TS} {D : Ends} {σ : L2.St} {H : Hp} (Pv : Nat → L2.St → Hp → Prop) (h0 : Pv 0 σ H) (hl : ∀ i σ H, i ≤ xs.length → Pv i σ H → H a = some (.lst xs))
    (hs : ∀ i x σ H, xs[i]? = some x → Pv i σ H → g x σ H fun σ2 H2 => tb { D with nx := Pv (i + 1), ct := Pv (i + 1), bk := D.nx } σ2 H2) (hd : ∀ σ H, Pv xs.length σ H → D.nx σ H) : LoopR (Itl K a) g tb D σ H :=
  for_list Pv h0 (fun i σ H h p => SqL.of (hl i σ H h p)) hs hd
theorem loop_tup {K : PySem.W.Frag} {a : Addr} {xs : List V} {g : TG} {tb : TS} {D : Ends} {σ : L2.St} {H : Hp} (Pv : Nat → L2.St → Hp → Prop) (h0 : Pv 0 σ H) (hl : ∀ i σ H, i ≤ xs.length → Pv i σ H → H a = some (.tup xs))
    (hs : ∀ i x σ H, xs[i]? = some x → Pv i σ H → g x σ H fun σ2 H2 => tb { D with nx := Pv (i + 1), ct := Pv (i + 1), bk := D.nx } σ2 H2) (hd : ∀ σ H, Pv xs.length σ H → D.nx σ H) : LoopR (Itt K a) g tb D σ H :=
  for_tup Pv h0 (fun i σ H h p => SqT.of (hl i σ H h p)) hs hd
end
end L2
set_option Elab.async false
set_option linter.all false
set_option maxRecDepth 100000
set_option maxHeartbeats 4000000
namespace L2
open PySem PySem.Spec PyProof.Rows
def clOf (env : Env) : List (Str × NameKind) → List (Str × Addr) → List (Str × Addr)
  | [], cs => cs
  | (n, k) :: r, cs => clOf env r (if k == .free then (n, (env.cells.lookup n).getD 0) :: cs else cs)
theorem closure_of {env : Env} {scope : Scope} (h : ∀ y ∈ scope.names, y.2 = .free → ∃ c, env.cells.lookup y.1 = some c) : closureFor scope env = pure (clOf env scope.names []) := by
  have gen : ∀ (l : List (Str × NameKind)) (cs : List (Str × Addr)), (∀ y ∈ l, y.2 = .free → ∃ c, env.cells.lookup y.1 = some c) →
      (forIn l cs fun x r => (match x with | (name, kind) => if (kind == NameKind.free) = true then do let c ← cellOf env name; pure (ForInStep.yield ((name, c) :: r)) else pure (ForInStep.yield r)) : Sem (List (Str × Addr))) = pure (clOf env l cs) := by
    intro l
    induction l with
    | nil => intro cs _; rfl
    | cons y l ih =>
      intro cs hy
      obtain ⟨n, k⟩ := y
      rw [List.forIn_cons]
      have hr := fun z hz => hy z (List.mem_cons_of_mem _ hz)
      by_cases hk : k = .free
      · subst hk
        obtain ⟨c, hc⟩ := hy _ (List.mem_cons_self ..) rfl
        have hc' : env.cells.lookup n = some c := hc
        have e : cellOf env n = pure c := by unfold cellOf; rw [hc']
        simp only [beq_self_eq_true, if_true, e, pure_bind]
        rw [ih _ hr]
        simp [clOf, hc']
      · have hb : (k == NameKind.free) = false := by simpa using hk
        simp only [hb, Bool.false_eq_true, if_false, pure_bind]
        rw [ih _ hr]
        simp [clOf, hb]
  exact (congrArg (· >>= fun s => pure s) (gen scope.names [] h)).trans (by rfl)
theorem clOf_sub {env : Env} : ∀ (l : List (Str × NameKind)) (cs : List (Str × Addr)) (x : Str) (c : Addr), (∀ y ∈ l, y.2 = .free → ∃ c, env.cells.lookup y.1 = some c) → (∀ x c, cs.lookup x = some c → env.cells.lookup x = some c) →
    (clOf env l cs).lookup x = some c → env.cells.lookup x = some c
  | [], cs, x, c, _, hc, h => hc x c h
  | (n, k) :: r, cs, x, c, hl, hc, h => by
    unfold clOf at h
    refine clOf_sub r _ x c (fun y hy => hl y (List.mem_cons_of_mem _ hy)) (fun z d hz => ?_) h
    split at hz
    · rename_i hk
      rw [List.lookup_cons] at hz
      cases hzn : z == n with
      | true =>
        rw [hzn] at hz
        obtain ⟨c', hc'⟩ := hl _ (List.mem_cons_self ..) (by simpa using hk)
        have hc'' : env.cells.lookup n = some c' := hc'
        have ez : z = n := by simpa using hzn
        subst ez
        rw [hc''] at hz
        rw [hc'']
        exact hz
      | false => rw [hzn] at hz; exact hc z d hz
    · exact hc z d hz
theorem clOf_keep {env : Env} : ∀ (l : List (Str × NameKind)) (cs : List (Str × Addr)) (x : Str), (∃ c, cs.lookup x = some c) → ∃ c, (clOf env l cs).lookup x = some c
  | [], cs, x, h => h
  | (n, k) :: r, cs, x, h => by
    unfold clOf
    refine clOf_keep r _ x ?_
    split
    · rw [List.lookup_cons]
      cases x == n with
      | true => exact ⟨_, rfl⟩
      | false => exact h
    · exact h
theorem clOf_has {env : Env} : ∀ (l : List (Str × NameKind)) (cs : List (Str × Addr)) (x : Str), (x, NameKind.free) ∈ l → ∃ c, (clOf env l cs).lookup x = some c
  | (n, k) :: r, cs, x, h => by
    unfold clOf
    rcases List.mem_cons.mp h with h | h
    · cases h
      refine clOf_keep r _ _ ?_
      simp [List.lookup_cons]
    · exact clOf_has r _ x h
abbrev Cx.comp (X : Cx) (scope : Scope) (C : Addr) (Nc : List Str) (s3 : Shared) (H3 : Hp) (fp : List Addr) : Cx :=
  { X with N := Nc, s₀ := s3, H₀ := H3, env := compEnvC scope (clOf X.env scope.names []) C X.env, outer := X.stack, stack := X.stack, ex := fp, fn := fun _ => false, pn := [], xe := fun _ _ => False }
def compSt (js : List (Option Nat)) (σ : L2.St) : L2.St := js.map fun o => o.bind fun j => (σ[j]?).getD none
def tEmit (D : Addr) (te : TE) : TS := fun E σ H => te σ H fun v H1 => ∃ ys, lstOf (H1 D) = some ys ∧ ys.length < sizeLine ∧ E.nx σ (upd H1 D (.lst (ys ++ [v])))
def tComp (wi : TI) (g : TG) (js : List (Option Nat)) (te : TE) : TE := fun σ H Q => wi σ H fun J H1 => ∀ D, H1 D = none →
  LoopR J g (tEmit D te) { nx := fun _ H' => Q (.ref D) H', rt := fun _ _ => False } (compSt js σ) (upd H1 D (.lst []))
structure CompOk (X : Cx) (scope : Scope) (Nc : List Str) (js : List (Option Nat)) : Prop where
  kind : scope.kind = .function
  nocell : ∀ y ∈ scope.names, y.2 ≠ .cell
  loc : ∀ y ∈ scope.names, y.2 = .local → scope.names.lookup y.1 = some .local
  free : ∀ y ∈ scope.names, y.2 = .free → X.env.kindOf y.1 = some .cell ∨ X.env.kindOf y.1 = some .free
  len : js.length = Nc.length
  nol : ∀ x, (x, NameKind.free) ∈ scope.names → scope.names.lookup x ≠ some .local
  see : ∀ (i j : Nat) (x : Str), js[i]? = some (some j) → Nc[i]? = some x → X.N[j]? = some x ∧ (x, NameKind.free) ∈ scope.names
section
variable {X : Cx} {pins : List (Addr × Obj)} {σ : L2.St} {H : Hp} {s : Shared} {scope : Scope} {Nc : List Str} {js : List (Option Nat)} {fp : List Addr}
theorem CompOk.has (c : CompOk X scope Nc js) (I : Inv X pins σ H s) : ∀ y ∈ scope.names, y.2 = .free → ∃ a, X.env.cells.lookup y.1 = some a := fun y hy hf => I.ok.has _ (c.free y hy hf)
theorem relabel_kind {env : Env} {x : Str} : ∀ {l : List (Str × NameKind)}, (∀ y ∈ l, y.2 ≠ .cell) →
    ((l.map fun (n, k) => if (k == NameKind.free && env.scope.kind == .function && env.kindOf n == some .cell) then (n, NameKind.cell) else (n, k)).lookup x = some .cell ∨
     (l.map fun (n, k) => if (k == NameKind.free && env.scope.kind == .function && env.kindOf n == some .cell) then (n, NameKind.cell) else (n, k)).lookup x = some .free) → (x, NameKind.free) ∈ l
  | [], _, h => by simp at h
  | (n, k) :: r, hc, h => by
    rw [List.map_cons] at h
    by_cases hx : x = n
    · subst hx
      have hk : k = .free := by
        have hk' : k ≠ .cell := hc _ (List.mem_cons_self ..)
        by_cases hcond : (k == NameKind.free && env.scope.kind == .function && env.kindOf x == some .cell) = true
        · rw [Bool.and_eq_true, Bool.and_eq_true] at hcond
          simpa using hcond.1.1
        · simp only [hcond, Bool.false_eq_true, if_false, List.lookup_cons, beq_self_eq_true] at h
          rcases h with h | h
          · exact absurd (Option.some.inj h) hk'
          · exact Option.some.inj h
      subst hk
      exact List.mem_cons_self ..
    · refine List.mem_cons_of_mem _ (relabel_kind (env := env) (fun y hy => hc y (List.mem_cons_of_mem _ hy)) ?_)
      have hxn : (x == n) = false := by simpa using hx
      by_cases hcond : (k == NameKind.free && env.scope.kind == .function && env.kindOf n == some .cell) = true
      · simpa only [hcond, if_true, List.lookup_cons, hxn] using h
      · simpa only [hcond, Bool.false_eq_true, if_false, List.lookup_cons, hxn] using h
theorem relabel_loc {env : Env} {x : Str} : ∀ {l : List (Str × NameKind)},
    (l.map fun (n, k) => if (k == NameKind.free && env.scope.kind == .function && env.kindOf n == some .cell) then (n, NameKind.cell) else (n, k)).lookup x = some .local → l.lookup x = some .local
  | [], h => by simp at h
  | (n, k) :: r, h => by
    rw [List.map_cons] at h
    by_cases hx : x = n
    · subst hx
      by_cases hcond : (k == NameKind.free && env.scope.kind == .function && env.kindOf x == some .cell) = true
      · simp only [hcond, if_true, List.lookup_cons, beq_self_eq_true] at h
        cases h
      · simp only [hcond, Bool.false_eq_true, if_false, List.lookup_cons, beq_self_eq_true] at h
        simp only [List.lookup_cons, beq_self_eq_true]
        exact h
    · have hxn : (x == n) = false := by simpa using hx
      rw [List.lookup_cons, hxn]
      refine relabel_loc (env := env) ?_
      by_cases hcond : (k == NameKind.free && env.scope.kind == .function && env.kindOf n == some .cell) = true
      · simpa only [hcond, if_true, List.lookup_cons, hxn] using h
      · simpa only [hcond, Bool.false_eq_true, if_false, List.lookup_cons, hxn] using h
theorem comp_ok (c : CompOk X scope Nc js) (I : Inv X pins σ H s) (hf : ∀ b ∈ fp, FpOk X pins H b) (ho : ∀ b ∈ fp, ∃ o, s.heap.get? b = some o) : (X.comp scope s.heap.objs.size Nc s H fp).Ok := by
  have hs := c.has I
  have sub : ∀ x a, (clOf X.env scope.names []).lookup x = some a → X.env.cells.lookup x = some a := fun x a => clOf_sub _ _ x a hs (fun _ _ z => nomatch z)
  refine ⟨I.ok.mod, c.kind, I.ok.glob, I.ok.blt, Nat.le_refl _, fun x y a e1 e2 => I.ok.inj x y a (sub x a e1) (sub y a e2), fun x h => clOf_has _ _ x (relabel_kind (env := X.env) c.nocell h), (fun x a h => nomatch h), I.ok.hd, I.ok.frames, .inl rfl, fun b hb => ⟨?_, fun x a e => ?_⟩, I.bs,
    Nat.le_trans I.ok.bsz I.sz, fun b o e hb => ?_, fun b hb hb' => ?_, I.stack, I.stkFree⟩
  · obtain ⟨o, e⟩ := ho b hb
    exact Nat.ne_of_lt (Heap.lt_size e)
  · exact (hf b hb).2.2.2.2.1 x a (sub x a e)
  · rcases (hf b hb).2.2.2.1 with z | z
    · exact I.ok.noex b o e z
    · exact absurd (Nat.lt_of_lt_of_le (Heap.lt_size (I.ok.bs b o e).1) z) (Nat.lt_irrefl _)
  · rcases List.mem_cons.mp (I.stkSub b hb') with z | z
    · exact (hf b hb).2.1 z
    · exact (hf b hb).2.2.1 z
theorem comp_inv (c : CompOk X scope Nc js) (I : Inv X pins σ H s) (hf : ∀ b ∈ fp, FpOk X pins H b) (ho : ∀ b ∈ fp, ∃ o, s.heap.get? b = some o) {h' : Heap} {m : Str → Option Value} {tk : Nat} (hn : h'.Ns s.heap.objs.size m)
    (hk : ∀ b o, s.heap.get? b = some o → h'.get? b = some o) : Inv (X.comp scope s.heap.objs.size Nc s H fp) [] (compSt js σ) H { s with heap := h', toks := tk } := by
  have hs := c.has I
  have sub : ∀ x a, (clOf X.env scope.names []).lookup x = some a → X.env.cells.lookup x = some a := fun x a => clOf_sub _ _ x a hs (fun _ _ z => nomatch z)
  refine ⟨comp_ok c I hf ho, rfl, I.bare, Un.kept hk, ⟨m, hn, fun i x v e1 e2 e3 => ?_⟩, fun x a e => ?_, I.hok.fresh (Nat.le_refl _), fun x a e => I.freeC x a (sub x a e), (fun p hp => nomatch hp), I.hok.kept hk, by simp only [compSt, List.length_map]; exact c.len⟩
  · have e2' : (compSt js σ)[i]? = some (some v) := e2
    unfold compSt at e2'
    rw [List.getElem?_map] at e2'
    cases ej : js[i]? with
    | none => rw [ej] at e2'; cases e2'
    | some o =>
      rw [ej] at e2'
      cases o with
      | none => cases e2'
      | some j =>
        have e4 : (σ[j]?).getD none = some v := Option.some.inj e2'
        have e5 : σ[j]? = some (some v) := by
          cases q : σ[j]? with
          | none => rw [q] at e4; cases e4
          | some w => rw [q] at e4; exact congrArg some e4
        obtain ⟨n1, n2⟩ := c.see i j x ej e1
        have hkd := c.free _ n2 rfl
        obtain ⟨a, ha⟩ := clOf_has (env := X.env) scope.names [] x n2
        obtain ⟨m0, _, hl⟩ := I.loc
        obtain ⟨u, r, l⟩ := hl j x v n1 e5 (by
          rcases hkd with z | z
          · exact .inr (.inl z)
          · exact .inr (.inr z))
        refine ⟨u, r, ?_⟩
        rcases l with ⟨k, _⟩ | ⟨_, a', ha', hcell⟩
        · rcases hkd with z | z
          · rw [z] at k; cases k
          · rw [z] at k; cases k
        · have : a' = a := Option.some.inj (ha'.symm.trans (sub x a ha))
          subst this
          refine .inr ⟨?_, a', ha, ?_⟩
          · rcases e3 with z | z | z
            · exfalso
              have q : (relabel scope X.env).names.lookup x = some .local := z
              exact c.nol x n2 (relabel_loc q)
            · exact .inl z
            · exact .inr z
          · obtain ⟨o, q, d⟩ := hcell
            exact ⟨o, hk _ o q, d⟩
  · obtain ⟨v, o, q, d⟩ := I.cell x a (sub x a e)
    exact ⟨v, o, hk _ o q, d⟩
theorem comp_after (I : Inv X pins σ H s) (hf : ∀ b ∈ fp, FpOk X pins H b) {σ' : L2.St} {H' : Hp} {s' : Shared} {h'' : Heap} (J : Inv (X.comp scope s.heap.objs.size Nc s H fp) [] σ' H' s') (hs : Heap.SameBut s.heap.objs.size s'.heap h'') :
    Inv X pins σ H' { s' with heap := h'' } := by
  have ne : ∀ b o, s.heap.get? b = some o → b ≠ s.heap.objs.size := fun b o e => Nat.ne_of_lt (Heap.lt_size e)
  have u : Un (frs X.stack) fp H H' s.heap s'.heap := J.base
  refine I.call' (s' := { s' with heap := h'' }) (ch := fp) J.os ⟨fun b o e n hb hx => ?_, fun b o e n hb hx => ?_, u.free, fun b o e hx => ?_, u.tups, u.frzs, u.tbls⟩ (fun b o e => ?_) J.bare fun b hb => ?_
  · exact (hs.2 b (ne b o e)).trans (u.keep b o e n hb hx)
  · obtain ⟨sl, q⟩ := u.slot b o e n hb hx
    exact ⟨sl, (hs.2 b (ne b o e)).trans q⟩
  · obtain ⟨o', q⟩ := u.there b o e hx
    exact ⟨o', (hs.2 b (ne b o e)).trans q⟩
  · have hC : H' s.heap.objs.size = none := J.free
    refine (J.hok b o e).stay (fun d v hd q => (hs.2 d ?_).trans q) (fun _ q => q) fun _ _ q => q
    rintro rfl
    rcases hd with z | z
    · rw [← z, hC] at e; cases e
    · rw [hC] at z; cases z
  · obtain ⟨_, f1, _, f3, f4, f5⟩ := hf b hb
    exact ⟨f3, f1, f4, f5⟩
end
section
variable {X : Cx} {scope : Scope} {Nc : List Str} {js : List (Option Nat)} {elt tg iter : Expr} {pos : Pos} {wi : TI} {g : TG} {te : TE}
theorem comp_core (hc : X.calm = true) (c : CompOk X scope Nc js) (hi : PI X tg iter wi) (hg : ∀ C s3 H3 fp, PG (X.comp scope C Nc s3 H3 fp) tg g) (he : ∀ C s3 H3 fp, PE (X.comp scope C Nc s3 H3 fp) elt te)
    {pins : List (Addr × Obj)} {s : Shared} {σ : L2.St} {H : Hp} (I : Inv X pins σ H s) {RR : Value → Addr → Result → Shared → Prop} {NX : Addr → Hp → Prop}
    (h : wi σ H fun J H1 => ∀ D, H1 D = none → LoopR J g (tEmit D te) { nx := fun _ H' => NX D H', rt := fun _ _ => False } (compSt js σ) (upd H1 D (.lst [])))
    (fin : ∀ D H3 s3 fp σ5 H5 s6, Inv X pins σ H3 s3 → (∀ b ∈ fp, FpOk X pins H3 b) → Inv (X.comp scope s3.heap.objs.size Nc s3 H3 fp) [] σ5 H5 s6 → NX D H5 → RR (.ref D) s3.heap.objs.size (.ok .next) s6) :
    wpAny (model X.prog X.w) X.A (eval iter X.env) (fun x s₁ => wpAny (model X.prog X.w) X.A (pyIter x) (fun it s₂ => wpAny (model X.prog X.w) X.A (newList []) (fun acc s₃ =>
      wpAny (model X.prog X.w) X.A (newFunctionEnv scope X.env.globals (clOf X.env scope.names []) [] X.env.qual none .none (some X.env)) (fun cenv s₄ =>
        codeAny (model X.prog X.w) X.A (.compStart (.ListComp elt [⟨tg, iter, [], 0⟩] scope pos) 0 it acc { cenv with scope := relabel scope X.env }) (RR acc cenv.locals) s₄) X.xe s₃) X.xe s₂) X.xe s₁) X.xe s := by
  refine thn (hi pins s σ H _ I h) fun v s1 h1 => thn h1 fun itv s2 h2 => ?_
  obtain ⟨it, fp, tn, J, H2, rfl, I2, T, st2, f2, h2⟩ := h2
  -- the list
  refine wpAny_newObj_type ?_ (by show 0 ≤ sizeLine; decide)
  have hD : H2 s2.heap.objs.size = none := I2.hok.fresh (Nat.le_refl _)
  have I3 : Inv X pins σ (upd H2 s2.heap.objs.size (.lst [])) { s2 with heap := s2.heap.push { cls := .type "list", data := .seq ([] : List Value).toArray } } :=
    I2.laid (t' := s2.toks) (fun b u e => Heap.get?_push_of_some _ e) (Nat.le_refl _) ⟨by show 0 ≤ sizeLine; decide, [], 0, .nil, Heap.get?_push_size _ rfl⟩
  have f3 : ∀ b ∈ fp, FpOk X pins (upd H2 s2.heap.objs.size (.lst [])) b := fun b hb => by
    obtain ⟨q0, q⟩ := f2 b hb
    obtain ⟨o, e, _⟩ := T.obj _ _ st2 b hb
    exact ⟨by rw [upd_ne (Nat.ne_of_lt (Heap.lt_size e))]; exact q0, q⟩
  have o3 : ∀ b ∈ fp, ∃ o, (s2.heap.push { cls := .type "list", data := .seq ([] : List Value).toArray }).get? b = some o := fun b hb => by
    obtain ⟨o, e, _⟩ := T.obj _ _ st2 b hb
    exact ⟨o, Heap.get?_push_of_some _ e⟩
  have st3 : tn 0 (s2.heap.push { cls := .type "list", data := .seq ([] : List Value).toArray }) := T.keep _ _ _ st2 fun b _ o e => Heap.get?_push_of_some _ e
  generalize hh3 : s2.heap.push { cls := .type "list", data := .seq ([] : List Value).toArray } = h3 at I3 o3 st3 ⊢
  refine wpAny_newFunctionEnv c.nocell (by intro y hy; simp at hy) (fun h4 hn4 hs4 => ?_) c.kind
  have k4 : ∀ b o, h3.get? b = some o → h4.get? b = some o := fun b o e => (hs4.2 b (Nat.ne_of_lt (Heap.lt_size e))).trans (Heap.get?_push_of_some _ e)
  have I4 := comp_inv (tk := s2.toks + ([] : List (Str × Value)).length) c I3 f3 o3 hn4 k4
  have st4 : tn 0 h4 := T.keep _ _ _ st3 fun b _ o e => k4 b o e
  obtain ⟨W, ⟨m0, w0⟩, turn⟩ := h2 _ hD
  let s3 : Shared := { s2 with heap := h3 }
  let Y : Cx := X.comp scope h3.objs.size Nc s3 (upd H2 s2.heap.objs.size (.lst [])) fp
  have stat : ∀ {H' : Hp}, (∀ b ∈ fp, H' b = none) → ∀ b ∈ fp, FpOk Y [] H' b := fun hn b hb => ⟨hn b hb, (I4.ok.exf b hb).1, I4.ok.exfs b hb, .inl hb, (I4.ok.exf b hb).2, (fun p hp => nomatch hp)⟩
  have loop : codeAny (model X.prog X.w) X.A (.compLoop (.ListComp elt [⟨tg, iter, [], 0⟩] scope pos) 0 (.ref it) (.ref s2.heap.objs.size) Y.env)
      (RR (.ref s2.heap.objs.size) h3.objs.size) { s2 with heap := h4, toks := s2.toks + ([] : List (Str × Value)).length } := by
    refine codeAny_loop rfl (fun n s' => ∃ i σ' H', Inv Y [] σ' H' s' ∧ tn i s'.heap ∧ (∀ b ∈ fp, H' b = none) ∧ W i n σ' H') (fun n s5 hI => ?_) m0 ⟨0, _, _, I4, st4, fun b hb => (f3 b hb).1, w0⟩
    obtain ⟨i, σ5, H5, I5, st5, fr5, w5⟩ := hI
    show wpAny _ X.A ((compTurn (.ListComp elt [⟨tg, iter, [], 0⟩] scope pos) 0 (.ref it) (.ref s2.heap.objs.size) Y.env).onRaise (fun x => do noteFrame x Y.env; theTreesLotGoes x)) _ _ s5
    refine wpAny_noted (wpAny_mono (E := fun _ _ => False) ?_ (fun _ _ q => q) fun _ _ z => z.elim)
    rw [compTurn_list1]
    refine wpAny_bind (wpAny_standAt (wpAny_bind ?_))
    rcases turn i n σ5 H5 w5 with ⟨stop, qn⟩ | ⟨go, N, hN, step⟩
    · refine thn (T.done Y rfl rfl rfl hc i [] s5 σ5 H5 _ I5 (stat fr5) st5 stop) fun r s6 ⟨hr, I6⟩ => ?_
      subst hr
      refine wpAny_pure ?_
      exact fin _ _ s3 fp σ5 H5 s6 I3 f3 I6 qn
    · refine thn (T.item Y rfl rfl rfl hc i [] s5 σ5 H5 _ I5 (stat fr5) st5 go) fun r s6 ⟨u, hr, h6⟩ => ?_
      subst hr
      refine wpAny_bind (thn h6 fun _ s7 ⟨x, H7, I7, r7, y7, st7, fr7⟩ => ?_)
      have I7' := I7.pinned (stat fr7) (T.obj _ _ st7)
      refine wpAny_bind (thn (hg _ _ _ _ _ s7 σ5 H7 x u _ I7' r7 (step x H7 y7)) fun _ s8 ⟨σ8, H8, I8, q8⟩ => ?_)
      refine wpAny_bind (wpAny_bind (thn (he _ _ _ _ _ s8 σ8 H8 _ I8 q8) fun v s9 ⟨y, H9, I9, r9, ys, e9, z9, n9⟩ => ?_))
      refine wpAny_bind (thn (mt_append (X := Y) _ s9 σ8 H9 (.ref s2.heap.objs.size) [y] (.ref s2.heap.objs.size) [v] (fun w H' => N σ8 H') I9 rfl (.cons r9 .nil) ⟨_, ys, y, rfl, rfl, of_lstOf e9, z9, n9⟩) fun w s10 ⟨_, H10, I10, _, n10⟩ => ?_)
      refine wpAny_pure (wpAny_pure ⟨rfl, ?_⟩)
      obtain ⟨m', hm, w10⟩ := hN σ8 H10 n10
      refine ⟨m', hm, i + 1, σ8, H10, I10.unpinned, T.keep _ _ _ st7 fun b hb o e => (I10.pin (b, o) (List.mem_append_right _ (List.mem_append_right _ (mem_pinsAt hb e)))).1, fun b hb => ?_, w10⟩
      obtain ⟨o, e, d⟩ := T.obj _ _ st7 b hb
      exact (I10.pin (b, o) (List.mem_append_right _ (List.mem_append_right _ (mem_pinsAt hb e)))).2.1
  exact codeAny_compStart_list loop (T.self _ 0 _ _ _ st4 loop)
theorem pe_comp (hc : X.calm = true) (c : CompOk X scope Nc js) (hi : PI X tg iter wi) (hg : ∀ C s3 H3 fp, PG (X.comp scope C Nc s3 H3 fp) tg g) (he : ∀ C s3 H3 fp, PE (X.comp scope C Nc s3 H3 fp) elt te)
    (hs : ∀ x, foldedSetIterable iter X.env x = pure x := by intro _; rfl) : PE X (.ListComp elt [⟨tg, iter, [], 0⟩] scope pos) (tComp wi g js te) := by
  intro pins s σ H Q I h
  rw [eval_ListComp]
  refine wpAny_comprehension_free (use := none) (g := ⟨tg, iter, [], 0⟩) (gs := []) rfl hs (closure_of (c.has I)) c.kind c.loc
    (comp_core (RR := fun acc C => compPost (model X.prog X.w) X.A X.xe none (EP X pins σ Q) acc C) (NX := fun D H' => Q (.ref D) H') hc c hi hg he I h fun D H3 s3 fp σ5 H5 s6 I3 f3 I6 qn => ?_)
  obtain ⟨m, hn, _⟩ := I6.loc
  exact ⟨m, hn, fun h' hs' => ⟨.ref D, H5, comp_after I3 f3 I6 hs', rfl, qn⟩⟩
theorem ps_setc {i : Nat} {y : Str} {py spos : Pos} (hN : X.N.Nodup) (hiN : X.N[i]? = some y) (hy : Loc X.env.scope y) (hc : X.calm = true) (c : CompOk X scope Nc js) (hi : PI X tg iter wi) (hg : ∀ C s3 H3 fp, PG (X.comp scope C Nc s3 H3 fp) tg g)
    (he : ∀ C s3 H3 fp, PE (X.comp scope C Nc s3 H3 fp) elt te) (hsw : swapsWith (.ListComp elt [⟨tg, iter, [], 0⟩] scope pos) (some (.Name y py)) spos.line X.env = pure true := by rfl)
    (hs : ∀ x, foldedSetIterable iter X.env x = pure x := by intro _; rfl) (hf : X.fn y = true ∨ X.env.scope.names.lookup y = some .local := by first | exact .inl rfl | exact .inr rfl | assumption) :
    PS X (.Assign [.Name y py] (.ListComp elt [⟨tg, iter, [], 0⟩] scope pos) spos) (tAsg (tComp wi g js te) (gName i)) := by
  intro pins s σ H D I h
  rw [exec_Assign_Name_used _ _ _ _ hsw]
  refine wpAny_bind (wpAny_standAt (wpAny_bind ?_))
  show wpAny _ X.A (do let _ ← comprehension (.ListComp elt [⟨tg, iter, [], 0⟩] scope pos) scope X.env _ (newList []) false (eval iter X.env) (some (assign (.Name y py) X.env))) _ _ s
  refine wpAny_bind (wpAny_mono (wpAny_comprehension_free (use := some (assign (.Name y py) X.env)) (g := ⟨tg, iter, [], 0⟩) (gs := []) (Q := fun _ s' => SP X pins D .next s') rfl hs (closure_of (c.has I)) c.kind c.loc
    (comp_core (RR := fun acc C => compPost (model X.prog X.w) X.A X.xe (some (assign (.Name y py) X.env)) (fun _ s' => SP X pins D .next s') acc C) (NX := fun Da H' => D.nx (σ.set i (some (.ref Da))) H') hc c hi hg he I h fun Da H3 s3 fp σ5 H5 s6 I3 f3 I6 qn => ?_))
    (fun _ s' hq => wpAny_pure (wpAny_pure hq)) fun _ _ e => e)
  obtain ⟨m, hn, _⟩ := id I6.loc
  have I7 : Inv X pins σ H5 s6 := comp_after I3 f3 I6 (.refl ..)
  have hC : H5 s3.heap.objs.size = none := I6.free
  have nL : s3.heap.objs.size ≠ X.env.locals := Nat.ne_of_gt I3.lt
  have nc : ∀ x a, X.env.cells.lookup x = some a → a ≠ s3.heap.objs.size := fun x a e => by
    obtain ⟨v, q⟩ := I3.cell x a e
    exact Nat.ne_of_lt q.lt
  have np : ∀ p ∈ X.pn ++ pins, p.1 ≠ s3.heap.objs.size := fun p hp => Nat.ne_of_lt (Heap.lt_size (I3.pin p hp).1)
  show wpAny _ _ (assign (.Name y py) X.env (.ref Da)) _ _ _
  refine wpAny_assign_Name (store_ok2 (v := .ref Da) I7 hN hiN hy rfl (fun s8 I8 hb => ?_) hf)
  obtain ⟨a, hs8, ha⟩ := hb
  have nCa : s3.heap.objs.size ≠ a := by
    rcases ha with z | z
    · rw [z]; exact nL
    · exact (nc y a z).symm
  refine ⟨m, hn.sameBut hs8 nCa, fun h9 hs9 => ?_⟩
  exact ⟨_, H5, I8.turned (t' := s8.toks) (fun b o hb e => (hs9.2 b hb).trans e) hC nL (.inr (Nat.le_trans I3.sz (Nat.le_refl _))) nc np, qn⟩
end
end L2
set_option Elab.async false
set_option linter.all false
set_option maxRecDepth 100000
set_option maxHeartbeats 4000000
namespace L2
open PySem PySem.Spec PyProof.Rows
section
variable {X : Cx}
def rTupleU : List V → Hp → VK → Prop := fun xs H Q => match xs with
  | [.ref p] => (∃ ys, lstOf (H p) = some ys ∧ ∀ l, H l = none → Q (.ref l) (upd H l (.tup ys))) ∨ (∃ ys, tupOf (H p) = some ys ∧ Q (.ref p) H)
  | _ => False
theorem call_tupleU : CallR X (.type "tuple") rTupleU := by
  intro pins s σ H xs us Q I r h
  unfold rTupleU at h
  split at h
  · rename_i p
    rcases h with ⟨ys, e, h⟩ | ⟨ys, e, h⟩
    · exact call_tuple_of pins s σ H _ us Q I r ⟨p, ys, rfl, .inl ⟨SqL.of (of_lstOf e), h⟩⟩
    · exact call_tuple_of pins s σ H _ us Q I r ⟨p, ys, rfl, .inr ⟨SqT.of (of_tupOf e), h⟩⟩
  · exact h.elim
theorem rTupleU_lst {p : Addr} {H : Hp} {Q : VK} {ys : List V} (e : H p = some (.lst ys)) (h : ∀ l, H l = none → Q (.ref l) (upd H l (.tup ys))) : rTupleU [.ref p] H Q := .inl ⟨ys, by rw [e]; rfl, h⟩
def rMulW : R2 := fun x y H Q => match x, y with
  | .int i, .int j => CMul i j ∧ Q (.int (i * j)) H
  | .ref l, .int k => ∃ xs, lstOf (H l) = some xs ∧ 0 ≤ k ∧ k < 2 ^ 62 ∧ xs.length * k.toNat ≤ sizeLine ∧ ∀ p, H p = none → Q (.ref p) (upd H p (.lst (List.replicate k.toNat xs).flatten))
  | _, _ => False
theorem op_mulW : OpR X (binaryOp .Mult) rMulW := by
  intro pins s σ H x y v u Q I rx ry h
  cases x with
  | int i => cases y with
    | int j => exact op_mul pins s σ H _ _ v u Q I rx ry ⟨i, j, rfl, rfl, h⟩
    | _ => exact False.elim h
  | ref l => cases y with
    | int k =>
      obtain ⟨xs, e, k0, k1, h⟩ := h
      exact op_rep pins s σ H _ _ v u Q I rx ry ⟨l, k, xs, rfl, rfl, of_lstOf e, by omega, by omega, h⟩
    | _ => exact False.elim h
  | _ => exact False.elim h
theorem rMulW_int (H : Hp) (Q : VK) (i j : Int) : rMulW (.int i) (.int j) H Q = (CMul i j ∧ Q (.int (i * j)) H) := rfl
theorem rMulW_ref (H : Hp) (Q : VK) (l : Addr) (k : Int) : rMulW (.ref l) (.int k) H Q = (∃ xs, lstOf (H l) = some xs ∧ 0 ≤ k ∧ k < 2 ^ 62 ∧ xs.length * k.toNat ≤ sizeLine ∧ ∀ p, H p = none → Q (.ref p) (upd H p (.lst (List.replicate k.toNat xs).flatten))) := rfl
def isS (x : V) : Prop := match x with
  | .str _ => True
  | _ => False
def tBMS (r : V → List V → Hp → VK → Prop) (to : TE) (t : TA) : TE := fun σ H Q => to σ H fun x H1 => isS x ∧ t σ H1 fun xs H2 => r x xs H2 Q
theorem isS.ty {K : PySem.W.Frag} {x : V} {H : Hp} (h : isS x) : tyV K "str" x H := by
  unfold isS at h
  split at h
  · rfl
  · exact h.elim
theorem isS_str (z : Str) : isS (.str z) = True := rfl
theorem mono_c {v : V} : ∀ σ H Q Q', (∀ v H', Q v H' → Q' v H') → tC v σ H Q → tC v σ H Q' := fun _ _ _ _ h q => h _ _ q
variable {o e : Expr} {es : List Expr} {to : TE} {t : TA} {name : Str} {apos cpos : Pos} {id : String} {r : V → List V → Hp → VK → Prop}
theorem pe_bmS (slot : Slot "str" name id) (hty : typeOf (.builtin id) = pure (.type "method_descriptor")) (hm : MtM X id r) (ho : PE X o to) (ha : PA X (e :: es) t) (mono : ∀ σ H Q Q', (∀ v H', Q v H' → Q' v H') → to σ H Q → to σ H Q')
    (hbase : attributeBase o name X.env (eval o X.env) = eval o X.env := by rfl)
    (hfew : ((backTo cpos (starEach (e :: es) X.env)).all (fun x => !x.1) && (backToKw cpos (keywordEach [] X.env)).all (fun x => x.1.isSome)
      && decide ((e :: es).length + ([] : List Keyword).length + (if ([] : List Keyword).isEmpty then 0 else 1) < 30)) = true := by rfl)
    (hline : (apos.endLine == cpos.line) = true := by rfl) (hs : starEach (e :: es) X.env = (false, eval e X.env) :: starEach es X.env := by rfl) (hplain : (backTo cpos (starEach es X.env)).any (·.1) = false := by rfl) :
    PE X (.Call (.Attribute o name apos) (e :: es) [] cpos) (tBMS r to t) :=
  (pe_bm PySem.F.plainAttrs_str slot hty hm ho ha hbase hfew hline hs hplain).imp fun σ H Q h => mono σ H _ _ (fun v H' q => ⟨q.1.ty, q.2⟩) h
theorem strsAre_of : ∀ {ys : List Str} {us : List Value}, Vals (ys.map V.str) us → StrsAre us ys
  | [], us, r => by rw [List.map_nil] at r; cases r; exact .nil
  | y :: ys, us, r => by
    rw [List.map_cons] at r
    cases r with
    | cons r1 r2 =>
      obtain ⟨t, rfl⟩ := r1
      exact .cons y t (strsAre_of r2)
def rJoinU : V → List V → Hp → VK → Prop := fun x vs H Q => match x, vs with
  | .str z, [.ref p] => ∃ ys : List Str, H p = some (.lst (ys.map V.str)) ∧ (ys.map (·.length)).sum + ys.length * z.length ≤ 16777216 ∧ Q (.str (Txt.join z ys)) H
  | _, _ => False
theorem mt_joinU : MtM X "str.join" rJoinU := by
  intro pins s σ H x vs v us Q I rx rv h
  unfold rJoinU at h
  split at h
  · rename_i z p
    obtain ⟨ys, e, hz, q⟩ := h
    obtain ⟨t, rfl⟩ := rx
    obtain ⟨u, rfl, ru⟩ := rv.one
    cases ru
    obtain ⟨its, rr, pl, _⟩ := I.list (SqL.of e)
    exact join_list pl.isList (by simpa using strsAre_of rr) hz fun t' k => ⟨.str _, H, I.tok k, ⟨_, rfl⟩, q⟩
  · exact h.elim
def cutS (z : Str) (lo hi : Option Int) : Str := ⟨((z.cps.toList.drop (HT.sIx z.length 0 lo)).take (HT.sIx z.length z.length hi - HT.sIx z.length 0 lo)).toArray⟩
theorem strIx_eq (lo hi : Option Int) (n : Nat) : Builtin.Str.strSliceIndices lo hi 1 n = (List.range (HT.sIx n n hi - HT.sIx n 0 lo)).map (HT.sIx n 0 lo + ·) := by
  rw [← sliceRange_one]
  unfold Builtin.Str.strSliceIndices
  have e1 : (match lo with | none => (if (1 : Int) > 0 then (0 : Int) else (n : Int) - 1) | some i => let i := if i < 0 then i + (n : Int) else i; if (1 : Int) > 0 then max 0 (min i (n : Int)) else max (-1) (min i ((n : Int) - 1))) = ((HT.sIx n 0 lo : Nat) : Int) := by
    cases lo with
    | none => simp [HT.sIx]
    | some v =>
      simp only [show (1 : Int) > 0 by decide, if_true, HT.sIx]
      by_cases h : v < 0
      · simp only [h, if_true]; omega
      · simp only [h, if_false]; omega
  have e2 : (match hi with | none => (if (1 : Int) > 0 then (n : Int) else -1) | some i => let i := if i < 0 then i + (n : Int) else i; if (1 : Int) > 0 then max 0 (min i (n : Int)) else max (-1) (min i ((n : Int) - 1))) = ((HT.sIx n n hi : Nat) : Int) := by
    cases hi with
    | none => simp [HT.sIx]
    | some v =>
      simp only [show (1 : Int) > 0 by decide, if_true, HT.sIx]
      by_cases h : v < 0
      · simp only [h, if_true]; omega
      · simp only [h, if_false]; omega
  have key : ∀ a b a' b' : Int, a = a' → b = b' → sliceRange a b 1 = sliceRange a' b' 1 := by
    intro a b a' b' h1 h2
    rw [h1, h2]
  exact key _ _ _ _ e1 e2
theorem cutS_eq (z : Str) (lo hi : Option Int) : Txt.slice z lo hi = cutS z lo hi := by
  have e : (Builtin.Str.strSliceIndices lo hi 1 z.length).filterMap (z.cps[·]?) = (z.cps.toList.drop (HT.sIx z.length 0 lo)).take (HT.sIx z.length z.length hi - HT.sIx z.length 0 lo) := by
    rw [strIx_eq, pick_run]
  unfold Txt.slice cutS
  split
  · rename_i h
    have h2 : ((Builtin.Str.strSliceIndices lo hi 1 z.length).length == z.length) = true := by simpa using h
    have h3 : (Builtin.Str.strSliceIndices lo hi 1 z.length).length = z.length := eq_of_beq h2
    rw [strIx_eq, List.length_map, List.length_range] at h3
    have hl : z.cps.toList.length = z.length := by simp [Str.length]
    have q : ((z.cps.toList.drop (HT.sIx z.length 0 lo)).take (HT.sIx z.length z.length hi - HT.sIx z.length 0 lo)) = z.cps.toList := by
      have hb : HT.sIx z.length z.length hi ≤ z.length := by
        cases hi with
        | none => exact Nat.le_refl _
        | some v => simp only [HT.sIx]; split <;> omega
      by_cases h0 : z.length = 0
      · have : z.cps.toList = [] := List.length_eq_zero_iff.mp (by omega)
        rw [this]; simp
      · have ha : HT.sIx z.length 0 lo = 0 := by omega
        rw [h3, ha, List.drop_zero]
        exact List.take_of_length_le (by omega)
    rw [q]
  · rw [e]
def rSlS : V → Option Int → Option Int → Hp → VK → Prop := fun x lo hi H Q => ∃ z, x = .str z ∧ z.length ≤ sizeLine ∧ Q (.str (cutS z lo hi)) H
theorem sl_str : SlR X rSlS := by
  intro pins s σ H x v vl vu lo hi sl Q I rx hs pl pu h
  obtain ⟨z, rfl, hz, q⟩ := h
  obtain ⟨t, rfl⟩ := rx
  have gen : ∀ (l u : Option (Int × Tok)), vl = partValue l → vu = partValue u → lo = l.map (·.1) → hi = u.map (·.1) →
      wpAny (model X.prog X.w) X.A (getItem (.str z t) (.ref sl)) (EP X pins σ Q) X.xe s := by
    intro l u e1 e2 e3 e4
    subst e1 e2 e3 e4
    refine wpAny_getItem_str_slice (l := l) (u := u) (st := none) hs (by rfl) ?_
    have e : (if ((((none : Option (Int × Tok)).map (·.1)).getD 1 == 1 && (slicePicked z l u none).length == z.length) = true) then z else ⟨((slicePicked z l u none).filterMap (z.cps[·]?)).toArray⟩) = cutS z (l.map (·.1)) (u.map (·.1)) := by
      rw [← cutS_eq]; rfl
    refine post_val_or_str ⟨?_, fun t' c => ⟨.str (cutS z (l.map (·.1)) (u.map (·.1))), H, I.tok c, ⟨t', congrArg (Value.str · t') e⟩, q⟩⟩
    rw [e, ← cutS_eq]
    exact Nat.le_trans (Txt.slice_le _ _ _) hz
  refine ⟨"str", _, F.slot_str_getitem.lookup, typeIs_str _ _ _, ?_⟩
  cases pl with
  | none => cases pu with
    | none => exact gen none none rfl rfl rfl rfl
    | int j tj => exact gen none (some (j, tj)) rfl rfl rfl rfl
  | int i ti => cases pu with
    | none => exact gen (some (i, ti)) none rfl rfl rfl rfl
    | int j tj => exact gen (some (i, ti)) (some (j, tj)) rfl rfl rfl rfl
def compChk (sc : Scope) (N : List Str) (scope : Scope) (Nc : List Str) (js : List (Option Nat)) : Bool :=
  (scope.kind == .function) && scope.names.all (fun y => !(y.2 == .cell)) && scope.names.all (fun y => !(y.2 == .local) || scope.names.lookup y.1 == some .local) &&
  scope.names.all (fun y => !(y.2 == .free) || ((sc.names.lookup y.1 == some .cell || sc.names.lookup y.1 == some .free) && !(scope.names.lookup y.1 == some .local))) && (js.length == Nc.length) &&
  (List.range js.length).all (fun i => match js[i]? with
    | some (some j) => (N[j]? == Nc[i]?) && (match Nc[i]? with | some x => scope.names.any (fun y => y.1 == x && y.2 == .free) | none => true)
    | _ => true)
theorem compOk_of {sc scope : Scope} {N Nc : List Str} {js : List (Option Nat)} (hd : compChk sc N scope Nc js = true) (hsc : X.env.scope = sc := by rfl) (hN : X.N = N := by rfl) : CompOk X scope Nc js := by
  simp only [compChk, Bool.and_eq_true, List.all_eq_true, Bool.or_eq_true, Bool.not_eq_true', beq_iff_eq, List.mem_range] at hd
  obtain ⟨⟨⟨⟨⟨h1, h2⟩, h3⟩, h4⟩, h5⟩, h6⟩ := hd
  have kk : ∀ x, X.env.kindOf x = sc.names.lookup x := fun x => by rw [← hsc]; rfl
  refine ⟨h1, fun y hy e => ?_, fun y hy e => ?_, fun y hy e => ?_, h5, fun x hx => ?_, fun i j x e1 e2 => ?_⟩
  · have := h2 y hy
    rw [e] at this; cases this
  · rcases h3 y hy with q | q
    · rw [e] at q; cases q
    · exact q
  · rcases h4 y hy with q | q
    · rw [e] at q; cases q
    · rw [kk]
      exact q.1
  · rcases h4 _ hx with q | q
    · cases q
    · intro z
      have q2 := q.2
      rw [z] at q2
      cases q2
  · have hi : i < js.length := (List.getElem?_eq_some_iff.mp e1).1
    have q := h6 i hi
    rw [e1, e2] at q
    simp only [Bool.and_eq_true, beq_iff_eq, List.any_eq_true] at q
    refine ⟨by rw [hN]; exact q.1, ?_⟩
    obtain ⟨y, hy, hy1, hy2⟩ := q.2
    obtain ⟨a, b⟩ := y
    simp only at hy1 hy2
    subst hy1 hy2
    exact hy
end
end L2
set_option Elab.async false
set_option linter.all false
set_option maxRecDepth 100000
set_option maxHeartbeats 4000000
namespace L2
open PySem PySem.Spec PyProof.Rows
theorem Inv.turnedNew {X : Cx} {pins : List (Addr × Obj)} {σ : L2.St} {H : Hp} {s : Shared} {h' : Heap} {t' : Nat} {fp wr : List Addr} {T : Addr} {xs : List V} {vs : List Value} (I : Inv X pins σ H s) (hf : ∀ b ∈ wr, FpOk X pins H b)
    (k : ∀ b o, b ∉ wr → s.heap.get? b = some o → h'.get? b = some o) (hT : s.heap.objs.size ≤ T) (tup : IsTup h' T vs.toArray) (r : Vals xs vs) (hz : xs.length ≤ sizeLine) (there : ∀ b ∈ wr, ∃ o, h'.get? b = some o) :
    Inv X pins σ (upd H T (.tup xs)) { s with heap := h', toks := t' } := by
  have neT : ∀ b u, H b = some u → b ≠ T := fun b u e => Nat.ne_of_lt (Nat.lt_of_lt_of_le (I.hok.lt e) hT)
  have nw : ∀ b u, H b = some u → b ∉ wr := fun b u e hb => by rw [(hf b hb).1] at e; cases e
  refine I.step (g' := s.gens) (d' := s.drawn) (ch := wr) (fun b hb => ?_) (fun b o _ _ hc e _ => k b o hc e) (fun b o _ _ hc e _ => ⟨o.slots, k b o hc e⟩) (fun b o hc e n => ?_) (fun b o hc e => ⟨o, k b o hc e⟩)
    (fun b ys e => by rw [upd_ne (neT b _ e)]; exact e) (fun b o u e => by rw [upd_ne (neT b _ e)]; exact e) (fun b ps e => ⟨#[], by rw [upd_ne (neT b _ e), e]; simp⟩) (fun m hm => ?_) (fun b u e => ?_) I.bare
  · obtain ⟨_, f1, _, f3, f4, f5⟩ := hf b hb
    exact ⟨f3, f1, f4, f5⟩
  · rw [upd_ne (Nat.ne_of_lt (Nat.lt_of_lt_of_le (Heap.lt_size e) hT))]; exact n
  · obtain ⟨o, es, ep, ho, rr⟩ := hm
    exact ⟨o, es, ep, k _ o (fun z => (hf _ z).2.1 rfl) ho, rr⟩
  · by_cases hb : b = T
    · subst hb
      rw [upd_same] at e
      cases e
      exact ⟨hz, vs, r, tup⟩
    · rw [upd_ne hb] at e
      refine (I.hok b u e).stay (fun d v hd q => k d v ?_ q) (fun d q => by rw [upd_ne (neT d _ q)]; exact q) fun d ys q => by rw [upd_ne (neT d _ q)]; exact q
      rcases hd with rfl | hd
      · exact nw _ _ e
      · exact nw _ _ hd
section
variable {X : Cx}
end
end L2
set_option Elab.async false
set_option linter.all false
set_option maxRecDepth 100000
set_option maxHeartbeats 4000000
namespace L2
open PySem PySem.Spec PyProof.Rows
section
variable {X : Cx}
def rAddW : R2 := fun x y H Q => match x, y with
  | .int i, .int j => Q (.int (i + j)) H
  | .str i, .str j => i.length + j.length ≤ sizeLine ∧ Q (.str (i ++ j)) H
  | .ref l, .ref b => (∃ xs zs, lstOf (H l) = some xs ∧ lstOf (H b) = some zs ∧ xs.length + zs.length ≤ sizeLine ∧ ∀ p, H p = none → Q (.ref p) (upd H p (.lst (xs ++ zs)))) ∨
      (∃ xs zs, tupOf (H l) = some xs ∧ tupOf (H b) = some zs ∧ xs ≠ [] ∧ zs ≠ [] ∧ xs.length + zs.length ≤ sizeLine ∧ ∀ p, H p = none → Q (.ref p) (upd H p (.tup (xs ++ zs))))
  | _, _ => False
theorem op_addW : OpR X (binaryOp .Add) rAddW := by
  intro pins s σ H x y v u Q I rx ry h
  cases x with
  | int i => cases y with
    | int j => exact op_add pins s σ H _ _ v u Q I rx ry ⟨i, j, rfl, rfl, h⟩
    | _ => exact False.elim h
  | str i => cases y with
    | str j => exact op_add_str pins s σ H _ _ v u Q I rx ry ⟨i, j, rfl, rfl, h⟩
    | _ => exact False.elim h
  | ref l => cases y with
    | ref b =>
      rcases h with ⟨xs, zs, e1, e2, h⟩ | ⟨xs, zs, e1, e2, n1, n2, hz, h⟩
      · exact op_cat pins s σ H _ _ v u Q I rx ry ⟨l, b, xs, zs, rfl, rfl, of_lstOf e1, of_lstOf e2, h⟩
      · exact op_catT pins s σ H _ _ v u Q I rx ry ⟨l, b, xs, zs, rfl, rfl, SqT.of (of_tupOf e1), SqT.of (of_tupOf e2), n1, hz, fun z => absurd z n2, fun _ => h⟩
    | _ => exact False.elim h
  | _ => exact False.elim h
theorem rAddW_int (H : Hp) (Q : VK) (i j : Int) : rAddW (.int i) (.int j) H Q = (Q (.int (i + j)) H) := rfl
theorem rAddW_str (H : Hp) (Q : VK) (i j : Str) : rAddW (.str i) (.str j) H Q = (i.length + j.length ≤ sizeLine ∧ Q (.str (i ++ j)) H) := rfl
end
end L2
set_option Elab.async false
set_option linter.all false
set_option maxRecDepth 100000
set_option maxHeartbeats 4000000
namespace L2
open PySem PySem.Spec PyProof.Rows
section
variable {X : Cx} {pos : Pos} {k v : Expr} {tk tv : TE}
end
end L2
set_option Elab.async false
set_option linter.all false
set_option maxRecDepth 100000
set_option maxHeartbeats 4000000
namespace L2
open PySem PySem.Spec PyProof.Rows
section
variable {X : Cx}
def rSlU (K : PySem.W.Frag) : V → Option Int → Option Int → Hp → VK → Prop := fun x lo hi H Q => match x with
  | .str z => z.length ≤ sizeLine ∧ Q (.str (cutS z lo hi)) H
  | .ref a => (∃ xs, SqL K H a xs ∧ ∀ p, H p = none → Q (.ref p) (upd H p (.lst (cutV xs lo hi)))) ∨
      ∃ xs, SqT K H a xs ∧ ¬ (HT.sIx xs.length 0 lo = 0 ∧ HT.sIx xs.length xs.length hi = xs.length) ∧ ∀ p, H p = none → Q (.ref p) (upd H p (.tup (cutV xs lo hi)))
  | _ => False
theorem sl_U : SlR X (rSlU X.K) := by
  intro pins s σ H x v vl vu lo hi sl Q I rx hs pl pu h
  unfold rSlU at h
  split at h
  · rename_i z
    exact sl_str pins s σ H (.str z) v vl vu lo hi sl Q I rx hs pl pu ⟨z, rfl, h⟩
  · rename_i a
    rcases h with ⟨xs, hx, q⟩ | ⟨xs, hx, nw, q⟩
    · exact sl_list pins s σ H (.ref a) v vl vu lo hi sl Q I rx hs pl pu ⟨a, xs, rfl, hx, q⟩
    · exact sl_tup pins s σ H (.ref a) v vl vu lo hi sl Q I rx hs pl pu ⟨a, xs, rfl, hx, nw, q⟩
  · exact h.elim
theorem rSlU_str (K : PySem.W.Frag) (H : Hp) (Q : VK) (z : Str) (lo hi : Option Int) : rSlU K (.str z) lo hi H Q = (z.length ≤ sizeLine ∧ Q (.str (cutS z lo hi)) H) := rfl
theorem rSlU.lst {K : PySem.W.Frag} {H : Hp} {Q : VK} {a : Addr} {xs : List V} {lo hi : Option Int} (e : H a = some (.lst xs)) (h : ∀ p, H p = none → Q (.ref p) (upd H p (.lst (cutV xs lo hi)))) : rSlU K (.ref a) lo hi H Q := .inl ⟨xs, SqL.of e, h⟩
theorem rSlU.tup {K : PySem.W.Frag} {H : Hp} {Q : VK} {a : Addr} {xs : List V} {lo hi : Option Int} (e : H a = some (.tup xs)) (nw : ¬ (HT.sIx xs.length 0 lo = 0 ∧ HT.sIx xs.length xs.length hi = xs.length)) (h : ∀ p, H p = none → Q (.ref p) (upd H p (.tup (cutV xs lo hi)))) : rSlU K (.ref a) lo hi H Q := .inr ⟨xs, SqT.of e, nw, h⟩
end
end L2
set_option Elab.async false
set_option linter.all false
set_option maxRecDepth 100000
set_option maxHeartbeats 4000000
namespace L2
open PySem PySem.Spec PyProof.Rows
section
variable {X : Cx}
def hasS (z y : Str) : Bool := !(Builtin.Str.occurrences z y 0 z.length 1).isEmpty
def rInU (K : PySem.W.Frag) (neg : Bool) : R2 := fun x y H Q => match x, y with
  | .str i, .str j => Q (.bl (if neg then !hasS j i else hasS j i)) H
  | x, .ref p => ∃ xs, (SqL K H p xs ∨ SqT K H p xs) ∧ flatV x = true ∧ xs.all flatV = true ∧ Q (.bl (if neg then !inV x xs else inV x xs)) H
  | _, _ => False
theorem rInU_str (K : PySem.W.Frag) (neg : Bool) (H : Hp) (Q : VK) (i j : Str) : rInU K neg (.str i) (.str j) H Q = Q (.bl (if neg then !hasS j i else hasS j i)) H := rfl
theorem op_inU {K : PySem.W.Frag} (hK : X.K = K) : OpR X (compareOp .In) (rInU K false) := by
  subst hK
  intro pins s σ H x y v u Q I rx ry h
  unfold rInU at h
  split at h
  · rename_i i j
    exact op_in_str pins s σ H _ _ v u Q I rx ry ⟨i, j, rfl, rfl, h⟩
  · rename_i p
    obtain ⟨xs, h⟩ := h
    exact op_in_seq pins s σ H _ _ v u Q I rx ry ⟨p, xs, rfl, h⟩
  · exact h.elim
theorem op_notinU {K : PySem.W.Frag} (hK : X.K = K) : OpR X (compareOp .NotIn) (rInU K true) := by
  subst hK
  intro pins s σ H x y v u Q I rx ry h
  unfold rInU at h
  split at h
  · rename_i i j
    exact op_notIn_str pins s σ H _ _ v u Q I rx ry ⟨i, j, rfl, rfl, h⟩
  · rename_i p
    obtain ⟨xs, h⟩ := h
    exact op_notIn_seq pins s σ H _ _ v u Q I rx ry ⟨p, xs, rfl, h⟩
  · exact h.elim
theorem rInU.lst {K : PySem.W.Frag} {neg : Bool} {H : Hp} {Q : VK} {x : V} {p : Addr} {xs : List V} (e : H p = some (.lst xs)) (fx : flatV x = true) (fs : xs.all flatV = true) (q : Q (.bl (if neg then !inV x xs else inV x xs)) H) : rInU K neg x (.ref p) H Q := by
  cases x <;> exact ⟨xs, .inl (SqL.of e), fx, fs, q⟩
theorem rInU.tupS {K : PySem.W.Frag} {neg : Bool} {H : Hp} {Q : VK} {x : V} {p : Addr} {xs : List V} (e : SqT K H p xs) (fx : flatV x = true) (fs : xs.all flatV = true) (q : Q (.bl (if neg then !inV x xs else inV x xs)) H) : rInU K neg x (.ref p) H Q := by
  cases x <;> exact ⟨xs, .inr e, fx, fs, q⟩
theorem range_pick (bs : List Bool) (d : Bool) : (List.range bs.length).map (fun i => (bs[i]?).getD d) = bs := by
  apply List.ext_getElem?
  intro i
  by_cases h : i < bs.length
  · simp [h]
  · rw [List.getElem?_eq_none_iff.mpr (by simp; omega), List.getElem?_eq_none_iff.mpr (by omega)]
theorem vals_bools : ∀ {bs : List Bool} {us : List Value}, Vals (bs.map V.bl) us → ∀ (i : Nat) (v : Value), us[i]? = some v → ∃ b, bs[i]? = some b ∧ v = .bool b
  | [], us, r, i, v, e => by rw [List.map_nil] at r; cases r; simp at e
  | b :: bs, us, r, i, v, e => by
    rw [List.map_cons] at r
    cases r with
    | cons r1 r2 =>
      cases i with
      | zero => cases r1; simp at e; exact ⟨b, rfl, e.symm⟩
      | succ i => simp at e; obtain ⟨b', e1, e2⟩ := vals_bools r2 i v e; exact ⟨b', by simpa using e1, e2⟩
def rAllU : List V → Hp → VK → Prop := fun xs H Q => match xs with
  | [.ref p] => ∃ bs : List Bool, H p = some (.lst (bs.map V.bl)) ∧ Q (.bl (bs.all id)) H
  | _ => False
def rAnyU : List V → Hp → VK → Prop := fun xs H Q => match xs with
  | [.ref p] => ∃ bs : List Bool, H p = some (.lst (bs.map V.bl)) ∧ Q (.bl (bs.any id)) H
  | _ => False
theorem kept_it {s : Shared} {h' : Heap} {o : Obj} (hk : ∀ b x, b ∉ [s.heap.objs.size] → (s.heap.push o).get? b = some x → h'.get? b = some x) : ∀ b x, s.heap.get? b = some x → h'.get? b = some x :=
  fun b x e => hk b x (fun hm => by rw [List.mem_singleton.mp hm] at e; exact Nat.lt_irrefl _ (Heap.lt_size e)) (Heap.get?_push_of_some _ e)
theorem call_allU (hc : X.calm = true) : CallR X (.builtin "all") rAllU := by
  intro pins s σ H xs us Q I r h
  unfold rAllU at h
  split at h
  · rename_i p
    obtain ⟨bs, e, q⟩ := h
    obtain ⟨u, rfl, ru⟩ := vals1 r
    cases ru
    obtain ⟨its, rr, pl, _⟩ := I.list (SqL.of e)
    have isl := pl.isList
    have plt : p < s.heap.objs.size := by obtain ⟨_, e, _⟩ := isl; exact Heap.lt_size e
    refine call_all_walk (wpAny_pyIter_list isl ?_)
    refine ⟨s.heap.objs.size, [s.heap.objs.size, p], [s.heap.objs.size], its.toArray.size, _, _, fun i => (bs[i]?).getD true, rfl, Walks.list (A := X.A.in1) (I.ok.hd hc) _ p (Nat.ne_of_lt plt) its.toArray,
      ⟨⟨_, Heap.get?_push_size _ rfl, rfl, rfl⟩, isl.push _⟩, fun i v s' Q' E' hp hq => ?_, fun h' tk hk => ?_⟩
    · obtain ⟨b, e, rfl⟩ := vals_bools rr i v (by simpa using hp)
      simp only [Option.getD_some, e] at hq
      exact wpAny_truthy_bool hq
    · have e : ((List.range its.toArray.size).all fun i => (bs[i]?).getD true) = bs.all id := by
        have hlen : its.length = bs.length := by have := rr.length; simpa using this.symm
        rw [List.size_toArray, hlen]
        conv => rhs; rw [← range_pick bs true, List.all_map]
        rfl
      rw [e]
      exact ⟨.bl _, H, I.kept (kept_it hk), rfl, q⟩
  · exact h.elim
theorem call_anyU (hc : X.calm = true) : CallR X (.builtin "any") rAnyU := by
  intro pins s σ H xs us Q I r h
  unfold rAnyU at h
  split at h
  · rename_i p
    obtain ⟨bs, e, q⟩ := h
    obtain ⟨u, rfl, ru⟩ := vals1 r
    cases ru
    obtain ⟨its, rr, pl, _⟩ := I.list (SqL.of e)
    have isl := pl.isList
    have plt : p < s.heap.objs.size := by obtain ⟨_, e, _⟩ := isl; exact Heap.lt_size e
    refine call_any_walk (wpAny_pyIter_list isl ?_)
    refine ⟨s.heap.objs.size, [s.heap.objs.size, p], [s.heap.objs.size], its.toArray.size, _, _, fun i => (bs[i]?).getD false, rfl, Walks.list (A := X.A.in1) (I.ok.hd hc) _ p (Nat.ne_of_lt plt) its.toArray,
      ⟨⟨_, Heap.get?_push_size _ rfl, rfl, rfl⟩, isl.push _⟩, fun i v s' Q' E' hp hq => ?_, fun h' tk hk => ?_⟩
    · obtain ⟨b, e, rfl⟩ := vals_bools rr i v (by simpa using hp)
      simp only [Option.getD_some, e] at hq
      exact wpAny_truthy_bool hq
    · have e : ((List.range its.toArray.size).any fun i => (bs[i]?).getD false) = bs.any id := by
        have hlen : its.length = bs.length := by have := rr.length; simpa using this.symm
        rw [List.size_toArray, hlen]
        conv => rhs; rw [← range_pick bs false, List.any_map]
        rfl
      rw [e]
      exact ⟨.bl _, H, I.kept (kept_it hk), rfl, q⟩
  · exact h.elim
theorem rAllU_ref (p : Addr) (H : Hp) (Q : VK) : rAllU [.ref p] H Q = (∃ bs : List Bool, H p = some (.lst (bs.map V.bl)) ∧ Q (.bl (bs.all id)) H) := rfl
theorem rAnyU_ref (p : Addr) (H : Hp) (Q : VK) : rAnyU [.ref p] H Q = (∃ bs : List Bool, H p = some (.lst (bs.map V.bl)) ∧ Q (.bl (bs.any id)) H) := rfl
end
end L2
set_option Elab.async false
set_option linter.all false
set_option maxRecDepth 100000
set_option maxHeartbeats 4000000
namespace L2
open PySem PySem.Spec PyProof.Rows
theorem upd_D {H : Hp} {D : Addr} {a b : HO} : upd (upd H D a) D b = upd H D b := upd_upd
section
variable {D : Addr} {te : TE} {E : Ends} {r : L2.St} {H : Hp}
theorem comp_str {z : Str} (f : Nat → V) (hz : z.length ≤ sizeLine) (he : ∀ c ∈ z.cps.toList, ∀ l Q, Q (f c) (upd H D (.lst l)) → te (some (.str ⟨#[c]⟩) :: r) (upd H D (.lst l)) Q)
    (hn : ∀ v, E.nx (v :: r) (upd H D (.lst (z.cps.toList.map f)))) : LoopR (ItS z) (gName 0) (tEmit D te) E (none :: r) (upd H D (.lst [])) := by
  have hzl : z.cps.toList.length = z.length := by simp [Str.length]
  refine loop_str (fun i σ H' => ∃ v : Option V, σ = v :: r ∧ H' = upd H D (.lst ((z.cps.toList.take i).map f))) ⟨none, rfl, rfl⟩ ?_ ?_
  · rintro i c σ H' hc ⟨v, rfl, rfl⟩
    have hl : i < z.cps.toList.length := (List.getElem?_eq_some_iff.mp hc).1
    refine he c (List.mem_of_getElem? hc) _ _ ⟨_, by rw [upd_same]; rfl, by simp; omega, some (.str ⟨#[c]⟩), rfl, ?_⟩
    rw [upd_D, List.take_succ, hc]
    simp
  · rintro σ H' ⟨v, rfl, rfl⟩
    rw [List.take_of_length_le (by omega)]
    exact hn v
theorem comp_range {lo : Int} {n : Nat} (f : Nat → V) (hz : n ≤ sizeLine) (he : ∀ i, i < n → ∀ l Q, Q (f i) (upd H D (.lst l)) → te (some (.int (lo + (i : Nat))) :: r) (upd H D (.lst l)) Q)
    (hn : ∀ v, E.nx (v :: r) (upd H D (.lst ((List.range n).map f)))) : LoopR (Itr lo n) (gName 0) (tEmit D te) E (none :: r) (upd H D (.lst [])) := by
  refine loop_range (fun i σ H' => ∃ v : Option V, σ = v :: r ∧ H' = upd H D (.lst ((List.range i).map f))) ⟨none, rfl, rfl⟩ ?_ ?_
  · rintro i σ H' hi ⟨v, rfl, rfl⟩
    refine he i hi _ _ ⟨_, by rw [upd_same]; rfl, by simp; omega, some (.int (lo + (i : Nat))), rfl, ?_⟩
    rw [upd_D, List.range_succ]
    simp
  · rintro σ H' ⟨v, rfl, rfl⟩
    exact hn v
theorem comp_list {K : PySem.W.Frag} {a : Addr} {xs : List V} (f : V → V) (ha : H a = some (.lst xs)) (hD : H D = none) (hz : xs.length ≤ sizeLine) (he : ∀ x ∈ xs, ∀ l Q, Q (f x) (upd H D (.lst l)) → te (some x :: r) (upd H D (.lst l)) Q)
    (hn : ∀ v, E.nx (v :: r) (upd H D (.lst (xs.map f)))) : LoopR (Itl K a) (gName 0) (tEmit D te) E (none :: r) (upd H D (.lst [])) := by
  have ne : a ≠ D := ne_of_none ha hD
  refine loop_list (xs := xs) (fun i σ H' => ∃ v : Option V, σ = v :: r ∧ H' = upd H D (.lst ((xs.take i).map f))) ⟨none, rfl, rfl⟩ ?_ ?_ ?_
  · rintro i σ H' _ ⟨v, _, rfl⟩
    rw [upd_ne ne]; exact ha
  · rintro i x σ H' hx ⟨v, rfl, rfl⟩
    have hl : i < xs.length := (List.getElem?_eq_some_iff.mp hx).1
    refine he x (List.mem_of_getElem? hx) _ _ ⟨_, by rw [upd_same]; rfl, by simp; omega, some x, rfl, ?_⟩
    rw [upd_D, List.take_succ, hx]
    simp
  · rintro σ H' ⟨v, rfl, rfl⟩
    rw [List.take_of_length_le (Nat.le_refl _)]
    exact hn v
end
end L2
set_option Elab.async false
set_option linter.all false
set_option maxRecDepth 100000
set_option maxHeartbeats 4000000
set_option autoImplicit true
set_option relaxedAutoImplicit true
namespace L2
open PySem PySem.Spec PyProof.Rows
structure QE (X : Cx) (e : Expr) (t : TE) : Prop where
  h : PE X e t
structure QT (X : Cx) (e : Expr) (t : TT) : Prop where
  h : PT X e t
structure QW (X : Cx) (e : Expr) (t : TT) : Prop where
  h : PW X e t
structure QA (X : Cx) (es : List Expr) (t : TA) : Prop where
  h : PA X es t
structure QS (X : Cx) (st : Stmt) (t : TS) : Prop where
  h : PS X st t
structure QSs (X : Cx) (st : List Stmt) (t : TS) : Prop where
  h : PSs X st t
structure QG (X : Cx) (e : Expr) (t : TG) : Prop where
  h : PG X e t
structure QGs (X : Cx) (es : List Expr) (t : TGs) : Prop where
  h : PGs X es t
structure QI (X : Cx) (tg iter : Expr) (wi : TI) : Prop where
  h : PI X tg iter wi
structure QO (X : Cx) (e : Option Expr) (t : TO) : Prop where
  h : PO X e t
structure QC (X : Cx) (op : CmpOp) (a b : Expr) (t : TE) : Prop where
  h : PC X op a b t
theorem qpss_nil : QSs X [] tNext := ⟨pss_nil⟩
theorem qpss_one (h1 : QS X stm t) : QSs X [stm] t := ⟨pss_one h1.h⟩
theorem qpss_cons (h1 : QS X stm t) (h2 : QSs X rst u) : QSs X (stm :: rst) (tSeq t u) := ⟨pss_cons h1.h h2.h⟩
theorem qpv (i : Nat) {x : Str} {pos : Pos} (hN : X.N[i]? = some x := by rfl) (hv : Vis X.env.scope x := by first | exact Or.inl rfl | exact Or.inr (Or.inl rfl) | exact Or.inr (Or.inr rfl))
    (hd : (x == ("__debug__" : Str)) = false := by decide) (hcd : (x == ("__classdict__" : Str)) = false := by decide) : QE X (.Name x pos) (tVar i) := ⟨pv i hN hv hd hcd⟩
theorem qpe_int : QE X (.Constant (.int i) j pos) (tC (.int i)) := ⟨pe_int⟩
theorem qpe_bl : QE X (.Constant (.bool b) j pos) (tC (.bl b)) := ⟨pe_bl⟩
theorem qpe_str : QE X (.Constant (.str x) j pos) (tC (.str x)) := ⟨pe_str⟩
theorem qpe_glob {x : Str} {v : V} {u : Value} {pos : Pos} (hg : Gl X x) (hm : X.mg x = some u) (r : RelV v u) (hd : (x == ("__debug__" : Str)) = false := by decide) : QE X (.Name x pos) (tC v) := ⟨pe_glob hg hm r hd⟩
theorem qpe_bltn {x : Str} {v : V} {u : Value} {pos : Pos} (hg : Gl X x) (hm : X.mg x = none) (hv : bootBuiltins x = some u) (r : RelV v u) (hn : x ≠ "__name__" := by decide) (hd : (x == ("__debug__" : Str)) = false := by decide) :
    QE X (.Name x pos) (tC v) := ⟨pe_bltn hg hm hv r hn hd⟩
theorem qpe_op (ho : OpR X (binaryOp op) r) (ha : QE X a ta) (hb : QE X b tb) : QE X (.BinOp a op b pos) (tOp r ta tb) := ⟨pe_op ho ha.h hb.h⟩
theorem qpe_not (ha : QE X a ta) : QE X (.UnaryOp .Not a pos) (tNotV ta) := ⟨pe_not ha.h⟩
theorem qpe_un (ho : UnR X (unaryOp op) r) (ha : QE X a ta) : QE X (.UnaryOp op a pos) (tUn r ta) := ⟨pe_un ho ha.h⟩
theorem qpe_cmpR (ho : OpR X (compareOp op) r) (ha : QE X a ta) (hb : QE X b tb) (hm : behindInMarks op b = false) : QE X (.Compare a [op] [b] pos) (tOp r ta tb) := ⟨pe_cmpR ho ha.h hb.h hm⟩
theorem qpt_cmpR (ho : OpR X (compareOp op) r) (ha : QE X a ta) (hb : QE X b tb) (hm : behindInMarks op b = false) : QT X (.Compare a [op] [b] pos) (tTest (tOp r ta tb)) := ⟨pt_cmpR ho ha.h hb.h hm⟩
theorem qpt_cmp (h : QC X op a b t) (h1 : behindInMarks op b = false := by first | exact nobehind _ (by decide) (by decide) | rfl) : QT X (.Compare a [op] [b] pos) (tB t) := ⟨pt_cmp h.h h1⟩
theorem qpt_not (ha : QT X a tA) : QT X (.UnaryOp .Not a pos) (tNot tA) := ⟨pt_not ha.h⟩
theorem QW.pt (h : QW X e t) : QT X e t := ⟨PW.pt h.h⟩
theorem qpw_and (ha : QT X a tA) (hb : QW X (.BoolOp .And (b :: rst) pos) tB') : QW X (.BoolOp .And (a :: b :: rst) pos) (tAnd tA tB') := ⟨pw_and ha.h hb.h⟩
theorem qpw_and1 (ha : QT X a tA) : QW X (.BoolOp .And [a] pos) tA := ⟨pw_and1 ha.h⟩
theorem qpt_val {e : Expr} (h : QE X e t) (he : ∀ whole, isTrue e X.env whole = (do let v ← whole; standAt e.pos; holding [v] (truthy v)) := by intro _; rfl) : QT X e (tB t) := ⟨pt_val h.h he⟩
theorem qpe_one (h : QE X a t) : QE X (.BoolOp op [a] pos) t := ⟨pe_one h.h⟩
theorem qpe_and (ha : QE X a ta) (hb : QE X (.BoolOp .And (b :: rst) pos) tb) : QE X (.BoolOp .And (a :: b :: rst) pos) (tAndV ta tb) := ⟨pe_and ha.h hb.h⟩
theorem qpe_or (ha : QE X a ta) (hb : QE X (.BoolOp .Or (b :: rst) pos) tb) : QE X (.BoolOp .Or (a :: b :: rst) pos) (tOrV ta tb) := ⟨pe_or ha.h hb.h⟩
theorem qpe_lst (h : QA X es t) : QE X (.List es pos) (tLst t) := ⟨pe_lst h.h⟩
theorem qpe_tup (h : QA X es t) : QE X (.Tuple es x1 pos) (tTup t) := ⟨pe_tup h.h⟩
theorem qpe_slice (hr : SlR X r) (he : QE X e te) (hl : QO X lw tl) (hu : QO X hi th) : QE X (.Subscript e (.Slice lw hi none p2) pos) (tSl r te tl th) := ⟨pe_slice hr he.h hl.h hu.h⟩
theorem qpo_none : QO X none tNoPart := ⟨po_none⟩
theorem qpo_some (h : QE X e te) : QO X (some e) (tPart te) := ⟨po_some h.h⟩
theorem qpe_ix (hr : IxR X r) (ha : QE X a ta) (hb : QE X b tb) (hs : PlainIx b) : QE X (.Subscript a b pos) (tOp r ta tb) := ⟨pe_ix hr ha.h hb.h hs⟩
theorem qpe_comp (hc : X.calm = true) (c : CompOk X scope Nc js) (hi : QI X tg iter wi) (hg : ∀ C s3 H3 fp, QG (X.comp scope C Nc s3 H3 fp) tg g) (he : ∀ C s3 H3 fp, QE (X.comp scope C Nc s3 H3 fp) elt te)
    (hs : ∀ x, foldedSetIterable iter X.env x = pure x := by intro _; rfl) : QE X (.ListComp elt [⟨tg, iter, [], 0⟩] scope pos) (tComp wi g js te) := ⟨pe_comp hc c hi.h (fun C s H f => (hg C s H f).h) (fun C s H f => (he C s H f).h) hs⟩
theorem qps_setc {i : Nat} {y : Str} {py spos : Pos} (hN : X.N.Nodup) (hiN : X.N[i]? = some y) (hy : Loc X.env.scope y) (hc : X.calm = true) (c : CompOk X scope Nc js) (hi : QI X tg iter wi) (hg : ∀ C s3 H3 fp, QG (X.comp scope C Nc s3 H3 fp) tg g)
    (he : ∀ C s3 H3 fp, QE (X.comp scope C Nc s3 H3 fp) elt te) (hsw : swapsWith (.ListComp elt [⟨tg, iter, [], 0⟩] scope pos) (some (.Name y py)) spos.line X.env = pure true := by rfl)
    (hs : ∀ x, foldedSetIterable iter X.env x = pure x := by intro _; rfl) (hf : X.fn y = true ∨ X.env.scope.names.lookup y = some .local := by first | exact .inl rfl | exact .inr rfl | assumption) :
    QS X (.Assign [.Name y py] (.ListComp elt [⟨tg, iter, [], 0⟩] scope pos) spos) (tAsg (tComp wi g js te) (gName i)) := ⟨ps_setc hN hiN hy hc c hi.h (fun C s H f => (hg C s H f).h) (fun C s H f => (he C s H f).h) hsw hs hf⟩
theorem qpe_call (F : FnOk X.prog X.w X.K X.mg X.base CX k f fd ps sp) (hr : Room k X.A) (hg : Gl X x) (hm : X.mg x = some (.ref f)) (hk : PySem.W.keepIn X.K (.ref f) = true) (hb : Binds X.K fd ps ds) (hd : Vals dvs ds) (hx : Passes CX X E)
    (ha : QA X (e :: es) t) (hdb : (x == ("__debug__" : Str)) = false := by decide) (he : starEach (e :: es) X.env = (false, eval e X.env) :: starEach es X.env := by rfl) (hpl : (backTo pos (starEach es X.env)).any (·.1) = false := by rfl) :
    QE X (.Call (.Name x p) (e :: es) [] pos) (tCall sp dvs E t) := ⟨pe_call F hr hg hm hk hb hd hx ha.h hdb he hpl⟩
theorem qpe_callTy (hc : CallR X (.type T) r) (hg : Gl X x) (hm : X.mg x = none) (hv : bootBuiltins x = some (.type T)) (ha : QA X (e :: es) t) (hn : x ≠ "__name__" := by decide) (hdb : (x == ("__debug__" : Str)) = false := by decide)
    (he : starEach (e :: es) X.env = (false, eval e X.env) :: starEach es X.env := by rfl) (hpl : (backTo pos (starEach es X.env)).any (·.1) = false := by rfl) : QE X (.Call (.Name x p) (e :: es) [] pos) (tCB r t) := ⟨pe_callTy hc hg hm hv ha.h hn hdb he hpl⟩
theorem qpe_callB (hc : CallR X (.builtin idn) r) (hg : Gl X x) (hm : X.mg x = none) (hv : bootBuiltins x = some (.builtin idn)) (ha : QA X (e :: es) t) (hn : x ≠ "__name__" := by decide) (hdb : (x == ("__debug__" : Str)) = false := by decide)
    (he : starEach (e :: es) X.env = (false, eval e X.env) :: starEach es X.env := by rfl) (hpl : (backTo pos (starEach es X.env)).any (·.1) = false := by rfl) : QE X (.Call (.Name x p) (e :: es) [] pos) (tCB r t) := ⟨pe_callB hc hg hm hv ha.h hn hdb he hpl⟩
theorem qpe_bmL (slot : Slot "list" name idn) (hty : typeOf (.builtin idn) = pure (.type "method_descriptor")) (hm : MtM X idn r) (ho : QE X o to) (ha : QA X (e :: es) t) (mono : ∀ σ H Q Q', (∀ v H', Q v H' → Q' v H') → to σ H Q → to σ H Q')
    (hbase : attributeBase o name X.env (eval o X.env) = eval o X.env := by rfl)
    (hfew : ((backTo cpos (starEach (e :: es) X.env)).all (fun x => !x.1) && (backToKw cpos (keywordEach [] X.env)).all (fun x => x.1.isSome)
      && decide ((e :: es).length + ([] : List Keyword).length + (if ([] : List Keyword).isEmpty then 0 else 1) < 30)) = true := by rfl)
    (hline : (apos.endLine == cpos.line) = true := by rfl) (hs : starEach (e :: es) X.env = (false, eval e X.env) :: starEach es X.env := by rfl) (hplain : (backTo cpos (starEach es X.env)).any (·.1) = false := by rfl) :
    QE X (.Call (.Attribute o name apos) (e :: es) [] cpos) (tBML r to t) := ⟨pe_bmL slot hty hm ho.h ha.h mono hbase hfew hline hs hplain⟩
theorem qpe_bmS (slot : Slot "str" name idn) (hty : typeOf (.builtin idn) = pure (.type "method_descriptor")) (hm : MtM X idn r) (ho : QE X o to) (ha : QA X (e :: es) t) (mono : ∀ σ H Q Q', (∀ v H', Q v H' → Q' v H') → to σ H Q → to σ H Q')
    (hbase : attributeBase o name X.env (eval o X.env) = eval o X.env := by rfl)
    (hfew : ((backTo cpos (starEach (e :: es) X.env)).all (fun x => !x.1) && (backToKw cpos (keywordEach [] X.env)).all (fun x => x.1.isSome)
      && decide ((e :: es).length + ([] : List Keyword).length + (if ([] : List Keyword).isEmpty then 0 else 1) < 30)) = true := by rfl)
    (hline : (apos.endLine == cpos.line) = true := by rfl) (hs : starEach (e :: es) X.env = (false, eval e X.env) :: starEach es X.env := by rfl) (hplain : (backTo cpos (starEach es X.env)).any (·.1) = false := by rfl) :
    QE X (.Call (.Attribute o name apos) (e :: es) [] cpos) (tBMS r to t) := ⟨pe_bmS slot hty hm ho.h ha.h mono hbase hfew hline hs hplain⟩
theorem qpa_nil : QA X [] tNil := ⟨pa_nil⟩
theorem qpa_cons (ha : QE X e te) (hr : QA X es t) (hs : starEach (e :: es) X.env = (false, eval e X.env) :: starEach es X.env := by rfl) : QA X (e :: es) (tCons te t) := ⟨pa_cons ha.h hr.h hs⟩
theorem qpg_name {i : Nat} {x : Str} (hN : X.N.Nodup) (hi : X.N[i]? = some x) (hx : Loc X.env.scope x) (hf : X.fn x = true ∨ X.env.scope.names.lookup x = some .local := by first | exact .inl rfl | exact .inr rfl | assumption) : QG X (.Name x pos) (gName i) := ⟨pg_name hN hi hx hf⟩
theorem qpg_tup {es : List Expr} {t : TGs} {n : Nat} {K : PySem.W.Frag} (hc : X.calm = true) (h : QGs X es t) (hK : X.K = K) (hn : (assignEach es X.env).length = n := by rfl) (hst : (assignEach es X.env).findIdx? (·.1) = none := by rfl) :
    QG X (.Tuple es k pos) (gTup K n t) := by subst hK; exact ⟨pg_tup hc h.h hn hst⟩
theorem qpgs_nil : QGs X [] gNil := ⟨pgs_nil⟩
theorem qpgs_cons {e : Expr} {es : List Expr} (h1 : QG X e t) (h2 : QGs X es u) (hs : (assignEach (e :: es) X.env).map (·.2) = assign e X.env :: (assignEach es X.env).map (·.2) := by rfl) : QGs X (e :: es) (gCons t u) := ⟨pgs_cons h1.h h2.h hs⟩
theorem qpg_sub {o i : Expr} (ho : QE X o to) (hi : QE X i ti) (hs : PSet X t)
    (ha : ∀ v, assign (.Subscript o i pos) X.env v = (do
      let ov ← holding [v] (eval o X.env)
      let iv ← holding [v, ov] (eval i X.env)
      standAt pos
      holding [v, ov, iv] (setItem ov iv v)
      release [v, ov, iv] []) := by intro _; rfl) : QG X (.Subscript o i pos) (gSub to ti t) := ⟨pg_sub ho.h hi.h hs ha⟩
theorem qps_set {i : Nat} {x : Str} {e : Expr} {te : TE} {pos' : Pos} (hN : X.N.Nodup) (hi : X.N[i]? = some x) (hx : Loc X.env.scope x) (he : QE X e te) (hs : swapsWith e (some (.Name x pos')) pos.line X.env = pure false := by rfl)
    (hf : X.fn x = true ∨ X.env.scope.names.lookup x = some .local := by first | exact .inl rfl | exact .inr rfl | assumption) : QS X (.Assign [.Name x pos'] e pos) (tAsg te (gName i)) := ⟨ps_set hN hi hx he.h hs hf⟩
theorem qps_asg {tg e : Expr} (he : QE X e te) (hg : QG X tg g) (hs : swapsWithSole [tg] e pos.line X.env = pure false := by rfl) (hw : swappedStores [tg] e X.env = pure none := by rfl)
    (h1 : (assignEach [tg] X.env).map (·.2) = [assign tg X.env] := by rfl) : QS X (.Assign [tg] e pos) (tAsg te g) := ⟨ps_asg he.h hg.h hs hw h1⟩
theorem qps_ret (he : QE X e te) : QS X (.Return (some e) pos) (tRet te) := ⟨ps_ret he.h⟩
theorem qps_expr (he : QE X e te) (hs : swapsWith e none pos.line X.env = pure false := by rfl) : QS X (.Expr e pos) (tDrop te) := ⟨ps_expr he.h hs⟩
theorem qps_if (hc : QT X c tc) (ha : QSs X a t) (hb : QSs X b u) : QS X (.If c a b pos) (tIfS tc t u) := ⟨ps_if hc.h ha.h hb.h⟩
theorem qps_for {iter : Expr} (hp : PassesOwn (model X.prog X.w) X.A X.env X.xe) (hc : X.calm = true) (hi : QI X tg iter wi) (hg : QG X tg g) (hb : QSs X body tb) (hs : ∀ x, foldedSetIterable iter X.env x = pure x := by intro _; rfl) :
    QS X (.For tg iter body [] pos) (tFor wi g tb) := ⟨ps_for hp hc hi.h hg.h hb.h hs⟩
theorem qpi_range1 {a : Expr} {ta : TA} {p pos : Pos} (hg : Gl X "range") (hm : X.mg "range" = none) (ha : QA X [a] ta) (hs : starEach [a] X.env = [(false, eval a X.env)] := by rfl) : QI X tg (.Call (.Name "range" p) [a] [] pos) (iRng1 ta) := ⟨pi_range1 hg hm ha.h hs⟩
theorem qpi_any {K : PySem.W.Frag} (hl : QE X l tl) (hK : X.K = K) : QI X tg l (iAny K tl) := by subst hK; exact ⟨pi_any hl.h⟩
end L2
set_option Elab.async false
set_option linter.all false
set_option maxRecDepth 100000
set_option maxHeartbeats 4000000
namespace L2
open PySem PySem.Spec PyProof.Rows
def tEmitIf (D : Addr) (tt : TT) (te : TE) : TS := fun E σ H => tt σ H fun b H1 => if b = true then tEmit D te E σ H1 else E.nx σ H1
def tCompIf (wi : TI) (g : TG) (js : List (Option Nat)) (tt : TT) (te : TE) : TE := fun σ H Q => wi σ H fun J H1 => ∀ D, H1 D = none →
  LoopR J g (tEmitIf D tt te) { nx := fun _ H' => Q (.ref D) H', rt := fun _ _ => False } (compSt js σ) (upd H1 D (.lst []))
theorem compTurn_if1 (elt target iter cd : Expr) (scope : Scope) (pos : Pos) (it acc : Value) (env : Env) :
    compTurn (.ListComp elt [⟨target, iter, [cd], 0⟩] scope pos) 0 it acc env = (standAt iter.pos >>= fun _ => pyNext it >>= fun r => match r with
      | none => pure (.done .next)
      | some v => letOwnedTupleGo target it v >>= fun _ => assign target env v >>= fun _ =>
        (forIn [cd] true fun c ok => if ok = true then (isTrue c env (eval c env) >>= fun b => pure (ForInStep.yield b)) else pure (ForInStep.yield ok)) >>= fun ok =>
        if ok = true then ((eval elt env >>= fun x => call (.builtin "list.append") [acc, x] >>= fun _ => pure ()) >>= fun _ => again (.compLoop (.ListComp elt [⟨target, iter, [cd], 0⟩] scope pos) 0 it acc env))
        else again (.compLoop (.ListComp elt [⟨target, iter, [cd], 0⟩] scope pos) 0 it acc env)) := by rfl
section
variable {X : Cx} {scope : Scope} {Nc : List Str} {js : List (Option Nat)} {elt tg iter cd : Expr} {pos : Pos} {wi : TI} {g : TG} {te : TE} {tt : TT}
theorem comp_coreIf (hc : X.calm = true) (c : CompOk X scope Nc js) (hi : PI X tg iter wi) (hg : ∀ C s3 H3 fp, PG (X.comp scope C Nc s3 H3 fp) tg g) (ht : ∀ C s3 H3 fp, PT (X.comp scope C Nc s3 H3 fp) cd tt) (he : ∀ C s3 H3 fp, PE (X.comp scope C Nc s3 H3 fp) elt te)
    {pins : List (Addr × Obj)} {s : Shared} {σ : L2.St} {H : Hp} (I : Inv X pins σ H s) {RR : Value → Addr → Result → Shared → Prop} {NX : Addr → Hp → Prop}
    (h : wi σ H fun J H1 => ∀ D, H1 D = none → LoopR J g (tEmitIf D tt te) { nx := fun _ H' => NX D H', rt := fun _ _ => False } (compSt js σ) (upd H1 D (.lst [])))
    (fin : ∀ D H3 s3 fp σ5 H5 s6, Inv X pins σ H3 s3 → (∀ b ∈ fp, FpOk X pins H3 b) → Inv (X.comp scope s3.heap.objs.size Nc s3 H3 fp) [] σ5 H5 s6 → NX D H5 → RR (.ref D) s3.heap.objs.size (.ok .next) s6) :
    wpAny (model X.prog X.w) X.A (eval iter X.env) (fun x s₁ => wpAny (model X.prog X.w) X.A (pyIter x) (fun it s₂ => wpAny (model X.prog X.w) X.A (newList []) (fun acc s₃ =>
      wpAny (model X.prog X.w) X.A (newFunctionEnv scope X.env.globals (clOf X.env scope.names []) [] X.env.qual none .none (some X.env)) (fun cenv s₄ =>
        codeAny (model X.prog X.w) X.A (.compStart (.ListComp elt [⟨tg, iter, [cd], 0⟩] scope pos) 0 it acc { cenv with scope := relabel scope X.env }) (RR acc cenv.locals) s₄) X.xe s₃) X.xe s₂) X.xe s₁) X.xe s := by
  refine thn (hi pins s σ H _ I h) fun v s1 h1 => thn h1 fun itv s2 h2 => ?_
  obtain ⟨it, fp, tn, J, H2, rfl, I2, T, st2, f2, h2⟩ := h2
  -- the list
  refine wpAny_newObj_type ?_ (by show 0 ≤ sizeLine; decide)
  have hD : H2 s2.heap.objs.size = none := I2.hok.fresh (Nat.le_refl _)
  have I3 : Inv X pins σ (upd H2 s2.heap.objs.size (.lst [])) { s2 with heap := s2.heap.push { cls := .type "list", data := .seq ([] : List Value).toArray } } :=
    I2.laid (t' := s2.toks) (fun b u e => Heap.get?_push_of_some _ e) (Nat.le_refl _) ⟨by show 0 ≤ sizeLine; decide, [], 0, .nil, Heap.get?_push_size _ rfl⟩
  have f3 : ∀ b ∈ fp, FpOk X pins (upd H2 s2.heap.objs.size (.lst [])) b := fun b hb => by
    obtain ⟨q0, q⟩ := f2 b hb
    obtain ⟨o, e, _⟩ := T.obj _ _ st2 b hb
    exact ⟨by rw [upd_ne (Nat.ne_of_lt (Heap.lt_size e))]; exact q0, q⟩
  have o3 : ∀ b ∈ fp, ∃ o, (s2.heap.push { cls := .type "list", data := .seq ([] : List Value).toArray }).get? b = some o := fun b hb => by
    obtain ⟨o, e, _⟩ := T.obj _ _ st2 b hb
    exact ⟨o, Heap.get?_push_of_some _ e⟩
  have st3 : tn 0 (s2.heap.push { cls := .type "list", data := .seq ([] : List Value).toArray }) := T.keep _ _ _ st2 fun b _ o e => Heap.get?_push_of_some _ e
  generalize hh3 : s2.heap.push { cls := .type "list", data := .seq ([] : List Value).toArray } = h3 at I3 o3 st3 ⊢
  refine wpAny_newFunctionEnv c.nocell (by intro y hy; simp at hy) (fun h4 hn4 hs4 => ?_) c.kind
  have k4 : ∀ b o, h3.get? b = some o → h4.get? b = some o := fun b o e => (hs4.2 b (Nat.ne_of_lt (Heap.lt_size e))).trans (Heap.get?_push_of_some _ e)
  have I4 := comp_inv (tk := s2.toks + ([] : List (Str × Value)).length) c I3 f3 o3 hn4 k4
  have st4 : tn 0 h4 := T.keep _ _ _ st3 fun b _ o e => k4 b o e
  obtain ⟨W, ⟨m0, w0⟩, turn⟩ := h2 _ hD
  let s3 : Shared := { s2 with heap := h3 }
  let Y : Cx := X.comp scope h3.objs.size Nc s3 (upd H2 s2.heap.objs.size (.lst [])) fp
  have stat : ∀ {H' : Hp}, (∀ b ∈ fp, H' b = none) → ∀ b ∈ fp, FpOk Y [] H' b := fun hn b hb => ⟨hn b hb, (I4.ok.exf b hb).1, I4.ok.exfs b hb, .inl hb, (I4.ok.exf b hb).2, (fun p hp => nomatch hp)⟩
  have loop : codeAny (model X.prog X.w) X.A (.compLoop (.ListComp elt [⟨tg, iter, [cd], 0⟩] scope pos) 0 (.ref it) (.ref s2.heap.objs.size) Y.env)
      (RR (.ref s2.heap.objs.size) h3.objs.size) { s2 with heap := h4, toks := s2.toks + ([] : List (Str × Value)).length } := by
    refine codeAny_loop rfl (fun n s' => ∃ i σ' H', Inv Y [] σ' H' s' ∧ tn i s'.heap ∧ (∀ b ∈ fp, H' b = none) ∧ W i n σ' H') (fun n s5 hI => ?_) m0 ⟨0, _, _, I4, st4, fun b hb => (f3 b hb).1, w0⟩
    obtain ⟨i, σ5, H5, I5, st5, fr5, w5⟩ := hI
    show wpAny _ X.A ((compTurn (.ListComp elt [⟨tg, iter, [cd], 0⟩] scope pos) 0 (.ref it) (.ref s2.heap.objs.size) Y.env).onRaise (fun x => do noteFrame x Y.env; theTreesLotGoes x)) _ _ s5
    refine wpAny_noted (wpAny_mono (E := fun _ _ => False) ?_ (fun _ _ q => q) fun _ _ z => z.elim)
    rw [compTurn_if1]
    refine wpAny_bind (wpAny_standAt (wpAny_bind ?_))
    rcases turn i n σ5 H5 w5 with ⟨stop, qn⟩ | ⟨go, N, hN, step⟩
    · refine thn (T.done Y rfl rfl rfl hc i [] s5 σ5 H5 _ I5 (stat fr5) st5 stop) fun r s6 ⟨hr, I6⟩ => ?_
      subst hr
      refine wpAny_pure ?_
      exact fin _ _ s3 fp σ5 H5 s6 I3 f3 I6 qn
    · refine thn (T.item Y rfl rfl rfl hc i [] s5 σ5 H5 _ I5 (stat fr5) st5 go) fun r s6 ⟨u, hr, h6⟩ => ?_
      subst hr
      refine wpAny_bind (thn h6 fun _ s7 ⟨x, H7, I7, r7, y7, st7, fr7⟩ => ?_)
      have I7' := I7.pinned (stat fr7) (T.obj _ _ st7)
      refine wpAny_bind (thn (hg _ _ _ _ _ s7 σ5 H7 x u _ I7' r7 (step x H7 y7)) fun _ s8 ⟨σ8, H8, I8, q8⟩ => ?_)
      have fin2 : ∀ {H' : Hp} {s' : Shared}, Inv Y ([] ++ pinsAt fp s7.heap) σ8 H' s' → N σ8 H' → ∃ m, m < n ∧ ∃ i σ1 H1, Inv Y [] σ1 H1 s' ∧ tn i s'.heap ∧ (∀ b ∈ fp, H1 b = none) ∧ W i m σ1 H1 := fun {H'} {s'} I10 n10 => by
        obtain ⟨m', hm, w10⟩ := hN σ8 H' n10
        refine ⟨m', hm, i + 1, σ8, H', I10.unpinned, T.keep _ _ _ st7 fun b hb o e => (I10.pin (b, o) (List.mem_append_right _ (List.mem_append_right _ (mem_pinsAt hb e)))).1, fun b hb => ?_, w10⟩
        obtain ⟨o, e, d⟩ := T.obj _ _ st7 b hb
        exact (I10.pin (b, o) (List.mem_append_right _ (List.mem_append_right _ (mem_pinsAt hb e)))).2.1
      rw [List.forIn_cons, if_pos rfl]
      refine wpAny_bind (wpAny_bind (wpAny_bind (thn (ht _ _ _ _ _ s8 σ8 H8 _ I8 q8) fun ok s9 ⟨H9, I9, q9⟩ => wpAny_pure ?_)))
      simp only [List.forIn_nil]
      refine wpAny_pure ?_
      cases ok with
      | false =>
        simp only [Bool.false_eq_true, if_false] at q9 ⊢
        exact wpAny_pure ⟨rfl, fin2 I9 q9⟩
      | true =>
        simp only [if_true] at q9 ⊢
        refine wpAny_bind (wpAny_bind (thn (he _ _ _ _ _ s9 σ8 H9 _ I9 q9) fun v s10 ⟨y, H10, I10, r10, ys, e10, z10, n10⟩ => ?_))
        refine wpAny_bind (thn (mt_append (X := Y) _ s10 σ8 H10 (.ref s2.heap.objs.size) [y] (.ref s2.heap.objs.size) [v] (fun w H' => N σ8 H') I10 rfl (.cons r10 .nil) ⟨_, ys, y, rfl, rfl, of_lstOf e10, z10, n10⟩) fun w s11 ⟨_, H11, I11, _, n11⟩ => ?_)
        exact wpAny_pure (wpAny_pure ⟨rfl, fin2 I11 n11⟩)
  exact codeAny_compStart_list loop (T.self _ 0 _ _ _ st4 loop)
theorem pe_compIf (hc : X.calm = true) (c : CompOk X scope Nc js) (hi : PI X tg iter wi) (hg : ∀ C s3 H3 fp, PG (X.comp scope C Nc s3 H3 fp) tg g) (ht : ∀ C s3 H3 fp, PT (X.comp scope C Nc s3 H3 fp) cd tt) (he : ∀ C s3 H3 fp, PE (X.comp scope C Nc s3 H3 fp) elt te)
    (hs : ∀ x, foldedSetIterable iter X.env x = pure x := by intro _; rfl) : PE X (.ListComp elt [⟨tg, iter, [cd], 0⟩] scope pos) (tCompIf wi g js tt te) := by
  intro pins s σ H Q I h
  rw [eval_ListComp]
  refine wpAny_comprehension_free (use := none) (g := ⟨tg, iter, [cd], 0⟩) (gs := []) rfl hs (closure_of (c.has I)) c.kind c.loc
    (comp_coreIf (RR := fun acc C => compPost (model X.prog X.w) X.A X.xe none (EP X pins σ Q) acc C) (NX := fun D H' => Q (.ref D) H') hc c hi hg ht he I h fun D H3 s3 fp σ5 H5 s6 I3 f3 I6 qn => ?_)
  obtain ⟨m, hn, _⟩ := I6.loc
  exact ⟨m, hn, fun h' hs' => ⟨.ref D, H5, comp_after I3 f3 I6 hs', rfl, qn⟩⟩
theorem ps_setcIf {i : Nat} {y : Str} {py spos : Pos} (hN : X.N.Nodup) (hiN : X.N[i]? = some y) (hy : Loc X.env.scope y) (hc : X.calm = true) (c : CompOk X scope Nc js) (hi : PI X tg iter wi) (hg : ∀ C s3 H3 fp, PG (X.comp scope C Nc s3 H3 fp) tg g)
    (ht : ∀ C s3 H3 fp, PT (X.comp scope C Nc s3 H3 fp) cd tt) (he : ∀ C s3 H3 fp, PE (X.comp scope C Nc s3 H3 fp) elt te) (hsw : swapsWith (.ListComp elt [⟨tg, iter, [cd], 0⟩] scope pos) (some (.Name y py)) spos.line X.env = pure true := by rfl)
    (hs : ∀ x, foldedSetIterable iter X.env x = pure x := by intro _; rfl) (hf : X.fn y = true ∨ X.env.scope.names.lookup y = some .local := by first | exact .inl rfl | exact .inr rfl | assumption) :
    PS X (.Assign [.Name y py] (.ListComp elt [⟨tg, iter, [cd], 0⟩] scope pos) spos) (tAsg (tCompIf wi g js tt te) (gName i)) := by
  intro pins s σ H D I h
  rw [exec_Assign_Name_used _ _ _ _ hsw]
  refine wpAny_bind (wpAny_standAt (wpAny_bind ?_))
  show wpAny _ X.A (do let _ ← comprehension (.ListComp elt [⟨tg, iter, [cd], 0⟩] scope pos) scope X.env _ (newList []) false (eval iter X.env) (some (assign (.Name y py) X.env))) _ _ s
  refine wpAny_bind (wpAny_mono (wpAny_comprehension_free (use := some (assign (.Name y py) X.env)) (g := ⟨tg, iter, [cd], 0⟩) (gs := []) (Q := fun _ s' => SP X pins D .next s') rfl hs (closure_of (c.has I)) c.kind c.loc
    (comp_coreIf (RR := fun acc C => compPost (model X.prog X.w) X.A X.xe (some (assign (.Name y py) X.env)) (fun _ s' => SP X pins D .next s') acc C) (NX := fun Da H' => D.nx (σ.set i (some (.ref Da))) H') hc c hi hg ht he I h fun Da H3 s3 fp σ5 H5 s6 I3 f3 I6 qn => ?_))
    (fun _ s' hq => wpAny_pure (wpAny_pure hq)) fun _ _ e => e)
  obtain ⟨m, hn, _⟩ := id I6.loc
  have I7 : Inv X pins σ H5 s6 := comp_after I3 f3 I6 (.refl ..)
  have hC : H5 s3.heap.objs.size = none := I6.free
  have nL : s3.heap.objs.size ≠ X.env.locals := Nat.ne_of_gt I3.lt
  have nc : ∀ x a, X.env.cells.lookup x = some a → a ≠ s3.heap.objs.size := fun x a e => by
    obtain ⟨v, q⟩ := I3.cell x a e
    exact Nat.ne_of_lt q.lt
  have np : ∀ p ∈ X.pn ++ pins, p.1 ≠ s3.heap.objs.size := fun p hp => Nat.ne_of_lt (Heap.lt_size (I3.pin p hp).1)
  show wpAny _ _ (assign (.Name y py) X.env (.ref Da)) _ _ _
  refine wpAny_assign_Name (store_ok2 (v := .ref Da) I7 hN hiN hy rfl (fun s8 I8 hb => ?_) hf)
  obtain ⟨a, hs8, ha⟩ := hb
  have nCa : s3.heap.objs.size ≠ a := by
    rcases ha with z | z
    · rw [z]; exact nL
    · exact (nc y a z).symm
  refine ⟨m, hn.sameBut hs8 nCa, fun h9 hs9 => ?_⟩
  exact ⟨_, H5, I8.turned (t' := s8.toks) (fun b o hb e => (hs9.2 b hb).trans e) hC nL (.inr (Nat.le_trans I3.sz (Nat.le_refl _))) nc np, qn⟩
end
section
variable {X : Cx} {scope : Scope} {Nc : List Str} {js : List (Option Nat)} {elt tg iter cd : Expr} {pos : Pos} {wi : TI} {g : TG} {te : TE} {tt : TT}
theorem qpe_compIf (hc : X.calm = true) (c : CompOk X scope Nc js) (hi : QI X tg iter wi) (hg : ∀ C s3 H3 fp, QG (X.comp scope C Nc s3 H3 fp) tg g) (ht : ∀ C s3 H3 fp, QT (X.comp scope C Nc s3 H3 fp) cd tt) (he : ∀ C s3 H3 fp, QE (X.comp scope C Nc s3 H3 fp) elt te)
    (hs : ∀ x, foldedSetIterable iter X.env x = pure x := by intro _; rfl) : QE X (.ListComp elt [⟨tg, iter, [cd], 0⟩] scope pos) (tCompIf wi g js tt te) :=
  ⟨pe_compIf hc c hi.h (fun C s H f => (hg C s H f).h) (fun C s H f => (ht C s H f).h) (fun C s H f => (he C s H f).h) hs⟩
theorem qps_setcIf {i : Nat} {y : Str} {py spos : Pos} (hN : X.N.Nodup) (hiN : X.N[i]? = some y) (hy : Loc X.env.scope y) (hc : X.calm = true) (c : CompOk X scope Nc js) (hi : QI X tg iter wi) (hg : ∀ C s3 H3 fp, QG (X.comp scope C Nc s3 H3 fp) tg g)
    (ht : ∀ C s3 H3 fp, QT (X.comp scope C Nc s3 H3 fp) cd tt) (he : ∀ C s3 H3 fp, QE (X.comp scope C Nc s3 H3 fp) elt te) (hsw : swapsWith (.ListComp elt [⟨tg, iter, [cd], 0⟩] scope pos) (some (.Name y py)) spos.line X.env = pure true := by rfl)
    (hs : ∀ x, foldedSetIterable iter X.env x = pure x := by intro _; rfl) (hf : X.fn y = true ∨ X.env.scope.names.lookup y = some .local := by first | exact .inl rfl | exact .inr rfl | assumption) :
    QS X (.Assign [.Name y py] (.ListComp elt [⟨tg, iter, [cd], 0⟩] scope pos) spos) (tAsg (tCompIf wi g js tt te) (gName i)) :=
  ⟨ps_setcIf hN hiN hy hc c hi.h (fun C s H f => (hg C s H f).h) (fun C s H f => (ht C s H f).h) (fun C s H f => (he C s H f).h) hsw hs hf⟩
end
section
variable {D : Addr} {te : TE} {tt : TT} {E : Ends} {r : L2.St} {H : Hp}
theorem filt_step {α : Type} (p : α → Bool) (f : α → V) (xs : List α) (i : Nat) (x : α) (h : xs[i]? = some x) : ((xs.take (i + 1)).filter p).map f = ((xs.take i).filter p).map f ++ (if p x = true then [f x] else []) := by
  rw [List.take_succ, h]
  simp only [Option.toList_some, List.filter_append, List.map_append]
  congr 1
  by_cases q : p x = true
  · simp [q]
  · simp [q]
theorem compIf_list {K : PySem.W.Frag} {a : Addr} {xs : List V} (p : V → Bool) (f : V → V) (ha : H a = some (.lst xs)) (hD : H D = none) (hz : xs.length ≤ sizeLine)
    (ht : ∀ x ∈ xs, ∀ l Q, Q (p x) (upd H D (.lst l)) → tt (some x :: r) (upd H D (.lst l)) Q) (he : ∀ x ∈ xs, p x = true → ∀ l Q, Q (f x) (upd H D (.lst l)) → te (some x :: r) (upd H D (.lst l)) Q)
    (hn : ∀ v, E.nx (v :: r) (upd H D (.lst ((xs.filter p).map f)))) : LoopR (Itl K a) (gName 0) (tEmitIf D tt te) E (none :: r) (upd H D (.lst [])) := by
  have ne : a ≠ D := ne_of_none ha hD
  refine loop_list (xs := xs) (fun i σ H' => ∃ v : Option V, σ = v :: r ∧ H' = upd H D (.lst (((xs.take i).filter p).map f))) ⟨none, rfl, rfl⟩ ?_ ?_ ?_
  · rintro i σ H' _ ⟨v, _, rfl⟩
    rw [upd_ne ne]; exact ha
  · rintro i x σ H' hx ⟨v, rfl, rfl⟩
    have hl : i < xs.length := (List.getElem?_eq_some_iff.mp hx).1
    have hm := List.mem_of_getElem? hx
    have hf : (((xs.take i).filter p).map f).length ≤ i := by
      rw [List.length_map]
      exact Nat.le_trans (List.length_filter_le _ _) (by rw [List.length_take]; omega)
    refine ht x hm _ _ ?_
    by_cases q : p x = true
    · rw [q, if_pos rfl]
      refine he x hm q _ _ ⟨_, by rw [upd_same]; rfl, by omega, some x, rfl, ?_⟩
      rw [upd_D, filt_step p f xs i x hx, if_pos q]
    · rw [if_neg q]
      refine ⟨some x, rfl, ?_⟩
      rw [filt_step p f xs i x hx, if_neg q, List.append_nil]
  · rintro σ H' ⟨v, rfl, rfl⟩
    rw [List.take_of_length_le (Nat.le_refl _)]
    exact hn v
theorem compIf_tup {K : PySem.W.Frag} {a : Addr} {xs : List V} (p : V → Bool) (f : V → V) (ha : H a = some (.tup xs)) (hD : H D = none) (hz : xs.length ≤ sizeLine)
    (ht : ∀ x ∈ xs, ∀ l Q, Q (p x) (upd H D (.lst l)) → tt (some x :: r) (upd H D (.lst l)) Q) (he : ∀ x ∈ xs, p x = true → ∀ l Q, Q (f x) (upd H D (.lst l)) → te (some x :: r) (upd H D (.lst l)) Q)
    (hn : ∀ v, E.nx (v :: r) (upd H D (.lst ((xs.filter p).map f)))) : LoopR (Itt K a) (gName 0) (tEmitIf D tt te) E (none :: r) (upd H D (.lst [])) := by
  have ne : a ≠ D := ne_of_none ha hD
  refine loop_tup (xs := xs) (fun i σ H' => ∃ v : Option V, σ = v :: r ∧ H' = upd H D (.lst (((xs.take i).filter p).map f))) ⟨none, rfl, rfl⟩ ?_ ?_ ?_
  · rintro i σ H' _ ⟨v, _, rfl⟩
    rw [upd_ne ne]; exact ha
  · rintro i x σ H' hx ⟨v, rfl, rfl⟩
    have hl : i < xs.length := (List.getElem?_eq_some_iff.mp hx).1
    have hm := List.mem_of_getElem? hx
    have hf : (((xs.take i).filter p).map f).length ≤ i := by
      rw [List.length_map]
      exact Nat.le_trans (List.length_filter_le _ _) (by rw [List.length_take]; omega)
    refine ht x hm _ _ ?_
    by_cases q : p x = true
    · rw [q, if_pos rfl]
      refine he x hm q _ _ ⟨_, by rw [upd_same]; rfl, by omega, some x, rfl, ?_⟩
      rw [upd_D, filt_step p f xs i x hx, if_pos q]
    · rw [if_neg q]
      refine ⟨some x, rfl, ?_⟩
      rw [filt_step p f xs i x hx, if_neg q, List.append_nil]
  · rintro σ H' ⟨v, rfl, rfl⟩
    rw [List.take_of_length_le (Nat.le_refl _)]
    exact hn v
end
end L2
set_option Elab.async false
set_option linter.all false
set_option maxRecDepth 100000
set_option maxHeartbeats 4000000
namespace L2
open PySem PySem.Spec PyProof.Rows
section
variable {X : Cx}
end
end L2
set_option Elab.async false
set_option linter.all false
set_option maxRecDepth 100000
set_option maxHeartbeats 4000000
namespace L2
open PySem PySem.Spec PyProof.Rows
section
variable {P : Program} {w : World} {A : Around} {E : Value → Shared → Prop} {s : Shared}
end
section
variable {X : Cx}
end
end L2
set_option Elab.async false
set_option linter.all false
set_option maxRecDepth 100000
set_option maxHeartbeats 4000000
namespace L2
open PySem PySem.Spec PyProof.Rows
section
variable {X : Cx}
end
def tMid (t u : TS) : TS := fun D σ H => ∃ J : L2.St → Hp → Prop, t { D with nx := J } σ H ∧ ∀ σ H, J σ H → u D σ H
theorem pss_mid {X : Cx} {st : Stmt} {rest : List Stmt} {t u : TS} (h1 : PS X st t) (h2 : PSs X rest u) : PSs X (st :: rest) (tMid t u) := by
  intro pins s σ H D I h
  obtain ⟨J, h, hJ⟩ := h
  refine wpAny_execs_cons (thn (h1 pins s σ H { D with nx := J } I h) fun f s1 q => ?_)
  cases f with
  | next =>
    obtain ⟨σ1, H1, I1, q1⟩ := q
    exact h2 pins s1 σ1 H1 D I1 (hJ _ _ q1)
  | ret v => exact q
  | brk => exact q
  | cont => exact q
theorem qpss_mid {X : Cx} {st : Stmt} {rest : List Stmt} {t u : TS} (h1 : QS X st t) (h2 : QSs X rest u) : QSs X (st :: rest) (tMid t u) := ⟨pss_mid h1.h h2.h⟩
section
variable {X : Cx}
theorem call_isinstanceK {K : PySem.W.Frag} (hK : X.K = K) : CallR X (.builtin "isinstance") (rIsU K) := by
  subst hK
  exact call_isinstanceU
end
end L2
set_option Elab.async false
set_option linter.all false
set_option maxRecDepth 100000
set_option maxHeartbeats 4000000
namespace L2
open PySem PySem.Spec PyProof.Rows
theorem dl_entry : entryFor table "dict.update.loop" = some Builtin.«dict.update.loop» := entryFor_of_tree (by kernel_rfl)
theorem dl_plain : plainId "dict.update.loop" = true := by decide +kernel
theorem dl_nokeys : typeLookup (.type "list") "keys" = pure none := by rw [typeLookup_type, builtinLookup_eq_fast]; kernel_rfl
section
variable {P : Program} {w : World} {A : Around} {R : Result → Shared → Prop} {I : Addr} {fp wr : List Addr} {n : Nat} {Pv : Nat → Value → Prop} {St : Nat → Heap → Prop}
theorem dl_miss {A : Around} {E : Value → Shared → Prop} {s : Shared} {a : Addr} {o : Obj} {xs : Array Value} {k : Nat} {u : Tok} {Q : Value → Shared → Prop}
    (hx : s.heap.get? a = some o) (hc : o.cls = .type "list") (hdat : o.data = .seq xs k) (hd : o.dict = none) (hA : A.handled = none)
    (h : ∀ h' tk e, Heap.NewExcOf s.heap h' e "AttributeError" → E (.ref e) { s with heap := h', toks := tk }) : wpAny (model P w) A (getAttrBy (.ref a) (.str "keys" u) false) Q E s := by
  obtain ⟨c, dct, dat, sl⟩ := o
  simp only at hc hdat hd
  subst hc hdat hd
  obtain ⟨hp, g, d, tk, os⟩ := s
  have hT : ∀ tk', (⟨hp, g, d, tk', os⟩ : Shared).TypeIs (.ref a) "list" := fun _ => ⟨_, hx, rfl⟩
  have g1 := sub_AttributeError
  have g3 := F.slot_list_getattribute.lookup
  have g4 := F.slot_list_getattribute.bind (.ref a)
  have g5 := am_list_getattr_none
  unfold getAttrBy
  repeat (any_goals (first | assumption | exact hT _ | ((with_reducible show wpAny _ _ (call (Value.builtin "list.__getattribute__") _ _) _ _ _); refine call_meets F.slot_list_getattribute (hT _) am_entry_list_getattribute (F.args_list_getattribute_2 _ _) (meets_getattribute_miss_list a xs k sl "keys" _ dl_nokeys (by decide +kernel) (by size_fits)) ⟨hx, hA, fun h' tk' e hx' => ?_⟩) | wp_step))
  obtain ⟨t', u', he⟩ := hx'.there
  show wpAny _ _ (getattributeRaised _ _ _ _ _ _ _) _ _ _
  unfold getattributeRaised
  repeat (any_goals (first | assumption | wp_step))
  exact h _ _ _ hx'.of
end
section
variable {X : Cx}
end
end L2
set_option Elab.async false
set_option linter.all false
set_option maxRecDepth 100000
set_option maxHeartbeats 4000000
namespace L2
open PySem PySem.Spec PyProof.Rows
section
variable {P : Program} {w : World} {A : Around} {E : Value → Shared → Prop} {s : Shared} {d it : Addr} {o : Obj} {es : Array DictEntry} {ep i : Nat}
end
section
variable {X : Cx} {tg : Expr}
end
end L2
set_option Elab.async false
set_option linter.all false
set_option maxRecDepth 100000
set_option maxHeartbeats 4000000
namespace L2
open PySem PySem.Spec PyProof.Rows
section
variable {D : Addr} {te : TE} {tt : TT} {E : Ends} {r : L2.St} {H : Hp}
end
theorem sl_UK {X : Cx} {K : PySem.W.Frag} (hK : X.K = K) : SlR X (rSlU K) := by
  subst hK
  exact sl_U
end L2
namespace L2
open PySem PySem.Spec PyProof.Rows
section
variable {prog : Program} {w : World} {A : Around} {E : Value → Shared → Prop} {s : Shared}
end
section
variable {X : Cx}
end
end L2
set_option Elab.async false
set_option linter.all false
set_option maxRecDepth 100000
set_option maxHeartbeats 4000000
namespace L2
open PySem PySem.Spec PyProof.Rows
section
variable {X : Cx}
end
end L2
set_option Elab.async false
set_option linter.all false
set_option maxRecDepth 100000
set_option maxHeartbeats 4000000
namespace HT
open PySem PyProof.Rows
section
open PySem.SeqAt
open PySem.AutoSeq1 (wpAny_loadPart')
open PySem.MeetsSeq PySem.MeetsSeq2 PySem.MeetsSeq3
end
section
variable {prog : Program} {w : World} {A : Around} {E : Value → Shared → Prop} {s : Shared}
end
end HT
namespace L2
open PySem PySem.Spec PyProof.Rows
section
variable {X : Cx}
end
end L2
set_option Elab.async false
set_option linter.all false
set_option maxRecDepth 100000
set_option maxHeartbeats 4000000
namespace L2
open PySem PySem.Spec PyProof.Rows
def stpS (σ : List Str) (v : Str) : List Str := if σ.any (· == v) then σ else σ ++ [v]
def fmS (val : Nat → Str) (i : Nat) : List Str := ((List.range i).map val).foldl stpS []
theorem fmS_succ (val : Nat → Str) (i : Nat) : fmS val (i + 1) = stpS (fmS val i) (val i) := by
  unfold fmS; rw [List.range_succ, List.map_append, List.foldl_append]; rfl
theorem fmS_mem (val : Nat → Str) : ∀ (i : Nat) (k : Str), k ∈ fmS val i ↔ ∃ j, j < i ∧ val j = k
  | 0, k => by simp [fmS]
  | i + 1, k => by
    rw [fmS_succ]
    unfold stpS
    have ih := fmS_mem val i
    split
    · rename_i h
      rw [List.any_eq_true] at h
      obtain ⟨y, hy, e⟩ := h
      have e : y = val i := by simpa using e
      subst e
      rw [ih]
      constructor
      · rintro ⟨j, hj, e⟩
        exact ⟨j, by omega, e⟩
      · rintro ⟨j, hj, e'⟩
        by_cases hji : j = i
        · rw [hji] at e'
          rw [← e']
          exact (ih _).mp hy
        · exact ⟨j, by omega, e'⟩
    · rw [List.mem_append, ih, List.mem_singleton]
      constructor
      · rintro (⟨j, hj, e⟩ | e)
        · exact ⟨j, by omega, e⟩
        · exact ⟨i, by omega, e.symm⟩
      · rintro ⟨j, hj, e⟩
        by_cases hji : j = i
        · subst hji
          exact .inr e.symm
        · exact .inl ⟨j, by omega, e⟩
theorem fmS_le (val : Nat → Str) : ∀ i, (fmS val i).length ≤ i
  | 0 => by simp [fmS]
  | i + 1 => by
    rw [fmS_succ]
    unfold stpS
    have := fmS_le val i
    split
    · omega
    · simp; omega
section
variable {prog : Program} {w : World} {A : Around} {R : Result → Shared → Prop} {I : Addr} {fp wr : List Addr} {G : Array GenState → Array GenState → Prop} {n : Nat} {P : Nat → Value → Prop} {St : Nat → Shared → Prop}
theorem isStr_is (x : Str) (t : Tok) : (strKind prog w).is x (.str x t) = true := by
  show Value.isStrOf x (.str x t) = true
  simp [Value.isStrOf]
end
section
variable {prog : Program} {w : World} {A : Around} {E : Value → Shared → Prop} {s : Shared}
end
section
variable {X : Cx}
end
end L2
set_option Elab.async false
set_option linter.all false
set_option maxRecDepth 100000
set_option maxHeartbeats 4000000
namespace L2
open PySem PySem.Spec PyProof.Rows
section
variable {prog : Program} {w : World} {A : Around} {E : Value → Shared → Prop} {h : Heap} {g : Array GenState} {d : Drawn} {t : Nat} {os : OsState}
variable {nm q : Str} {C N : Addr} {bs bm bmB : List Value} {hdct : Bool} {sn : List Str} {sub : List Value} {ab : Bool} {col : Option Bool} {dd : Option Addr} {k0 k1 k2 k3 k5 : Option Value} {B newId initId : String}
end
end L2
set_option Elab.async false
set_option linter.all false
set_option maxRecDepth 100000
set_option maxHeartbeats 4000000
namespace L2
open PySem PySem.Spec PyProof.Rows
open Builtin Builtin.ObjectAttr
section
variable {prog : Program} {w : World} {A : Around} {E : Value → Shared → Prop} {h : Heap} {g : Array GenState} {d : Drawn} {t : Nat} {os : OsState}
variable {nm q : Str} {C D N x : Addr} {bs bmB : List Value} {sn : List Str} {sub : List Value} {ab : Bool} {col : Option Bool} {dd : Option Addr} {k0 k1 k2 k3 k5 : Option Value} {newId name : Str} {nid sa owner B : String} {v : Value}
end
end L2
set_option Elab.async false
set_option linter.all false
set_option maxRecDepth 100000
set_option maxHeartbeats 4000000
namespace L2
open PySem PySem.Spec PyProof.Rows
open Builtin Builtin.ObjectAttr
section
variable {prog : Program} {w : World} {A : Around} {E : Value → Shared → Prop} {h : Heap} {g : Array GenState} {d : Drawn} {t : Nat} {os : OsState}
variable {nm q : Str} {C D N x dx : Addr} {bs bmB : List Value} {sn : List Str} {sub : List Value} {ab : Bool} {col : Option Bool} {dd : Option Addr} {k0 k1 k2 k3 k5 : Option Value} {name : Str} {nid B : String} {v : Value} {mA : Str → Option Value}
end
end L2
set_option Elab.async false
set_option linter.all false
set_option maxRecDepth 100000
set_option maxHeartbeats 4000000
namespace L2
open PySem PySem.Spec PyProof.Rows
section
variable {prog : Program} {w : World} {A : Around} {E : Value → Shared → Prop} {h : Heap} {g : Array GenState} {d : Drawn} {t : Nat} {os : OsState}
variable {nm q : Str} {C N : Addr} {bs bm bmB : List Value} {hdct : Bool} {sn : List Str} {sub : List Value} {ab : Bool} {col : Option Bool} {dd : Option Addr} {k0 k1 k2 k3 k5 : Option Value} {B newId initId : String}
end
end L2
set_option Elab.async false
set_option linter.all false
set_option maxRecDepth 100000
set_option maxHeartbeats 4000000
namespace L2
open PySem PySem.Spec PyProof.Rows
section
variable {X : Cx} {pins : List (Addr × Obj)} {σ : St} {H : Hp} {s : Shared} {C D N : Addr}
end
end L2
set_option Elab.async false
set_option linter.all false
set_option maxRecDepth 100000
set_option maxHeartbeats 4000000
namespace L2
open PySem PySem.Spec PyProof.Rows
open Builtin Builtin.ObjectAttr
section
variable {prog : Program} {w : World} {A : Around} {E : Value → Shared → Prop} {h : Heap} {g : Array GenState} {d : Drawn} {t : Nat} {os : OsState}
variable {nm q : Str} {C D N x : Addr} {bs bmB : List Value} {sn : List Str} {sub : List Value} {ab : Bool} {col : Option Bool} {dd : Option Addr} {k0 k1 k2 k3 k5 : Option Value} {nid : String} {K : PySem.W.Frag}
end
end L2
set_option Elab.async false
set_option linter.all false
set_option maxRecDepth 100000
set_option maxHeartbeats 4000000
namespace L2
open PySem PySem.Spec PyProof.Rows
section
variable {X : Cx}
end
end L2
set_option Elab.async false
set_option linter.all false
set_option maxRecDepth 100000
set_option maxHeartbeats 4000000
namespace L2
open PySem PySem.Spec PyProof.Rows
section
variable {X : Cx}
end
end L2
set_option Elab.async false
set_option linter.all false
set_option maxRecDepth 100000
set_option maxHeartbeats 4000000
set_option autoImplicit true
set_option relaxedAutoImplicit true
namespace L2
open PySem PySem.Spec PyProof.Rows
section
variable {X : Cx} {K : PySem.W.Frag}
end
end L2
set_option Elab.async false
set_option linter.all false
set_option maxRecDepth 100000
set_option maxHeartbeats 4000000
namespace HT
open PySem PyProof.Rows
section
open PySem.AutoSeq1 (wpAny_loadPart')
open PySem.MeetsSeq PySem.MeetsSeq2 PySem.MeetsSeq3
theorem tuple_add0 (l b : Addr) (items2 : Array Value) (n n2 : Nat) (dd dd2 : Option Addr) (sl sl2 : Array (Option Value)) :
    Meets (Builtin.«tuple.__add__» ⟨[.ref l, .ref b], []⟩)
      (fun _ R s => s.heap.get? l = some { cls := .type "tuple", dict := dd, data := .seq #[] n, slots := sl } ∧ s.heap.get? b = some { cls := .type "tuple", dict := dd2, data := .seq items2 n2, slots := sl2 } ∧ R (.ok (.ret (.ref b))) s) :=
  .of_wp fun prog w A R s h => by
    obtain ⟨hp, g, d, tk, os⟩ := s; obtain ⟨hl, hb, h⟩ := h
    have f2 := AutoSeq1.sub_tuple_tuple
    wp_walk using wpAny_loadPart' hl, wpAny_loadPart' hb
    exact ⟨_, rfl, h⟩
end
end HT
namespace L2
open PySem PySem.Spec PyProof.Rows
section
variable {X : Cx}
end
end L2
set_option Elab.async false
set_option linter.all false
set_option maxRecDepth 100000
set_option maxHeartbeats 4000000
set_option autoImplicit true
set_option relaxedAutoImplicit true
namespace L2
open PySem PySem.Spec PyProof.Rows
section
variable {K : PySem.W.Frag} {C C' D N N' : Addr} {nm q nm' q' : Str} {bs bm bs' bm' : List Value} {sn sn' : List Str} {sub sub' : List Value} {ab ab' hd hd' : Bool} {col col' : Option Bool} {dd dd' : Option Addr} {k0 k1 k2 k3 k5 j0 j1 j2 j3 j5 : Option Value} {nid nid' : String}
end
end L2
set_option Elab.async false
set_option linter.all false
set_option maxRecDepth 100000
set_option maxHeartbeats 4000000
namespace L2
open PySem PySem.Spec PyProof.Rows
section
variable {M : Model} {A : Around} {E : Value → Shared → Prop} {s : Shared}
end
end L2
set_option Elab.async false
set_option linter.all false
set_option maxRecDepth 100000
set_option maxHeartbeats 4000000
namespace L2
open PySem PySem.Spec PyProof.Rows
section
variable {X : Cx} {pins : List (Addr × Obj)} {σ : St} {H H' : Hp} {s : Shared} {a C T : Addr} {dx : Option Addr} {fl : Option Value}
end
section
variable {X : Cx} {E : XK}
end
end L2
set_option Elab.async false
set_option linter.all false
set_option maxRecDepth 100000
set_option maxHeartbeats 4000000
namespace L2
open PySem PySem.Spec PyProof.Rows
section
variable {M : Model} {A : Around} {E : Value → Shared → Prop} {s : Shared} {env : Env}
variable {nm q : Str} {C N : Addr} {bs bm : List Value} {hdct : Bool} {sn : List Str} {sub : List Value} {ab : Bool} {col : Option Bool} {dd : Option Addr} {k0 k1 k2 k3 k5 : Option Value} {newId : String}
end
section
variable {X : Cx} {pins : List (Addr × Obj)} {σ : St} {H H' : Hp} {s : Shared} {a C D N : Addr} {dx : Option Addr}
end
end L2
set_option Elab.async false
set_option linter.all false
set_option maxRecDepth 100000
set_option maxHeartbeats 4000000
namespace L2
open PySem PySem.Spec PyProof.Rows
section
variable {X : Cx} {pins : List (Addr × Obj)} {σ : St} {H H' : Hp} {s : Shared} {a C D N : Addr} {dx : Option Addr} {A' : Around}
end
end L2
set_option Elab.async false
set_option linter.all false
set_option maxRecDepth 100000
set_option maxHeartbeats 4000000
namespace L2
open PySem PySem.Spec PyProof.Rows
section
variable {X : Cx}
end
section
variable {P : Program} {w : World} {K : PySem.W.Frag} {mg : Str → Option Value} {base : Heap}
end
section
variable {X : Cx}
end
end L2
set_option Elab.async false
set_option linter.all false
set_option maxRecDepth 100000
set_option maxHeartbeats 4000000
namespace L2
open PySem PySem.Spec PyProof.Rows
section
variable {X : Cx}
theorem tyV_str (K : PySem.W.Frag) (z : Str) (H : Hp) : tyV K "str" (.str z) H = True := by simp [tyV]
end
end L2
set_option Elab.async false
set_option linter.all false
set_option maxRecDepth 100000
set_option maxHeartbeats 4000000
namespace L2
open PySem PySem.Spec PyProof.Rows
section
variable {prog : Program} {w : World} {A : Around} {E : Value → Shared → Prop} {s : Shared}
theorem tupNext_item {h : Heap} {g : Array GenState} {d : Drawn} {t : Nat} {os : OsState} {it a : Addr} {i : Nat} {vs : Array Value} {u : Value} {Q : Value → Shared → Prop} (hi : h.IsTupleIter it a i) (ha : h.IsTuple a vs) (hu : vs[i]? = some u)
    (q : ∀ h', h'.IsTupleIter it a (i + 1) → Heap.SameBut it h h' → Q u ⟨h', g, d, t, os⟩) : wpAny (model prog w) A (Builtin.SmallTypes.nextOf (.ref it)) Q E ⟨h, g, d, t, os⟩ := by
  obtain ⟨⟨ci, di, dti, si⟩, e1, c1, d1⟩ := id hi
  obtain ⟨⟨ca, da, dta, sa⟩, e2, c2, n2, d2⟩ := ha
  dsimp only at c1 d1 c2 d2
  subst c1 d1 c2 d2
  have sl := PySem.F.slot_tuple_iterator_next
  have hT : (⟨h, g, d, t, os⟩ : Shared).TypeIs (.ref it) "tuple_iterator" := hi.typeIs
  have fin := q _ ⟨_, Heap.get?_update_self (Obj.mapFields (·.setIfInBounds 1 (rawInt (i + 1)))) e1 rfl, rfl, by simp [Obj.mapFields, rawInt]⟩ (.update ..)
  refine wpAny_bind (wpAny_callSpecial?_slot hT sl (wpAny_call_entry sl hT PySem.F.entry_tuple_iterator_next ?_ (PySem.F.args_tuple_iterator_next_1 _)))
  unfold Builtin.«tuple_iterator.__next__»
  repeat (any_goals (first | assumption | with_reducible refine wpAny_loadPart_at e1 ?_ | with_reducible refine wpAny_loadPart_at e2 ?_ | wp_step))
  have e3 : vs[((i : Nat) : Int).toNat]? = some u := hu
  rw [e3]
  exact wpAny_bind (wpAny_setField e1 rfl (by simp) (wpAny_pure ⟨u, rfl, wpAny_pure fin⟩))
theorem tupNext_end {h : Heap} {g : Array GenState} {d : Drawn} {t : Nat} {os : OsState} {it a : Addr} {i : Nat} {vs : Array Value} {Q : Value → Shared → Prop} (hh : A.handled = none) (hi : h.IsTupleIter it a i) (ha : h.IsTuple a vs) (hu : vs[i]? = none)
    (q : ∀ h' e, Heap.ExtBut it h h' → (∃ o, h'.get? e = some o ∧ o.cls = .type "StopIteration") → E (.ref e) ⟨h', g, d, t, os⟩) : wpAny (model prog w) A (Builtin.SmallTypes.nextOf (.ref it)) Q E ⟨h, g, d, t, os⟩ := by
  obtain ⟨⟨ci, di, dti, si⟩, e1, c1, d1⟩ := id hi
  obtain ⟨⟨ca, da, dta, sa⟩, e2, c2, n2, d2⟩ := ha
  dsimp only at c1 d1 c2 d2
  subst c1 d1 c2 d2
  have sl := PySem.F.slot_tuple_iterator_next
  have hT : (⟨h, g, d, t, os⟩ : Shared).TypeIs (.ref it) "tuple_iterator" := hi.typeIs
  have h1 : A.in1.handled = none := hh
  refine wpAny_bind (wpAny_callSpecial?_slot hT sl (wpAny_call_entry sl hT PySem.F.entry_tuple_iterator_next ?_ (PySem.F.args_tuple_iterator_next_1 _)))
  unfold Builtin.«tuple_iterator.__next__»
  repeat (any_goals (first | assumption | with_reducible refine wpAny_loadPart_at e1 ?_ | with_reducible refine wpAny_loadPart_at e2 ?_ | wp_step))
  have e3 : vs[((i : Nat) : Int).toNat]? = none := hu
  rw [e3]
  refine wpAny_bind (wpAny_rule (wpAny_bind (wpAny_setField e1 rfl (by simp) ?_)))
  unfold Builtin.SmallTypes.stopIteration
  have fm : firstArgMember (.type "StopIteration") [] = pure .none := rfl
  unfold newExc
  repeat (any_goals (first | assumption | rw [fm] | wp_step))
  exact wpAny_raiseNew_none h1 (q _ _ (((Heap.SameBut.update ..).extBut.push _).push _) ⟨_, Heap.get?_push_size _ rfl, rfl⟩)
theorem dr_tup (hh : A.handled = none) (it a : Addr) (ne : a ≠ it) (vs : Array Value) : Draws prog w A it [it, a] vs.size (fun i v => vs[i]? = some v) (fun i h => h.IsTupleIter it a i ∧ h.IsTuple a vs) where
  live := fun _ _ st => let ⟨o, ho, _⟩ := st.1; ⟨o, ho⟩
  frame := fun _ _ _ st hk => by
    obtain ⟨⟨o, ho, r⟩, ⟨o2, ho2, r2⟩⟩ := st
    exact ⟨⟨o, hk it (by simp) o ho, r⟩, ⟨o2, hk a (by simp) o2 ho2, r2⟩⟩
  item := fun i s Q E hi st hQ => by
    obtain ⟨hp, g, d, t, os⟩ := s
    obtain ⟨o2, ho2, r2⟩ := st.2
    exact tupNext_item st.1 st.2 (u := vs[i]) (by simp [hi]) fun h' hit' hs' => hQ _ h' t (by simp [hi]) ⟨hit', ⟨o2, (hs'.2 a ne).trans ho2, r2⟩⟩ hs'
  done := fun s Q E st hE => by
    obtain ⟨hp, g, d, t, os⟩ := s
    exact tupNext_end hh st.1 st.2 (by simp) hE
open AutoSeq1 (wpAny_loadPart') in
end
section
variable {X : Cx}
end
end L2
set_option Elab.async false
set_option linter.all false
set_option maxRecDepth 100000
set_option maxHeartbeats 4000000
namespace L2
open PySem PySem.Spec PyProof.Rows
section
variable {X : Cx}
def rAddX : R2 := fun x y H Q => ∃ a b xs ys, x = .ref a ∧ y = .ref b ∧ H a = some (.tup xs) ∧ H b = some (.tup ys) ∧ xs.length + ys.length ≤ sizeLine ∧ ∀ p H', Kp [] H H' → H' p = some (.tup (xs ++ ys)) → Q (.ref p) H'
theorem op_addX : OpR X (binaryOp .Add) rAddX := by
  intro pins s σ H x y v u Q I rx ry h
  obtain ⟨a, b, xs, ys, rfl, rfl, ha, hb, hz, q⟩ := h
  by_cases hx : xs = []
  · subst hx
    cases rx
    cases ry
    obtain ⟨its, r1, p1, _⟩ := I.tuple (SqT.of ha)
    obtain ⟨its2, r2, p2, _⟩ := I.tuple (SqT.of hb)
    cases r1
    obtain ⟨⟨cls, dd, data, sl⟩, ho, hc, n, hd⟩ := id p1
    obtain ⟨⟨cls2, dd2, data2, sl2⟩, ho2, hc2, n2, hd2⟩ := id p2
    simp only at hc hd hc2 hd2
    subst hc hd hc2 hd2
    exact concat_meets ⟨_, ho, rfl⟩ ⟨_, ho2, rfl⟩ noFill_tuple_add seq_tuple_add PySem.F.slot_tuple_add PySem.F.entry_tuple_add (PySem.F.args_tuple_add_2 _ _)
      (HT.tuple_add0 a b its2.toArray n n2 dd dd2 sl sl2) ⟨ho, ho2, .ref b, H, I, rfl, q b H (Kp.refl _ _) (by simpa using hb)⟩
  · exact op_catT pins s σ H _ _ v u Q I rx ry ⟨a, b, xs, ys, rfl, rfl, SqT.of ha, SqT.of hb, hx, hz, fun e => q a H (Kp.refl _ _) (by rw [e, List.append_nil]; exact ha), fun e p hp => q p _ ((Kp.refl [] H).new hp) upd_same⟩
end
end L2
set_option Elab.async false
set_option linter.all false
set_option maxRecDepth 100000
set_option maxHeartbeats 4000000
namespace L2
open PySem PySem.Spec PyProof.Rows
structure ZA (z TI TO i1 i2 : Addr) (f1 f2 : List Addr) : Prop where
  TIz : TI ≠ z
  TOz : TO ≠ z
  i1z : i1 ≠ z
  i2z : i2 ≠ z
  TITO : TI ≠ TO
  TIi1 : TI ≠ i1
  TIi2 : TI ≠ i2
  TOi1 : TO ≠ i1
  TOi2 : TO ≠ i2
  i12 : i1 ≠ i2
  zf1 : z ∉ f1
  zf2 : z ∉ f2
  Tf1 : TO ∉ f1
  Tf2 : TO ∉ f2
  jf2 : i1 ∉ f2
  jf1 : i2 ∉ f1
section
variable {prog : Program} {w : World} {A : Around} {E : Value → Shared → Prop} {s : Shared} {i1 i2 : Addr} {f1 f2 : List Addr} {n1 n2 : Nat} {P1 P2 : Nat → Value → Prop} {S1 S2 : Nat → Heap → Prop}
theorem dr_but {it : Addr} {fp : List Addr} {n : Nat} {P : Nat → Value → Prop} {St : Nat → Heap → Prop} (D : Draws prog w A it fp n P St) {i : Nat} {h h' : Heap} {c : Addr} (st : St i h) (hs : Heap.SameBut c h h') (hc : c ∉ fp) : St i h' :=
  D.frame i h h' st fun b hb o e => hs.extBut b o (fun x => hc (x ▸ hb)) e
theorem zipD_item {z TI TO : Addr} {k : Nat} {a b : Value} {Q : Value → Shared → Prop} (D1 : Draws prog w A i1 f1 n1 P1 S1) (D2 : Draws prog w A i2 f2 n2 P2 S2) (D : ZA z TI TO i1 i2 f1 f2)
    (hz : IsZip s.heap z TI TO .none) (hTI : IsPair s.heap TI (.ref i1) (.ref i2)) (hTO : IsPair s.heap TO a b) (h1 : S1 k s.heap) (h2 : S2 k s.heap) (l1 : k < n1) (l2 : k < n2)
    (hQ : ∀ x y h' tk, P1 k x → P2 k y → IsZip h' z TI TO (rawInt s.heap.objs.size) → IsPair h' TO x y → S1 (k + 1) h' → S2 (k + 1) h' → IsPair h' s.heap.objs.size x y → h'.objs.size = s.heap.objs.size + 1 →
      (∀ c o, c ≠ z → c ≠ TO → c ≠ i1 → c ≠ i2 → s.heap.get? c = some o → h'.get? c = some o) → Q (.ref s.heap.objs.size) { s with heap := h', toks := tk }) :
    wpAny (model prog w) A (Builtin.«zip.__next__» ⟨[.ref z], []⟩) (fun fin s' => ∃ v, fin = .done (.ret v) ∧ Q v s') E s := by
  show wpAny _ _ (field (.ref z) 2 >>= _) _ _ _
  refine wpAny_bind (wpAny_field hz rfl (x := .bool false) rfl ?_)
  show wpAny _ _ (field (.ref z) 3 >>= _) _ _ _
  refine wpAny_bind (wpAny_field hz rfl (x := .ref TI) rfl ?_)
  refine wpAny_bind (wpAny_seqItems hTI rfl ?_)
  show wpAny _ _ (Builtin.SmallTypes.ownedTupleIsFree (.ref z) >>= _) _ _ _
  refine wpAny_bind ?_
  unfold Builtin.SmallTypes.ownedTupleIsFree
  refine wpAny_bind (wpAny_field hz rfl (x := .none) rfl (wpAny_pure ?_))
  simp only [if_true]
  refine wpAny_bind (wpAny_rule ?_)
  refine wpAny_bind (wpAny_field hz rfl (x := .ref TO) rfl ?_)
  refine wpAny_bind (wpAny_setField_rec hz (by simp) fun h₁ hz₁ hs₁ => ?_)
  replace hz₁ : IsZip h₁ z TI TO .ellipsis := hz₁
  refine wpAny_bind ?_
  simp only [List.zipIdx_cons, List.zipIdx_nil, List.forIn_cons, List.forIn_nil]
  refine wpAny_bind (wpAny_bind (wpAny_onRaise ?_))
  show wpAny _ _ (Builtin.SmallTypes.nextOf (.ref i1) >>= _) _ _ _
  refine wpAny_bind (D1.item k _ _ _ l1 (dr_but D1 h1 hs₁ D.zf1) fun x h₂ tk₂ p1 h1₂ hs₂ => wpAny_pure ?_)
  have hTO₂ : IsPair h₂ TO a b := hs₂.extBut _ _ D.TOi1 (hs₁.extBut _ _ D.TOz hTO)
  refine wpAny_bind (wpAny_seqItems hTO₂ rfl ?_)
  refine wpAny_bind (wpAny_updateSeq_pair hTO₂ fun h₃ hTO₃ hs₃ => ?_)
  replace hTO₃ : IsPair h₃ TO x b := hTO₃
  refine wpAny_bind (wpAny_letGo (wpAny_pure ?_))
  refine wpAny_bind (wpAny_bind (wpAny_onRaise ?_))
  show wpAny _ _ (Builtin.SmallTypes.nextOf (.ref i2) >>= _) _ _ _
  refine wpAny_bind (D2.item k _ _ _ l2 (dr_but D2 (dr_but D2 (dr_but D2 h2 hs₁ D.zf2) hs₂ D.jf2) hs₃ D.Tf2) fun y h₄ tk₄ p2 h2₄ hs₄ => wpAny_pure ?_)
  have hTO₄ : IsPair h₄ TO x b := hs₄.extBut _ _ D.TOi2 hTO₃
  refine wpAny_bind (wpAny_seqItems hTO₄ rfl ?_)
  refine wpAny_bind (wpAny_updateSeq_pair hTO₄ fun h₅ hTO₅ hs₅ => ?_)
  replace hTO₅ : IsPair h₅ TO x y := hTO₅
  refine wpAny_bind (wpAny_letGo (wpAny_pure (wpAny_pure ?_)))
  refine wpAny_bind (wpAny_seqItems hTO₅ rfl ?_)
  refine wpAny_bind (wpAny_newTuple ?_)
  have hsz : h₅.objs.size = s.heap.objs.size := by rw [hs₅.1, hs₄.1, hs₃.1, hs₂.1, hs₁.1]
  have hz₅ : IsZip h₅ z TI TO .ellipsis := hs₅.extBut _ _ D.TOz.symm (hs₄.extBut _ _ D.i2z.symm (hs₃.extBut _ _ D.TOz.symm (hs₂.extBut _ _ D.i1z.symm hz₁)))
  have hk₅ : ∀ c o, c ≠ z → c ≠ TO → c ≠ i1 → c ≠ i2 → s.heap.get? c = some o → h₅.get? c = some o := fun c o c1 c2 c3 c4 e =>
    hs₅.extBut _ _ c2 (hs₄.extBut _ _ c4 (hs₃.extBut _ _ c2 (hs₂.extBut _ _ c3 (hs₁.extBut _ _ c1 e))))
  have h1₅ : S1 (k + 1) h₅ := dr_but D1 (dr_but D1 (dr_but D1 h1₂ hs₃ D.Tf1) hs₄ D.jf1) hs₅ D.Tf1
  have h2₅ : S2 (k + 1) h₅ := dr_but D2 h2₄ hs₅ D.Tf2
  have hzlt : z < h₅.objs.size := Heap.lt_size hz₅
  show wpAny _ _ (Builtin.SmallTypes.ownedTupleHandOut (.ref z) (.ref h₅.objs.size) >>= _) _ _ _
  refine wpAny_bind ?_
  unfold Builtin.SmallTypes.ownedTupleHandOut
  have hz₆ : IsZip (h₅.push { cls := .type "tuple", data := .seq #[x, y] }) z TI TO .ellipsis := Heap.get?_push_of_some _ hz₅
  refine wpAny_bind (wpAny_setField_rec hz₆ (by simp) fun h₇ hz₇ hs₇ => ?_)
  replace hz₇ : IsZip h₇ z TI TO (rawInt h₅.objs.size) := hz₇
  refine wpAny_setField_rec hz₇ (by simp) fun h₈ hz₈ hs₈ => ?_
  replace hz₈ : IsZip h₈ z TI TO (rawInt h₅.objs.size) := hz₈
  have up : ∀ c o, c ≠ z → h₅.get? c = some o → h₈.get? c = some o := fun c o c1 e => hs₈.extBut _ _ c1 (hs₇.extBut _ _ c1 (Heap.get?_push_of_some _ e))
  have hT₈ : IsPair h₈ h₅.objs.size x y := hs₈.extBut _ _ (Nat.ne_of_gt hzlt) (hs₇.extBut _ _ (Nat.ne_of_gt hzlt) (Heap.get?_push_size _ rfl))
  have hz8 : h₈.objs.size = h₅.objs.size + 1 := by rw [hs₈.1, hs₇.1, Heap.size_push]
  have h1₈ : S1 (k + 1) h₈ := D1.frame _ _ _ h1₅ fun c hc o e => up c o (fun q => D.zf1 (q ▸ hc)) e
  have h2₈ : S2 (k + 1) h₈ := D2.frame _ _ _ h2₅ fun c hc o e => up c o (fun q => D.zf2 (q ▸ hc)) e
  have hk₈ : ∀ c o, c ≠ z → c ≠ TO → c ≠ i1 → c ≠ i2 → s.heap.get? c = some o → h₈.get? c = some o := fun c o c1 c2 c3 c4 e => up c o c1 (hk₅ c o c1 c2 c3 c4 e)
  rw [hsz] at hz₈ hT₈ hz8
  refine wpAny_pure ⟨_, rfl, ?_⟩
  show Q (.ref h₅.objs.size) _
  rw [hsz]
  exact hQ x y h₈ _ p1 p2 hz₈ (up _ _ D.TOz hTO₅) h1₈ h2₈ hT₈ hz8 hk₈
theorem zipD_end {z TI TO : Addr} {k : Nat} {a b : Value} {Q : Fin → Shared → Prop} (D1 : Draws prog w A i1 f1 n1 P1 S1) (D2 : Draws prog w A i2 f2 n2 P2 S2) (D : ZA z TI TO i1 i2 f1 f2)
    (hz : IsZip s.heap z TI TO .none) (hTI : IsPair s.heap TI (.ref i1) (.ref i2)) (hTO : IsPair s.heap TO a b) (h1 : S1 k s.heap) (h2 : S2 k s.heap) (hend : k = n1 ∨ k < n1 ∧ k = n2)
    (hE : ∀ h' tk e, (∀ c o, c ≠ z → c ≠ TO → c ≠ i1 → c ≠ i2 → s.heap.get? c = some o → h'.get? c = some o) → (∃ o, h'.get? e = some o ∧ o.cls = .type "StopIteration") → E (.ref e) { s with heap := h', toks := tk }) :
    wpAny (model prog w) A (Builtin.«zip.__next__» ⟨[.ref z], []⟩) Q E s := by
  show wpAny _ _ (field (.ref z) 2 >>= _) _ _ _
  refine wpAny_bind (wpAny_field hz rfl (x := .bool false) rfl ?_)
  show wpAny _ _ (field (.ref z) 3 >>= _) _ _ _
  refine wpAny_bind (wpAny_field hz rfl (x := .ref TI) rfl ?_)
  refine wpAny_bind (wpAny_seqItems hTI rfl ?_)
  show wpAny _ _ (Builtin.SmallTypes.ownedTupleIsFree (.ref z) >>= _) _ _ _
  refine wpAny_bind ?_
  unfold Builtin.SmallTypes.ownedTupleIsFree
  refine wpAny_bind (wpAny_field hz rfl (x := .none) rfl (wpAny_pure ?_))
  simp only [if_true]
  refine wpAny_bind (wpAny_rule ?_)
  refine wpAny_bind (wpAny_field hz rfl (x := .ref TO) rfl ?_)
  refine wpAny_bind (wpAny_setField_rec hz (by simp) fun h₁ hz₁ hs₁ => ?_)
  replace hz₁ : IsZip h₁ z TI TO .ellipsis := hz₁
  refine wpAny_bind ?_
  simp only [List.zipIdx_cons, List.zipIdx_nil, List.forIn_cons, List.forIn_nil]
  refine wpAny_bind (wpAny_bind (wpAny_onRaise ?_))
  show wpAny _ _ (Builtin.SmallTypes.nextOf (.ref i1) >>= _) _ _ _
  rcases hend with e | ⟨lt, e⟩
  · subst e
    refine wpAny_bind (D1.done _ _ _ (dr_but D1 h1 hs₁ D.zf1) fun h₂ e hs₂ he => ?_)
    obtain ⟨oe, hoe, hce⟩ := he
    have hz₂ : IsZip h₂ z TI TO .ellipsis := hs₂ _ _ D.i1z.symm hz₁
    have hez : e ≠ z := fun x => by subst x; rw [hz₂] at hoe; cases hoe; simp at hce
    refine wpAny_setField_rec hz₂ (by simp) fun h₃ _ hs₃ => hE h₃ _ e (fun c o c1 _ c3 _ x => hs₃.extBut _ _ c1 (hs₂ _ _ c3 (hs₁.extBut _ _ c1 x))) ⟨oe, hs₃.extBut _ _ hez hoe, hce⟩
  · subst e
    refine wpAny_bind (D1.item k _ _ _ lt (dr_but D1 h1 hs₁ D.zf1) fun x h₂ tk₂ p1 h1₂ hs₂ => wpAny_pure ?_)
    have hTO₂ : IsPair h₂ TO a b := hs₂.extBut _ _ D.TOi1 (hs₁.extBut _ _ D.TOz hTO)
    refine wpAny_bind (wpAny_seqItems hTO₂ rfl ?_)
    refine wpAny_bind (wpAny_updateSeq_pair hTO₂ fun h₃ hTO₃ hs₃ => ?_)
    refine wpAny_bind (wpAny_letGo (wpAny_pure ?_))
    refine wpAny_bind (wpAny_bind (wpAny_onRaise ?_))
    show wpAny _ _ (Builtin.SmallTypes.nextOf (.ref i2) >>= _) _ _ _
    refine wpAny_bind (D2.done _ _ _ (dr_but D2 (dr_but D2 (dr_but D2 h2 hs₁ D.zf2) hs₂ D.jf2) hs₃ D.Tf2) fun h₄ e hs₄ he => ?_)
    obtain ⟨oe, hoe, hce⟩ := he
    have hz₄ : IsZip h₄ z TI TO .ellipsis := hs₄ _ _ D.i2z.symm (hs₃.extBut _ _ D.TOz.symm (hs₂.extBut _ _ D.i1z.symm hz₁))
    have hez : e ≠ z := fun x => by subst x; rw [hz₄] at hoe; cases hoe; simp at hce
    refine wpAny_setField_rec hz₄ (by simp) fun h₅ _ hs₅ => hE h₅ _ e (fun c o c1 c2 c3 c4 x => hs₅.extBut _ _ c1 (hs₄ _ _ c4 (hs₃.extBut _ _ c2 (hs₂.extBut _ _ c3 (hs₁.extBut _ _ c1 x))))) ⟨oe, hs₅.extBut _ _ hez hoe, hce⟩
theorem next_zipD_item {z TI TO : Addr} {k : Nat} {a b : Value} {Q : Option Value → Shared → Prop} (D1 : Draws prog w A.in1 i1 f1 n1 P1 S1) (D2 : Draws prog w A.in1 i2 f2 n2 P2 S2) (D : ZA z TI TO i1 i2 f1 f2)
    (hz : IsZip s.heap z TI TO .none) (hTI : IsPair s.heap TI (.ref i1) (.ref i2)) (hTO : IsPair s.heap TO a b) (h1 : S1 k s.heap) (h2 : S2 k s.heap) (l1 : k < n1) (l2 : k < n2)
    (hQ : ∀ x y h' tk, P1 k x → P2 k y → IsZip h' z TI TO (rawInt s.heap.objs.size) → IsPair h' TO x y → S1 (k + 1) h' → S2 (k + 1) h' → IsPair h' s.heap.objs.size x y → h'.objs.size = s.heap.objs.size + 1 →
      (∀ c o, c ≠ z → c ≠ TO → c ≠ i1 → c ≠ i2 → s.heap.get? c = some o → h'.get? c = some o) → Q (some (.ref s.heap.objs.size)) { s with heap := h', toks := tk }) :
    wpAny (model prog w) A (pyNext (.ref z)) Q E s := by
  have hT : s.TypeIs (.ref z) "zip" := ⟨_, hz, rfl⟩
  unfold pyNext
  exact wpAny_bind (wpAny_attempt (wpAny_callSpecial?_slot (name := Str.ofString "__next__") hT PySem.F.slot_zip_next
    (wpAny_call_entry PySem.F.slot_zip_next hT PySem.F.entry_zip_next
      (zipD_item D1 D2 D hz hTI hTO h1 h2 l1 l2 fun x y h' tk p1 p2 a1 a2 a3 a4 a5 a6 a7 => wpAny_pure (hQ x y h' tk p1 p2 a1 a2 a3 a4 a5 a6 a7)) (PySem.F.args_zip_next_1 _))))
theorem next_zipD_end {z TI TO : Addr} {k : Nat} {a b : Value} {Q : Option Value → Shared → Prop} (D1 : Draws prog w A.in1 i1 f1 n1 P1 S1) (D2 : Draws prog w A.in1 i2 f2 n2 P2 S2) (D : ZA z TI TO i1 i2 f1 f2)
    (hz : IsZip s.heap z TI TO .none) (hTI : IsPair s.heap TI (.ref i1) (.ref i2)) (hTO : IsPair s.heap TO a b) (h1 : S1 k s.heap) (h2 : S2 k s.heap) (hend : k = n1 ∨ k < n1 ∧ k = n2)
    (hQ : ∀ h' tk, (∀ c o, c ≠ z → c ≠ TO → c ≠ i1 → c ≠ i2 → s.heap.get? c = some o → h'.get? c = some o) → Q none { s with heap := h', toks := tk }) : wpAny (model prog w) A (pyNext (.ref z)) Q E s := by
  have hT : s.TypeIs (.ref z) "zip" := ⟨_, hz, rfl⟩
  unfold pyNext
  refine wpAny_bind (wpAny_attempt (wpAny_callSpecial?_slot (name := Str.ofString "__next__") hT PySem.F.slot_zip_next
    (wpAny_call_entry PySem.F.slot_zip_next hT PySem.F.entry_zip_next (zipD_end D1 D2 D hz hTI hTO h1 h2 hend fun h' tk e hk he => ?_) (PySem.F.args_zip_next_1 _))))
  obtain ⟨o, ho, hc⟩ := he
  refine wpAny_bind (wpAny_isInstance (T := "StopIteration") (b := true) ⟨o, ho, hc⟩ isSubtype_stop ?_)
  exact wpAny_pure (hQ _ _ hk)
theorem walks_zipD {z TI TO : Addr} (D1 : Draws prog w A.in1 i1 f1 n1 P1 S1) (D2 : Draws prog w A.in1 i2 f2 n2 P2 S2) (D : ZA z TI TO i1 i2 f1 f2) :
    WalksT prog w A z ([z, TI, TO, i1, i2] ++ f1 ++ f2) [z, TO, i1, i2] (min n1 n2) (fun i vals => ∃ x y, P1 i x ∧ P2 i y ∧ vals = #[x, y])
      (fun i h => IsZip h z TI TO .none ∧ IsPair h TI (.ref i1) (.ref i2) ∧ (∃ a b, IsPair h TO a b) ∧ S1 i h ∧ S2 i h)
      (fun i T h => IsZip h z TI TO (rawInt T) ∧ IsPair h TI (.ref i1) (.ref i2) ∧ (∃ a b, IsPair h TO a b) ∧ S1 (i + 1) h ∧ S2 (i + 1) h ∧ T ≠ z ∧ T ≠ TO ∧ T ≠ i1 ∧ T ≠ i2) where
  sub := fun c hc => by simp at hc ⊢; rcases hc with rfl | rfl | rfl | rfl <;> simp
  frame := fun i h h' hst hk => by
    obtain ⟨hz, hTI, ⟨a, b, hTO⟩, h1, h2⟩ := hst
    exact ⟨hk z (by simp) _ hz, hk TI (by simp) _ hTI, ⟨a, b, hk TO (by simp) _ hTO⟩, D1.frame _ _ _ h1 fun b hb o e => hk b (by simp [hb]) o e, D2.frame _ _ _ h2 fun b hb o e => hk b (by simp [hb]) o e⟩
  item := fun i s Q E hi hst hQ => by
    obtain ⟨hz, hTI, ⟨a, b, hTO⟩, h1, h2⟩ := hst
    refine next_zipD_item D1 D2 D hz hTI hTO h1 h2 (Nat.lt_of_lt_of_le hi (Nat.min_le_left ..)) (Nat.lt_of_lt_of_le hi (Nat.min_le_right ..)) fun x y h' tk p1 p2 a1 a2 a3 a4 a5 a6 hk => ?_
    have lt : ∀ {c o}, s.heap.get? c = some o → s.heap.objs.size ≠ c := fun e => Nat.ne_of_gt (Heap.lt_size e)
    obtain ⟨o1, e1⟩ := D1.live _ _ h1
    obtain ⟨o2, e2⟩ := D2.live _ _ h2
    exact hQ s.heap.objs.size #[x, y] h' tk ⟨x, y, p1, p2, rfl⟩ (Nat.le_refl _) ⟨_, a5, rfl, _, rfl⟩
      ⟨a1, hk _ _ D.TIz D.TITO D.TIi1 D.TIi2 hTI, ⟨_, _, a2⟩, a3, a4, lt hz, lt hTO, lt e1, lt e2⟩
      fun c o hc e => hk c o (fun x => hc (by simp [x])) (fun x => hc (by simp [x])) (fun x => hc (by simp [x])) (fun x => hc (by simp [x])) e
  go := fun elts k pos i T s Q E hm hQ => by
    obtain ⟨hz, hTI, ⟨a, b, hTO⟩, h1, h2, _⟩ := hm
    refine wpAny_letOwnedTupleGo_zip hz fun h' hz' hs' => hQ h' ⟨hz', hs'.extBut _ _ D.TIz hTI, ⟨a, b, hs'.extBut _ _ D.TOz hTO⟩, dr_but D1 h1 hs' D.zf1, dr_but D2 h2 hs' D.zf2⟩ fun c o hc e => hs'.extBut _ _ (fun x => hc (by simp [x])) e
  apart := fun i T h hm hT => by
    obtain ⟨_, _, _, _, _, t1, t2, t3, t4⟩ := hm
    simp at hT
    rcases hT with rfl | rfl | rfl | rfl
    · exact t1 rfl
    · exact t2 rfl
    · exact t3 rfl
    · exact t4 rfl
  done := fun s Q E hst hQ => by
    obtain ⟨hz, hTI, ⟨a, b, hTO⟩, h1, h2⟩ := hst
    exact next_zipD_end D1 D2 D hz hTI hTO h1 h2 (by omega) fun h' tk hk => hQ h' tk fun c o hc e =>
      hk c o (fun x => hc (by simp [x])) (fun x => hc (by simp [x])) (fun x => hc (by simp [x])) (fun x => hc (by simp [x])) e
  self := fun i s Q E hst hQ => wpAny_pyIter_zip hst.1 hQ
end
section
variable {X : Cx}
end
end L2
set_option Elab.async false
set_option linter.all false
set_option maxRecDepth 100000
set_option maxHeartbeats 4000000
namespace L2
open PySem PySem.Spec PyProof.Rows
section
variable {prog : Program} {w : World} {A : Around} {E : Value → Shared → Prop} {s : Shared} {i1 i2 : Addr} {f1 f2 : List Addr} {n1 n2 : Nat} {P1 P2 : Nat → Value → Prop} {S1 S2 : Nat → Heap → Prop}
end
theorem Inv.walked {X : Cx} {pins : List (Addr × Obj)} {σ : L2.St} {H : Hp} {s : Shared} {h' : Heap} {t' : Nat} {wr : List Addr} (I : Inv X pins σ H s) (hf : ∀ b ∈ wr, FpOk X pins H b) (k : ∀ b o, b ∉ wr → s.heap.get? b = some o → h'.get? b = some o) :
    Inv X pins σ H { s with heap := h', toks := t' } := by
  have nw : ∀ b u, H b = some u → b ∉ wr := fun b u e hb => by rw [(hf b hb).1] at e; cases e
  refine I.step (g' := s.gens) (d' := s.drawn) (ch := wr) (fun b hb => ?_) (fun b o _ _ hc e _ => k b o hc e) (fun b o _ _ hc e _ => ⟨o.slots, k b o hc e⟩) (fun b o hc e n => n) (fun b o hc e => ⟨o, k b o hc e⟩)
    (fun _ _ e => e) (fun _ _ _ e => e) (fun b ps e => ⟨#[], by rw [e]; simp⟩) (fun m hm => ?_) (fun b u e => ?_) I.bare
  · obtain ⟨_, f1, _, f3, f4, f5⟩ := hf b hb
    exact ⟨f3, f1, f4, f5⟩
  · obtain ⟨o, es, ep, ho, rr⟩ := hm
    exact ⟨o, es, ep, k _ o (fun z => (hf _ z).2.1 rfl) ho, rr⟩
  · refine (I.hok b u e).stay (fun d v hd q => k d v ?_ q) (fun _ q => q) fun _ _ q => q
    rcases hd with rfl | hd
    · exact nw _ _ e
    · exact nw _ _ hd
section
abbrev ztO (a : Addr) : Obj := { cls := .type "tuple_iterator", data := .fields #[.ref a, .int 0 0] }
end
section
variable {P : Program} {w : World} {K : PySem.W.Frag}
end
section
variable {X : Cx}
end
end L2
set_option Elab.async false
set_option linter.all false
set_option maxRecDepth 100000
set_option maxHeartbeats 4000000
namespace L2
open PySem PySem.Spec PyProof.Rows
section
variable {X : Cx}
end
end L2
set_option Elab.async false
set_option linter.all false
set_option maxRecDepth 100000
set_option maxHeartbeats 4000000
namespace L2
open PySem PySem.Spec PyProof.Rows
section
variable {X : Cx}
end
end L2
set_option Elab.async false
set_option linter.all false
set_option maxRecDepth 100000
set_option maxHeartbeats 4000000
namespace L2
open PySem PySem.Spec PyProof.Rows
def foldV (ks : Nat → Key) (vs : Nat → Value) : Nat → List (Key × Value)
  | 0 => []
  | i + 1 => stored (foldV ks vs i) (ks i) (vs i)
theorem foldV_len (ks : Nat → Key) (vs : Nat → Value) : ∀ i, (foldV ks vs i).length ≤ i
  | 0 => Nat.le_refl 0
  | i + 1 => by
    have ih := foldV_len ks vs i
    show (stored _ _ _).length ≤ _
    unfold stored
    split
    · rw [List.length_map]; omega
    · rw [List.length_append]; simp; omega
section
variable {P : Program} {w : World} {A : Around} {R : Result → Shared → Prop} {I : Addr} {fp wr : List Addr} {n : Nat} {Pv : Nat → Value → Prop} {St : Nat → Heap → Prop}
theorem dictK_at {h h' : Heap} {D : Addr} {kvs : List (Key × Value)} (x : h.DictOf (mixKind P w) D kvs) (e : ∀ o, h.get? D = some o → h'.get? D = some o) : h'.DictOf (mixKind P w) D kvs :=
  let ⟨o, es, ep, h1, r⟩ := x
  ⟨o, es, ep, e _ h1, r⟩
theorem dlk_loop (W : Walks P w A.in1 I fp wr n Pv St) (D : Addr) (hDf : D ∉ fp) (hu : A.in1.units < cLine) (h0 : Heap) (hw0 : ∀ b ∈ wr, h0.get? b = none) (hD0 : h0.get? D = none) (ks : Nat → Key) (bs : Nat → Value) (vs : Nat → Value)
    (hit : ∀ i v, i < n → Pv i v → ∃ t o c, v = .ref t ∧ h0.get? t = some o ∧ o.cls = .type "tuple" ∧ o.data = .seq #[bs i, vs i] c) (hkey : ∀ i, i < n → (mixKind P w).is (ks i) (bs i) = true) (hn : n ≤ sizeLine) :
    ∀ (k i : Nat) (s : Shared), n - i = k → i ≤ n → St i s.heap → s.heap.DictOf (mixKind P w) D (foldV ks vs i) → (∀ b o, h0.get? b = some o → s.heap.get? b = some o) →
      (∀ h' tk', h'.DictOf (mixKind P w) D (foldV ks vs n) → (∀ b o, h0.get? b = some o → h'.get? b = some o) → R (.ok (.ret .none)) { s with heap := h', toks := tk' }) →
      codeAny (model P w) A (.builtin "dict.update.loop" ⟨[.ref D, .ref I, rawInt (i : Int), .none], []⟩) R s := by
  have hDw : D ∉ wr := fun h => hDf (W.sub _ h)
  have base : ∀ (h h' : Heap), (∀ b o, h0.get? b = some o → h.get? b = some o) → (∀ b o, b ∉ wr → h.get? b = some o → h'.get? b = some o) → ∀ b o, h0.get? b = some o → h'.get? b = some o :=
    fun h h' k1 k2 b o e => k2 b o (fun z => by rw [hw0 b z] at e; cases e) (k1 b o e)
  intro k
  induction k with
  | zero =>
    intro i s hk hi hst hd kb hR
    have hin : i = n := by omega
    subst hin
    refine codeAny_builtin dl_entry ?_
    rw [Around.under_plainId dl_plain _]
    show wpAny _ A.in1 (pyNext (.ref I) >>= _) _ _ s
    refine wpAny_bind (W.done s _ _ hst fun h' tk' hm => ?_)
    show wpAny _ A.in1 (Builtin.Dict.addKeywords D [] >>= fun _ => ret Value.none) _ _ _
    refine wpAny_bind (wpAny_pure (wpAny_pure ?_))
    have kb' := base _ _ kb hm
    exact hR h' tk' (dictK_at hd (fun o e => hm D o hDw e)) kb'
  | succ k ih =>
    intro i s hk hi hst hd kb hR
    have hin : i < n := by omega
    refine codeAny_builtin dl_entry ?_
    rw [Around.under_plainId dl_plain _]
    show wpAny _ A.in1 (pyNext (.ref I) >>= _) _ _ s
    refine wpAny_bind (W.item i s _ _ hin hst fun v h' tk' hv hst' hm => ?_)
    have kb' := base _ _ kb hm
    obtain ⟨t, o, c, rfl, ho, hoc, hod⟩ := hit i v hin hv
    have ho' := kb' _ _ ho
    have hd' := dictK_at hd (fun o e => hm D o hDw e)
    refine wpAny_bind (wpAny_holding ?_)
    refine wpAny_bind (wpAny_tryCatch ?_)
    unfold Builtin.Dict.pairItems
    refine wpAny_bind (wpAny_typeOf (T := "tuple") ⟨o, ho', hoc⟩ ?_)
    rw [if_pos (by decide)]
    refine wpAny_bind (wpAny_seqItems ho' hod (wpAny_pure ?_))
    show wpAny _ A.in1 (holding [bs i, vs i] (dictSet D (bs i) (vs i))) _ _ _
    have hlen := foldV_len ks vs i
    refine wpAny_holding (wpAny_dictSet_pairs (hsz := by omega) (knd := mixKind P w) (hkey i hin) hd' fun h2 hd2 hs => ?_)
    refine wpAny_pure ⟨plainId_quiet dl_plain _, ?_⟩
    have kD : ∀ b o, h0.get? b = some o → b ≠ D := fun b o e z => by rw [z, hD0] at e; cases e
    have kb2 : ∀ b o, h0.get? b = some o → h2.get? b = some o := fun b o e => (hs.2 b (kD b o e)).trans (kb' b o e)
    have e1 : rawInt ((i : Int) + 1) = rawInt ((i + 1 : Nat) : Int) := by simp
    rw [e1]
    refine ih (i + 1) _ (by omega) (by omega) (W.frame _ _ _ hst' fun b hb o e => (hs.2 b (fun z => hDf (z ▸ hb))).trans e) hd2 kb2 fun h3 tk3 hd3 kb3 => ?_
    exact hR h3 tk3 hd3 kb3
theorem dlk_dict {E : Value → Shared → Prop} {s : Shared} {Q : Value → Shared → Prop} {l : Addr} {items : Array Value} (hh : A.handled = none) (hu : A.in1.in1.units < cLine) (hl : s.heap.IsList l items) (hnd : ∀ o, s.heap.get? l = some o → o.dict = none) (ks : Nat → Key) (bs : Nat → Value) (vs : Nat → Value)
    (hit : ∀ i v, items[i]? = some v → ∃ t o c, v = .ref t ∧ s.heap.get? t = some o ∧ o.cls = .type "tuple" ∧ o.data = .seq #[bs i, vs i] c) (hkey : ∀ i, i < items.size → (mixKind P w).is (ks i) (bs i) = true) (hn : items.size ≤ sizeLine)
    (hQ : ∀ h' tk', h'.DictOf (mixKind P w) s.heap.objs.size (foldV ks vs items.size) → (∀ b o, s.heap.get? b = some o → h'.get? b = some o) → Q (.ref s.heap.objs.size) { s with heap := h', toks := tk' }) :
    wpAny (model P w) A (call (.type "dict") [.ref l]) Q E s := by
  refine callType_codes (Q₁ := fun obj s1 => obj = .ref s.heap.objs.size ∧ s1 = { s with heap := s.heap.push { cls := .type "dict", data := .dict #[] } }) F.kt_called_dict (F.kt_typeCall_dict_1 _) F.entry_dict_init (kt_code_dict_new _ ⟨rfl, rfl⟩) fun obj s1 hs1 => ?_
  obtain ⟨rfl, rfl⟩ := hs1
  have hnew : (s.heap.push { cls := .type "dict", data := .dict #[] }).DictOf (mixKind P w) s.heap.objs.size [] := Heap.DictOf.new s.heap
  have hl1 := hl.push { cls := .type "dict", data := .dict #[] }
  refine ⟨hnew.typeIs, F.args_dict_init_2 _ _, ?_⟩
  unfold Builtin.«dict.__init__»
  refine wpAny_bind ?_
  unfold Builtin.Dict.selfAndRest
  refine wpAny_bind (wpAny_notOrdered_dict hnew.typeIs ?_)
  refine (show wpAny _ _ (pure (s.heap.objs.size, [Value.ref l])) _ _ _ from wpAny_pure ?_)
  show wpAny _ _ (Builtin.Dict.updateFrom "dict.__init__" s.heap.objs.size (.ref l) [] .none) _ _ _
  unfold Builtin.Dict.updateFrom
  refine wpAny_bind (wpAny_typeOf hl1.typeIs ?_)
  rw [if_pos (by decide)]
  refine wpAny_bind ?_
  unfold getAttr?
  refine wpAny_bind (wpAny_mkText ?_)
  unfold getAttrBy?
  obtain ⟨ol, hol0, hoc, n0, hod⟩ := id hl
  have hol := Heap.get?_push_of_some { cls := .type "dict", data := .dict #[] } hol0
  refine wpAny_bind (wpAny_attempt (dl_miss hol hoc hod (hnd _ hol0) hh fun h' tk1 e hx => ?_))
  obtain ⟨ob, fs, he, hec, _⟩ := hx.there
  refine wpAny_bind (wpAny_isInstance (T := "AttributeError") (b := true) ⟨ob, he, hec⟩ sub_AttributeError ?_)
  rw [if_pos rfl]
  refine wpAny_pure ?_
  rw [if_pos (show (Option.isNone (none : Option Value)) = true from rfl)]
  refine wpAny_bind (wpAny_rule ?_)
  have keep1 : ∀ b o, s.heap.get? b = some o → h'.get? b = some o := fun b o e => hx.keeps _ _ (Heap.get?_push_of_some _ e)
  have hl2 : h'.IsList l items := ⟨ol, keep1 _ _ hol0, hoc, n0, hod⟩
  have nov : ∀ a, s.heap.objs.size ≤ a → s.heap.get? a = none := fun a ha => by
    cases q : s.heap.get? a with
    | none => rfl
    | some o => exact absurd (Heap.lt_size q) (Nat.not_lt.mpr ha)
  have hD' : h'.DictOf (mixKind P w) s.heap.objs.size [] := by
    obtain ⟨o, es, ep, q1, q2⟩ := hnew
    exact ⟨o, es, ep, hx.keeps _ _ q1, q2⟩
  have hDlt : s.heap.objs.size < h'.objs.size := by obtain ⟨o, _, _, q1, _⟩ := hD'; exact Heap.lt_size q1
  have hllt : l < s.heap.objs.size := Heap.lt_size hol0
  refine wpAny_bind (wpAny_pyIter_list hl2 ?_)
  refine wpAny_pure ⟨plainId_quiet dl_plain _, ?_⟩
  have nlI : l ≠ h'.objs.size := Nat.ne_of_lt (Nat.lt_trans hllt hDlt)
  have W := Walks.list (prog := P) (w := w) (A := A.in1.in1) hh h'.objs.size l nlI items
  refine dlk_loop W s.heap.objs.size (fun hm => ?_) hu s.heap (fun b hb => ?_) (nov _ (Nat.le_refl _)) ks bs vs (fun i v hi hv => hit i v hv) hkey hn items.size 0 _ (by omega) (Nat.zero_le _) ⟨⟨_, Heap.get?_push_size _ rfl, rfl, rfl⟩, hl2.push _⟩ ?_ (fun b o e => Heap.get?_push_of_some _ (keep1 b o e)) (fun h3 tk3 hd3 kb3 => ?_)
  · rcases List.mem_cons.mp hm with q | q
    · exact Nat.ne_of_lt hDlt q
    · exact Nat.ne_of_gt hllt (List.mem_singleton.mp q)
  · rw [List.mem_singleton.mp hb]
    exact nov _ (Nat.le_of_lt hDlt)
  · obtain ⟨o, es, ep, q1, q2⟩ := hD'
    exact ⟨o, es, ep, Heap.get?_push_of_some _ q1, q2⟩
  · exact ⟨rfl, hQ h3 tk3 hd3 kb3⟩
end
section
variable {X : Cx}
theorem vals_of_strs : ∀ {ss : List Str} {its : List Value}, StrsAre its ss → Vals (ss.map V.str) its
  | _, _, .nil => .nil
  | _, _, .cons x t r => .cons ⟨t, rfl⟩ (vals_of_strs r)
def PairsK (H : Hp) (ys : List V) (kvs : List (Key × V)) : Prop := Paired (fun y (kv : Key × V) => ∃ t, y = .ref t ∧ H t = some (.tup [kV kv.1, kv.2])) ys kvs
def putAllK (kvs : List (Key × V)) : List (Key × V) := kvs.foldl (fun d kv => putK d kv.1 kv.2) []
theorem PairsK.get : ∀ {H : Hp} {ys : List V} {kvs : List (Key × V)} {i : Nat} {y : V}, PairsK H ys kvs → ys[i]? = some y → ∃ kv t, kvs[i]? = some kv ∧ y = .ref t ∧ H t = some (.tup [kV kv.1, kv.2])
  | _, _, _, i, y, .nil, e => by simp at e
  | _, _, _, 0, y, .cons (b := kv) ⟨t, q⟩ _, e => by simp at e; subst e; exact ⟨kv, t, rfl, q⟩
  | _, _, _, i + 1, y, .cons _ r, e => by simp at e; obtain ⟨kv, t, h⟩ := PairsK.get (kvs := _) r e; exact ⟨kv, t, by simpa using h.1, h.2⟩
def rDictK : List V → Hp → VK → Prop := fun xs H Q => match xs with
  | [.ref l] => (∃ ys kvs, H l = some (.lst ys) ∧ PairsK H ys kvs ∧ ∀ p, H p = none → Q (.ref p) (upd H p (.dK (putAllK kvs)))) ∨ (∃ kvs, H l = some (.dK kvs) ∧ ∀ p, H p = none → Q (.ref p) (upd H p (.dK kvs)))
  | _ => False
theorem rDictK.copy {l : Addr} {H : Hp} {Q : VK} {kvs : List (Key × V)} (e : H l = some (.dK kvs)) (q : ∀ p, H p = none → Q (.ref p) (upd H p (.dK kvs))) : rDictK [.ref l] H Q := .inr ⟨kvs, e, q⟩
theorem call_dictK (hc : X.calm = true) (hu : X.A.units + 64 < cLine) : CallR X (.type "dict") rDictK := by
  intro pins s σ H xs us Q I r h
  unfold rDictK at h
  split at h
  · rename_i l
    obtain ⟨u, rfl, ru⟩ := vals1 r
    cases ru
    rcases h with ⟨ys, kvs, e, hp, q⟩ | ⟨kvs, e, q⟩
    · obtain ⟨its, rr, pl, hz⟩ := I.list (SqL.of e)
      have hl : ys.length = its.length := rr.length
      have hlk : ys.length = kvs.length := Paired.length hp
      have fn : ∀ i, ∃ p : Key × Value × Value, i < its.length → ∃ kv t o c, kvs[i]? = some kv ∧ p.1 = kv.1 ∧ its[i]? = some (.ref t) ∧ s.heap.get? t = some o ∧ o.cls = .type "tuple" ∧ o.data = .seq #[p.2.1, p.2.2] c ∧
          RelV (kV kv.1) p.2.1 ∧ RelV kv.2 p.2.2 := by
        intro i
        by_cases hi : i < its.length
        · have hy : ys[i]? = some (ys[i]'(by omega)) := by simp
          obtain ⟨kv, t, h1, h2, h3⟩ := hp.get hy
          obtain ⟨u, hu1, hu2⟩ := rr.get hy
          rw [h2] at hu2
          cases hu2
          obtain ⟨_, its2, r2, o, q1, q2, n, q3⟩ := (show ObjOk X.prog X.w H s.heap t (.tup [kV kv.1, kv.2]) from I.hok t _ h3)
          obtain ⟨u1, u2, rfl, ru1, ru2⟩ := r2.two
          exact ⟨(kv.1, u1, u2), fun _ => ⟨kv, t, o, n, h1, rfl, hu1, q1, q2, q3, ru1, ru2⟩⟩
        · exact ⟨(.inl 0, .none, .none), fun z => absurd z hi⟩
      obtain ⟨f, hf⟩ := Classical.skolem.mp fn
      have kt : ∀ i, i ≤ its.length → KV (putAllK (kvs.take i)) (foldV (fun i => (f i).1) (fun i => (f i).2.2) i) := by
        intro i
        induction i with
        | zero => intro _; exact .nil
        | succ i ih =>
          intro hi
          obtain ⟨kv, t, o, c, h1, h2, h3, h4, h5, h6, h7, h8⟩ := hf i (by omega)
          have e1 : putAllK (kvs.take (i + 1)) = putK (putAllK (kvs.take i)) kv.1 kv.2 := by
            rw [List.take_succ, h1]
            simp [putAllK, List.foldl_append]
          rw [e1]
          show KV _ (stored _ _ _)
          rw [← h2]
          exact (ih (by omega)).put _ h8
      have hs : sizeLine = 16777216 := sizeLine_eq
      obtain ⟨ol, nl, w1, w2, w3, w4⟩ := id pl
      refine dlk_dict (P := X.prog) (w := X.w) (I.ok.hd hc) (by show X.A.units + 1 + 1 < cLine; omega) pl.isList (fun o e => by rw [w1] at e; cases e; exact w3) (fun i => (f i).1) (fun i => (f i).2.1) (fun i => (f i).2.2) (fun i v hv => ?_) (fun i hi => ?_) (by simpa using (by omega : its.length ≤ sizeLine)) fun h' tk' hd kb => ?_
      · have hv' : its[i]? = some v := by simpa using hv
        have hi : i < its.length := (List.getElem?_eq_some_iff.mp hv').1
        obtain ⟨kv, t, o, c, h1, h2, h3, h4, h5, h6, h7, h8⟩ := hf i hi
        rw [h3] at hv'
        cases hv'
        exact ⟨t, o, c, rfl, h4, h5, h6⟩
      · obtain ⟨kv, t, o, c, h1, h2, h3, h4, h5, h6, h7, h8⟩ := hf i (by simpa using hi)
        show (mixKind X.prog X.w).is (f i).1 (f i).2.1 = true
        rw [h2]
        exact kV_is h7
      · have kt1 := kt its.length (Nat.le_refl _)
        rw [List.take_of_length_le (by omega)] at kt1
        have hfl := foldV_len (fun i => (f i).1) (fun i => (f i).2.2) its.length
        have hpl : (putAllK kvs).length ≤ sizeLine := by have := Paired.length kt1; omega
        have hfr : H s.heap.objs.size = none := I.hok.fresh (Nat.le_refl _)
        rw [List.size_toArray] at hd
        refine ⟨.ref s.heap.objs.size, upd H s.heap.objs.size (.dK (putAllK kvs)), I.laid (t' := tk') kb (Nat.le_refl _) (dk_new hpl ?_ kt1 hd), rfl, q _ hfr⟩
        have := I.big
        exact beq_eq_false_iff_ne.mpr (Nat.ne_of_gt this)
    · exact d_copyOf I (.inl e) fun p s' hp I' => ⟨.ref p, _, I', rfl, q p hp⟩
  · exact h.elim
def kI (p : Key × Int) : Key × V := (p.1, .int p.2)
theorem val_kI : ∀ {kvs : List (Key × Int)} {p : Key × Int}, (kvs.map Prod.fst).Nodup → p ∈ kvs → valV (kvs.map kI) p.1 = some (.int p.2)
  | q :: kvs, p, nd, hp => by
    rw [List.map_cons, List.nodup_cons] at nd
    rcases List.mem_cons.mp hp with rfl | hp
    · simp [valV, kI]
    · have hne : q.1 ≠ p.1 := fun e => nd.1 (e ▸ List.mem_map.mpr ⟨p, hp, rfl⟩)
      have ih := val_kI nd.2 hp
      simp only [valV, List.map_cons, List.find?_cons] at ih ⊢
      rw [show decide ((kI q).1 = p.1) = false from decide_eq_false hne]
      exact ih
theorem hits_of {A : Around} {s : Shared} {kvs : List (Key × Int)} {vb : List (Key × Value)} (rb : KV (kvs.map kI) vb) (nd : (kvs.map Prod.fst).Nodup) : ∀ {l : List (Key × Int)} {va : List (Key × Value)}, KV (l.map kI) va → (∀ p ∈ l, p ∈ kvs) → PySem.W.KeqHits A s vb va true
  | [], _, .nil, _ => .nil
  | p :: l, _, .cons (b := q) ⟨e1, e2⟩ r, h => by
    obtain ⟨k, v⟩ := q
    obtain ⟨t, rfl⟩ := (show ∃ t, v = Value.int p.2 t from e2)
    have hv := val_kI nd (h p (.head _))
    obtain ⟨w', hw, rw'⟩ := RelO.some_of (v := .int p.2) (o := valueAt vb p.1) (by rw [← hv]; exact rb.val p.1)
    obtain ⟨t', rfl⟩ := (show ∃ t, w' = Value.int p.2 t from rw')
    have e : k = p.1 := e1.symm
    subst e
    have x := PySem.W.keq_flat (A := A) (s := s) (v := .int p.2 t) (y := .int p.2 t') (d := .int p.2) (e := .int p.2) (fun _ => Reads.int _ _) (fun _ => Reads.int _ _)
    have ev : PyData.eqv (.int p.2) (.int p.2) = true := by simp [PyData.eqv]
    rw [ev] at x
    exact PySem.W.KeqHits.hit (e := true) (b := true) hw x (hits_of rb nd r fun q hq => h q (.tail _ hq))
end
end L2
set_option Elab.async false
set_option linter.all false
set_option maxRecDepth 100000
set_option maxHeartbeats 4000000
namespace L2
open PySem PySem.Spec PyProof.Rows
section
abbrev zlO (a : Addr) : Obj := { cls := .type "list_iterator", data := .fields #[.ref a, .int 0 0] }
structure ZML (h h' : Heap) (a b : Addr) : Prop where
  z : IsZip h' (h.objs.size + 4) (h.objs.size + 2) (h.objs.size + 3) .none
  ti : IsPair h' (h.objs.size + 2) (.ref h.objs.size) (.ref (h.objs.size + 1))
  to : IsPair h' (h.objs.size + 3) .none .none
  i1 : h'.IsListIter h.objs.size a 0
  i2 : h'.IsListIter (h.objs.size + 1) b 0
  old : ∀ c o, h.get? c = some o → h'.get? c = some o
def zlH (h : Heap) (a b : Addr) : Heap := ((((h.push (zlO a)).push (zlO b)).push { cls := .type "tuple", data := .seq #[.ref h.objs.size, .ref (h.objs.size + 1)] }).push { cls := .type "tuple", data := .seq #[.none, .none] }).push { cls := .type "zip", data := .fields #[.none, .bool false, .bool false, .ref (h.objs.size + 2), .ref (h.objs.size + 3)] }
theorem zml_of (h : Heap) (a b : Addr) : ZML h (zlH h a b) a b := by
  have P : ∀ (k : Heap) (o : Obj) {c : Addr} {u : Obj}, k.get? c = some u → (k.push o).get? c = some u := fun k o {c u} e => Heap.get?_push_of_some o e
  have t1 : (h.push (zlO a)).objs.size = h.objs.size + 1 := by rw [Heap.size_push]
  have t2 : ((h.push (zlO a)).push (zlO b)).objs.size = h.objs.size + 2 := by rw [Heap.size_push, t1]
  have t3 : (((h.push (zlO a)).push (zlO b)).push { cls := .type "tuple", data := .seq #[.ref h.objs.size, .ref (h.objs.size + 1)] }).objs.size = h.objs.size + 3 := by rw [Heap.size_push, t2]
  have t4 : ((((h.push (zlO a)).push (zlO b)).push { cls := .type "tuple", data := .seq #[.ref h.objs.size, .ref (h.objs.size + 1)] }).push { cls := .type "tuple", data := .seq #[.none, .none] }).objs.size = h.objs.size + 4 := by rw [Heap.size_push, t3]
  unfold zlH
  refine ⟨?_, ?_, ?_, ⟨_, P _ _ (P _ _ (P _ _ (P _ _ (Heap.get?_push_size _ rfl)))), rfl, rfl⟩, ⟨zlO b, ?_, rfl, rfl⟩, fun c o e => P _ _ (P _ _ (P _ _ (P _ _ (P _ _ e))))⟩
  · rw [← t4]; exact Heap.get?_push_size _ rfl
  · rw [← t2]; exact P _ _ (P _ _ (Heap.get?_push_size _ rfl))
  · rw [← t3]; exact P _ _ (Heap.get?_push_size _ rfl)
  · rw [← t1]; exact P _ _ (P _ _ (P _ _ (Heap.get?_push_size _ rfl)))
theorem meets_zipLL (a b : Addr) (va vb : Array Value) :
    Meets (Builtin.«zip.__new__» ⟨[.type "zip", .ref a, .ref b], []⟩) (fun _ R s => s.heap.IsList a va ∧ s.heap.IsList b vb ∧ R (.ok (.ret (.ref (s.heap.objs.size + 4)))) { s with heap := zlH s.heap a b }) :=
  .of_wp fun prog w A R s h => by
    obtain ⟨hp, g, d, tk, os⟩ := s
    obtain ⟨ha, hb, h⟩ := h
    have hsub := sub_zip
    have hb' : (Heap.push hp (zlO a)).IsList b vb := hb.push _
    have t1 : (hp.push (zlO a)).objs.size = hp.objs.size + 1 := by rw [Heap.size_push]
    have t2 : ((hp.push (zlO a)).push (zlO b)).objs.size = hp.objs.size + 2 := by rw [Heap.size_push, t1]
    wp_walk using wpAny_pyIter_list ha, wpAny_pyIter_list hb'
    refine ⟨_, rfl, ?_⟩
    simp only [Heap.size_push]
    exact h
theorem call_zipLL {prog : Program} {w : World} {A : Around} {E : Value → Shared → Prop} {s : Shared} {a b : Addr} {va vb : Array Value} {Q : Value → Shared → Prop} (ha : s.heap.IsList a va) (hb : s.heap.IsList b vb)
    (q : ∀ h', ZML s.heap h' a b → Q (.ref (s.heap.objs.size + 4)) { s with heap := h' }) : wpAny (model prog w) A (call (.type "zip") [.ref a, .ref b]) Q E s := by
  refine callType_new PySem.F.called_zip (by decide) (PySem.F.typeCall_zip_2 _ _) (PySem.F.newCall_zip_2 _ _) (fun obj => PySem.F.args_object_init_3 obj _ _) PySem.F.entry_zip_new (meets_zipLL a b va vb) ⟨ha, hb, ?_⟩
  have m := zml_of s.heap a b
  exact ⟨⟨_, m.z, rfl⟩, q _ m⟩
end
def ItZL (a b : Addr) : It := ⟨fun i H => ∃ xs ys x y, H a = some (.lst xs) ∧ H b = some (.lst ys) ∧ xs[i]? = some x ∧ ys[i]? = some y,
  fun i H v H' => ∃ T x y, H T = none ∧ v = .ref T ∧ (∀ xs, H a = some (.lst xs) → xs[i]? = some x) ∧ (∀ ys, H b = some (.lst ys) → ys[i]? = some y) ∧ H' = upd H T (.tup [x, y]), fun i H => ∃ xs ys, H a = some (.lst xs) ∧ H b = some (.lst ys) ∧ i = min xs.length ys.length⟩
section
variable {P : Program} {w : World} {K : PySem.W.Frag}
def ZTL (a b z TI TO i1 i2 : Addr) (i : Nat) (h : Heap) : Prop := IsZip h z TI TO .none ∧ IsPair h TI (.ref i1) (.ref i2) ∧ (∃ x y, IsPair h TO x y) ∧ h.IsListIter i1 a i ∧ h.IsListIter i2 b i
theorem ZTL.tys {a b z TI TO i1 i2 : Addr} {i : Nat} {h : Heap} (t : ZTL a b z TI TO i1 i2 i h) : ∀ c ∈ [z, TI, TO, i1, i2], ∃ o, h.get? c = some o ∧ (∀ v, o.data ≠ .cell v) := by
  obtain ⟨e0, e1, ⟨x, y, e2⟩, ⟨o3, e3, _, d3⟩, ⟨o4, e4, _, d4⟩⟩ := t
  intro c hc
  simp only [List.mem_cons, List.not_mem_nil, or_false] at hc
  rcases hc with rfl | rfl | rfl | rfl | rfl
  · exact ⟨_, e0, fun v q => by cases q⟩
  · exact ⟨_, e1, fun v q => by cases q⟩
  · exact ⟨_, e2, fun v q => by cases q⟩
  · exact ⟨_, e3, fun v q => by rw [d3] at q; cases q⟩
  · exact ⟨_, e4, fun v q => by rw [d4] at q; cases q⟩
theorem za_more {z TI TO i1 i2 a b : Addr} (D : ZA z TI TO i1 i2 [i1] [i2]) (na : ∀ d ∈ [z, TI, TO, i1, i2], d ≠ a) (nb : ∀ d ∈ [z, TI, TO, i1, i2], d ≠ b) : ZA z TI TO i1 i2 [i1, a] [i2, b] :=
  ⟨D.TIz, D.TOz, D.i1z, D.i2z, D.TITO, D.TIi1, D.TIi2, D.TOi1, D.TOi2, D.i12, by simpa using ⟨D.i1z.symm, na z (by simp)⟩, by simpa using ⟨D.i2z.symm, nb z (by simp)⟩,
    by simpa using ⟨D.TOi1, na TO (by simp)⟩, by simpa using ⟨D.TOi2, nb TO (by simp)⟩, by simpa using ⟨D.i12, nb i1 (by simp)⟩, by simpa using ⟨D.i12.symm, na i2 (by simp)⟩⟩
theorem turn_zipLL {elts : List Expr} {kk : Nat} {pos : Pos} (a b z TI TO i1 i2 : Addr) (D : ZA z TI TO i1 i2 [i1] [i2]) : Turn P w K (.Tuple elts kk pos) (ItZL a b) [z, TI, TO, i1, i2] z (ZTL a b z TI TO i1 i2) where
  mem := by simp
  obj := fun i h st c hc => st.tys c hc
  keep := fun i h h' st k => by
    obtain ⟨e0, e1, ⟨x, y, e2⟩, ⟨o3, e3, r3⟩, ⟨o4, e4, r4⟩⟩ := st
    exact ⟨k z (by simp) _ e0, k TI (by simp) _ e1, ⟨x, y, k TO (by simp) _ e2⟩, ⟨o3, k i1 (by simp) _ e3, r3⟩, ⟨o4, k i2 (by simp) _ e4, r4⟩⟩
  item := by
    intro X hP hw hK hc i pins s σ H E I hf st hg
    subst hP hw hK
    obtain ⟨xs, ys, x', y', hx, hy, gx, gy⟩ := hg
    obtain ⟨va, ra, pa, _⟩ := I.list (SqL.of hx)
    obtain ⟨vb, rb, pb, _⟩ := I.list (SqL.of hy)
    obtain ⟨u, hu, ru⟩ := ra.get gx
    obtain ⟨v, hv, rv⟩ := rb.get gy
    have nin : ∀ c ys, H c = some (.lst ys) → ∀ d ∈ [z, TI, TO, i1, i2], d ≠ c := fun c ys q d hd e => by
      rw [← e, (hf d hd).1] at q; cases q
    have h0 : X.A.in1.handled = none := I.ok.hd hc
    have W := walks_zipD (A := X.A) (Draws.list (prog := X.prog) (w := X.w) h0 i1 a (nin a xs hx i1 (by simp)).symm va.toArray) (Draws.list (prog := X.prog) (w := X.w) h0 i2 b (nin b ys hy i2 (by simp)).symm vb.toArray) (za_more D (nin a xs hx) (nin b ys hy))
    have la : i < va.toArray.size := by rw [List.size_toArray]; exact (List.getElem?_eq_some_iff.mp hu).1
    have lb : i < vb.toArray.size := by rw [List.size_toArray]; exact (List.getElem?_eq_some_iff.mp hv).1
    refine W.item i s _ _ (by omega) ⟨st.1, st.2.1, st.2.2.1, ⟨st.2.2.2.1, pa.isList⟩, ⟨st.2.2.2.2, pb.isList⟩⟩ fun T vs h' tk hp hT htup mid kk' => ⟨_, rfl, ?_⟩
    have nT := W.apart _ _ _ mid
    refine W.go _ _ _ i T { s with heap := h', toks := tk } _ _ mid fun h'' st'' k'' => ?_
    have tup' : IsTup h'' T vs := let ⟨o, eo, r⟩ := htup; ⟨o, k'' T o nT eo, r⟩
    have hv' : Vals [x', y'] vs.toList := by
      obtain ⟨x1, y1, p1, p2, rfl⟩ := hp
      rw [show va.toArray[i]? = some u from by simpa using hu] at p1
      rw [show vb.toArray[i]? = some v from by simpa using hv] at p2
      cases p1
      cases p2
      exact .cons ru (.cons rv .nil)
    have Z' : ZTL a b z TI TO i1 i2 (i + 1) h'' := ⟨st''.1, st''.2.1, st''.2.2.1, st''.2.2.2.1.1, st''.2.2.2.2.1⟩
    refine ⟨.ref T, upd H T (.tup [x', y']), ?_, rfl, ⟨T, x', y', I.hok.fresh hT, rfl, fun zs q => by rw [hx] at q; cases q; exact gx, fun zs q => by rw [hy] at q; cases q; exact gy, rfl⟩, Z', fun c hb => ?_⟩
    · refine I.turnedNew (fp := [z, TI, TO, i1, i2]) (wr := [z, TO, i1, i2]) (fun c hb => hf c (by simp at hb ⊢; rcases hb with r | r | r | r <;> simp [r])) (fun c o hb eo => k'' c o hb (kk' c o hb eo)) hT (by simpa using tup') hv' (by show 2 ≤ sizeLine; decide) fun c hb => ?_
      obtain ⟨o, eo, _⟩ := Z'.tys c (by simp at hb ⊢; rcases hb with r | r | r | r <;> simp [r])
      exact ⟨o, eo⟩
    · obtain ⟨o, eo, _⟩ := st.tys c hb
      rw [upd_ne (Nat.ne_of_lt (Nat.lt_of_lt_of_le (Heap.lt_size eo) hT))]
      exact (hf c hb).1
  done := by
    intro X hP hw hK hc i pins s σ H E I hf st hg
    subst hP hw hK
    obtain ⟨xs, ys, hx, hy, hi⟩ := hg
    obtain ⟨va, ra, pa, _⟩ := I.list (SqL.of hx)
    obtain ⟨vb, rb, pb, _⟩ := I.list (SqL.of hy)
    have nin : ∀ c ys, H c = some (.lst ys) → ∀ d ∈ [z, TI, TO, i1, i2], d ≠ c := fun c ys q d hd e => by
      rw [← e, (hf d hd).1] at q; cases q
    have h0 : X.A.in1.handled = none := I.ok.hd hc
    have W := walks_zipD (A := X.A) (Draws.list (prog := X.prog) (w := X.w) h0 i1 a (nin a xs hx i1 (by simp)).symm va.toArray) (Draws.list (prog := X.prog) (w := X.w) h0 i2 b (nin b ys hy i2 (by simp)).symm vb.toArray) (za_more D (nin a xs hx) (nin b ys hy))
    have hn : min va.toArray.size vb.toArray.size = i := by rw [List.size_toArray, List.size_toArray, ← ra.length, ← rb.length]; exact hi.symm
    refine W.done s _ _ (by rw [hn]; exact ⟨st.1, st.2.1, st.2.2.1, ⟨st.2.2.2.1, pa.isList⟩, ⟨st.2.2.2.2, pb.isList⟩⟩) fun h' tk kk' => ⟨rfl, ?_⟩
    have hf' : ∀ c ∈ [z, TO, i1, i2], FpOk X pins H c := fun c hb => hf c (by simp at hb ⊢; rcases hb with r | r | r | r <;> simp [r])
    exact I.walked hf' kk'
  self := fun A i s Q E st q => wpAny_pyIter_zip st.1 q
end
theorem loop_ZL {a b : Addr} {xs ys : List V} {g : TG} {tb : TS} {D : Ends} {σ : L2.St} {H : Hp} (Pv : Nat → L2.St → Hp → Prop) (h0 : Pv 0 σ H) (hl : ys.length = xs.length) (ha : ∀ i σ H, i ≤ xs.length → Pv i σ H → H a = some (.lst xs) ∧ H b = some (.lst ys))
    (hs : ∀ i x y σ H T, xs[i]? = some x → ys[i]? = some y → Pv i σ H → H T = none → g (.ref T) σ (upd H T (.tup [x, y])) fun σ2 H2 => tb { D with nx := Pv (i + 1), ct := Pv (i + 1), bk := D.nx } σ2 H2) (hd : ∀ σ H, Pv xs.length σ H → D.nx σ H) : LoopR (ItZL a b) g tb D σ H := by
  refine ⟨fun i m σ H => m + i = xs.length ∧ Pv i σ H, ⟨xs.length, rfl, h0⟩, ?_⟩
  rintro i m σ H ⟨hm, p⟩
  obtain ⟨e1, e2⟩ := ha i σ H (by omega) p
  by_cases hi : i < xs.length
  · refine .inr ⟨⟨xs, ys, xs[i], ys[i], e1, e2, by simp [hi], by simp [hl, hi]⟩, Pv (i + 1), fun σ' H' p' => ⟨m - 1, by omega, by omega, p'⟩, fun v H' q => ?_⟩
    obtain ⟨T, x, y, hT, rfl, q1, q2, rfl⟩ := q
    exact hs i x y σ H T (q1 xs e1) (q2 ys e2) p hT
  · have e : i = xs.length := by omega
    subst e
    exact .inl ⟨⟨xs, ys, e1, e2, by omega⟩, hd σ H p⟩
section
variable {X : Cx}
def iZipL (ta : TA) : TI := fun σ H R => ta σ H fun vs H1 => ∃ a b xs ys, vs = [.ref a, .ref b] ∧ H1 a = some (.lst xs) ∧ H1 b = some (.lst ys) ∧ R (ItZL a b) H1
theorem qpi_zipL {a b : Expr} {ta : TA} {p pos tpos : Pos} {elts : List Expr} {kk : Nat} (hg : Gl X "zip") (hm : X.mg "zip" = none) (ha : QA X [a, b] ta) (hs : starEach [a, b] X.env = [(false, eval a X.env), (false, eval b X.env)] := by rfl) (hs2 : starEach [b] X.env = [(false, eval b X.env)] := by rfl) :
    QI X (.Tuple elts kk tpos) (.Call (.Name "zip" p) [a, b] [] pos) (iZipL ta) := by
  refine ⟨fun pins s σ H R I h => ?_⟩
  refine Call_ (ld_blt I hg hm bt_zip (PyProof.Rows.callWith_type1 (thn (ha.h pos pins s σ H _ I h) fun us s1 ⟨vs, H1, I1, r1, q1⟩ => ?_) (by rw [hs, hs2]) (by rw [hs2]; rfl)))
  obtain ⟨c, d, xs, ys, rfl, ec, ed, q⟩ := q1
  obtain ⟨u1, u2, rfl, ru, rv⟩ := vals2 r1
  cases ru
  cases rv
  obtain ⟨va, ra, pa, _⟩ := I1.list (SqL.of ec)
  obtain ⟨vb, rb, pb, _⟩ := I1.list (SqL.of ed)
  refine call_zipLL pa.isList pb.isList fun h' M => ?_
  have I2 : Inv X pins σ H1 { s1 with heap := h' } := I1.kept (t' := s1.toks) M.old
  have D : ZA (s1.heap.objs.size + 4) (s1.heap.objs.size + 2) (s1.heap.objs.size + 3) s1.heap.objs.size (s1.heap.objs.size + 1) [s1.heap.objs.size] [s1.heap.objs.size + 1] := by
    constructor <;> simp <;> omega
  refine wpAny_pyIter_zip M.z ⟨s1.heap.objs.size + 4, _, _, _, H1, rfl, I2, turn_zipLL c d _ _ _ _ _ D, ⟨M.z, M.ti, ⟨_, _, M.to⟩, M.i1, M.i2⟩, fun b hb => ?_, q⟩
  have hb' : s1.heap.objs.size ≤ b := by
    simp only [List.mem_cons, List.not_mem_nil, or_false] at hb
    rcases hb with rfl | rfl | rfl | rfl | rfl <;> first | exact Nat.le_refl _ | exact Nat.le_add_right _ _
  exact I1.fpOk (H' := H1) hb' (I1.hok.fresh hb')
theorem qpe_dget {o i : Expr} {td ty : TE} {pos : Pos} (hu : X.A.units + 1 < cLine) (ho : QE X o td) (hi : QE X i ty) (hs : NoSl i) : QE X (.Subscript o i pos) (tDGet td ty) := ⟨pe_dget hu ho.h hi.h hs⟩
end
end L2
set_option Elab.async false
set_option linter.all false
set_option maxRecDepth 100000
set_option maxHeartbeats 4000000
namespace L2
open PySem PySem.Spec PyProof.Rows
theorem cf_look : ∀ (names : List (Str × NameKind)) (h : Heap) (acc : List (Str × Addr)) (x : Str) (c : Addr), (cellsFrom h.objs.size names acc).lookup x = some c →
    acc.lookup x = some c ∨ ((pushCells h names).IsCell c none ∧ h.objs.size ≤ c ∧ (x, NameKind.cell) ∈ names)
  | [], h, acc, x, c, e => .inl e
  | (n, k) :: r, h, acc, x, c, e => by
    unfold cellsFrom at e
    unfold pushCells
    by_cases hk : (k == NameKind.cell) = true
    · rw [if_pos hk] at e ⊢
      have hk' : k = .cell := by simpa using hk
      have hsz : (h.push { cls := .type "cell", data := .cell none }).objs.size = h.objs.size + 1 := Heap.size_push ..
      rw [← hsz] at e
      rcases cf_look r _ _ x c e with q | ⟨q1, q2, q3⟩
      · rw [List.lookup_cons] at q
        cases hx : x == n with
        | true =>
          rw [hx] at q
          have ex : x = n := by simpa using hx
          cases Option.some.inj q
          refine .inr ⟨⟨_, pushCells_keeps _ _ _ _ (Heap.get?_push_size _ rfl), rfl⟩, Nat.le_refl _, ?_⟩
          rw [ex, hk']
          exact List.mem_cons_self ..
        | false => rw [hx] at q; exact .inl q
      · exact .inr ⟨q1, by omega, List.mem_cons_of_mem _ q3⟩
    · rw [if_neg hk] at e ⊢
      rcases cf_look r h acc x c e with q | ⟨q1, q2, q3⟩
      · exact .inl q
      · exact .inr ⟨q1, q2, List.mem_cons_of_mem _ q3⟩
theorem cf_keep : ∀ (names : List (Str × NameKind)) (n : Nat) (acc : List (Str × Addr)) (x : Str), ((x, NameKind.cell) ∈ names ∨ ∃ c, acc.lookup x = some c) → ∃ c, (cellsFrom n names acc).lookup x = some c
  | [], n, acc, x, h => h.elim (fun q => nomatch q) id
  | (m, k) :: r, n, acc, x, h => by
    unfold cellsFrom
    by_cases hk : (k == NameKind.cell) = true
    · rw [if_pos hk]
      refine cf_keep r _ _ x ?_
      by_cases hx : x = m
      · subst hx
        exact .inr ⟨n, by simp [List.lookup_cons]⟩
      · rcases h with h | ⟨c, h⟩
        · rcases List.mem_cons.mp h with h | h
          · exact absurd (congrArg Prod.fst h) hx
          · exact .inl h
        · refine .inr ⟨c, ?_⟩
          rw [List.lookup_cons, show (x == m) = false by simpa using hx]
          exact h
    · rw [if_neg hk]
      refine cf_keep r n acc x ?_
      rcases h with h | h
      · rcases List.mem_cons.mp h with h | h
        · have : NameKind.cell = k := congrArg Prod.snd h
          rw [← this] at hk
          exact absurd rfl hk
        · exact .inl h
      · exact .inr h
theorem cf_above : ∀ (names : List (Str × NameKind)) (lo n : Nat) (acc : List (Str × Addr)) (x : Str) (c : Addr), lo ≤ n → ((x, NameKind.cell) ∈ names ∨ ∀ c0, acc.lookup x = some c0 → lo ≤ c0) → (cellsFrom n names acc).lookup x = some c → lo ≤ c
  | [], lo, n, acc, x, c, _, h, e => h.elim (fun q => nomatch q) fun q => q c e
  | (m, k) :: r, lo, n, acc, x, c, hl, h, e => by
    unfold cellsFrom at e
    by_cases hk : (k == NameKind.cell) = true
    · rw [if_pos hk] at e
      refine cf_above r lo (n + 1) _ x c (by omega) ?_ e
      by_cases hx : x = m
      · subst hx
        refine .inr fun c0 q => ?_
        simp [List.lookup_cons] at q
        rw [← q]
        exact hl
      · rcases h with h | h
        · rcases List.mem_cons.mp h with h | h
          · exact absurd (congrArg Prod.fst h) hx
          · exact .inl h
        · refine .inr fun c0 q => h c0 ?_
          rw [List.lookup_cons, show (x == m) = false by simpa using hx] at q
          exact q
    · rw [if_neg hk] at e
      refine cf_above r lo n acc x c hl ?_ e
      rcases h with h | h
      · rcases List.mem_cons.mp h with h | h
        · have : NameKind.cell = k := congrArg Prod.snd h
          rw [← this] at hk
          exact absurd rfl hk
        · exact .inl h
      · exact .inr h
theorem cf_inj : ∀ (names : List (Str × NameKind)) (n : Nat) (acc : List (Str × Addr)), (∀ x c, acc.lookup x = some c → c < n) → (∀ x y c, acc.lookup x = some c → acc.lookup y = some c → x = y) →
    ∀ x y c, (cellsFrom n names acc).lookup x = some c → (cellsFrom n names acc).lookup y = some c → x = y
  | [], _, _, _, hi => hi
  | (m, k) :: r, n, acc, hlt, hi => by
    unfold cellsFrom
    by_cases hk : (k == NameKind.cell) = true
    · rw [if_pos hk]
      refine cf_inj r (n + 1) _ (fun x c e => ?_) fun x y c e1 e2 => ?_
      · rw [List.lookup_cons] at e
        cases hx : x == m with
        | true => rw [hx] at e; cases Option.some.inj e; exact Nat.lt_succ_self _
        | false => rw [hx] at e; exact Nat.lt_succ_of_lt (hlt x c e)
      · rw [List.lookup_cons] at e1 e2
        cases hx : x == m with
        | true =>
          rw [hx] at e1
          cases Option.some.inj e1
          cases hy : y == m with
          | true => rw [show x = m by simpa using hx, show y = m by simpa using hy]
          | false => rw [hy] at e2; exact absurd (hlt y _ e2) (Nat.lt_irrefl _)
        | false =>
          rw [hx] at e1
          cases hy : y == m with
          | true => rw [hy] at e2; cases Option.some.inj e2; exact absurd (hlt x _ e1) (Nat.lt_irrefl _)
          | false => rw [hy] at e2; exact hi x y c e1 e2
    · rw [if_neg hk]
      exact cf_inj r n acc hlt hi
theorem newEnv_in {M : Model} {A : Around} {E : Value → Shared → Prop} {s : Shared} {scope : Scope} {globals : Addr} {cl : List (Str × Addr)} {qual : Str} {env : Env} {Q : Env → Shared → Prop}
    (h : Q (newEnv scope s.heap.objs.size globals (cellsFrom (s.heap.objs.size + 1) scope.names cl) qual none .none (some env) builtinsNs) { s with heap := pushCells (s.heap.push { cls := .type "dict", data := .dict #[] }) scope.names }) :
    wpAny M A (newFunctionEnv scope globals cl [] qual none .none (some env)) Q E s := by
  unfold newFunctionEnv
  refine wpAny_bind (wpAny_alloc ?_)
  refine wpAny_bind (wpAny_layCells _ (fun name kind cells => by cases hkc : kind == NameKind.cell <;> simp [hkc]) _ _ _ _ ?_)
  rw [show ({ s with heap := s.heap.push { cls := .type (if (some env).isSome then "dict" else "frame"), data := .dict #[] } } : Shared).heap.objs.size = s.heap.objs.size + 1 from Heap.size_push ..]
  refine wpAny_bind ?_
  rw [List.forIn_nil]
  exact wpAny_pure (wpAny_pure h)
end L2
set_option Elab.async false
set_option linter.all false
set_option maxRecDepth 100000
set_option maxHeartbeats 4000000
namespace L2
open PySem PySem.Spec PyProof.Rows
abbrev Cx.compC (X : Cx) (scope : Scope) (C : Addr) (Nc : List Str) (s3 : Shared) (H3 : Hp) (fp : List Addr) : Cx :=
  { X with N := Nc, s₀ := s3, H₀ := H3, env := compEnvC scope (cellsFrom (C + 1) scope.names (clOf X.env scope.names [])) C X.env, outer := X.stack, stack := X.stack, ex := fp, fn := fun x => scope.names.lookup x == some .cell, pn := [], xe := fun _ _ => False }
structure CompOkC (X : Cx) (scope : Scope) (Nc : List Str) (js : List (Option Nat)) : Prop where
  kind : scope.kind = .function
  loc : ∀ y ∈ scope.names, y.2 = .local → scope.names.lookup y.1 = some .local
  free : ∀ y ∈ scope.names, y.2 = .free → X.env.kindOf y.1 = some .cell ∨ X.env.kindOf y.1 = some .free
  len : js.length = Nc.length
  nol : ∀ x, (x, NameKind.free) ∈ scope.names → scope.names.lookup x ≠ some .local
  see : ∀ (i j : Nat) (x : Str), js[i]? = some (some j) → Nc[i]? = some x → X.N[j]? = some x ∧ (x, NameKind.free) ∈ scope.names
  noc : ∀ x, (x, NameKind.free) ∈ scope.names → (x, NameKind.cell) ∉ scope.names
section
variable {X : Cx} {pins : List (Addr × Obj)} {σ : L2.St} {H : Hp} {s : Shared} {scope : Scope} {Nc : List Str} {js : List (Option Nat)} {fp : List Addr}
theorem CompOkC.has (c : CompOkC X scope Nc js) (I : Inv X pins σ H s) : ∀ y ∈ scope.names, y.2 = .free → ∃ a, X.env.cells.lookup y.1 = some a := fun y hy hf => I.ok.has _ (c.free y hy hf)
theorem relabel_kindC {env : Env} {x : Str} : ∀ {l : List (Str × NameKind)},
    ((l.map fun (n, k) => if (k == NameKind.free && env.scope.kind == .function && env.kindOf n == some .cell) then (n, NameKind.cell) else (n, k)).lookup x = some .cell ∨
     (l.map fun (n, k) => if (k == NameKind.free && env.scope.kind == .function && env.kindOf n == some .cell) then (n, NameKind.cell) else (n, k)).lookup x = some .free) → (x, NameKind.free) ∈ l ∨ (x, NameKind.cell) ∈ l
  | [], h => by simp at h
  | (n, k) :: r, h => by
    rw [List.map_cons] at h
    by_cases hx : x = n
    · subst hx
      by_cases hcond : (k == NameKind.free && env.scope.kind == .function && env.kindOf x == some .cell) = true
      · rw [Bool.and_eq_true, Bool.and_eq_true] at hcond
        have hk : k = .free := by simpa using hcond.1.1
        subst hk
        exact .inl (List.mem_cons_self ..)
      · simp only [hcond, Bool.false_eq_true, if_false, List.lookup_cons, beq_self_eq_true] at h
        rcases h with h | h
        · cases Option.some.inj h
          exact .inr (List.mem_cons_self ..)
        · cases Option.some.inj h
          exact .inl (List.mem_cons_self ..)
    · have hxn : (x == n) = false := by simpa using hx
      have ih : (x, NameKind.free) ∈ r ∨ (x, NameKind.cell) ∈ r := by
        refine relabel_kindC (env := env) ?_
        by_cases hcond : (k == NameKind.free && env.scope.kind == .function && env.kindOf n == some .cell) = true
        · simpa only [hcond, if_true, List.lookup_cons, hxn] using h
        · simpa only [hcond, Bool.false_eq_true, if_false, List.lookup_cons, hxn] using h
      exact ih.imp (List.mem_cons_of_mem _) (List.mem_cons_of_mem _)
theorem CompOkC.sub (c : CompOkC X scope Nc js) (I : Inv X pins σ H s) (x : Str) (a : Addr) (e : (cellsFrom (s.heap.objs.size + 1) scope.names (clOf X.env scope.names [])).lookup x = some a) :
    (X.env.cells.lookup x = some a ∧ a < s.heap.objs.size) ∨ ((pushCells (s.heap.push { cls := .type "dict", data := .dict #[] }) scope.names).IsCell a none ∧ s.heap.objs.size + 1 ≤ a ∧ (x, NameKind.cell) ∈ scope.names) := by
  have hsz : (s.heap.push { cls := .type "dict", data := .dict #[] }).objs.size = s.heap.objs.size + 1 := Heap.size_push ..
  rw [← hsz] at e ⊢
  rcases cf_look _ _ _ x a e with q | q
  · have q' := clOf_sub scope.names [] x a (c.has I) (fun _ _ z => by simp at z) q
    obtain ⟨v, hc⟩ := I.cell x a q'
    exact .inl ⟨q', hc.lt⟩
  · exact .inr q
theorem comp_okC (c : CompOkC X scope Nc js) (I : Inv X pins σ H s) (hf : ∀ b ∈ fp, FpOk X pins H b) (ho : ∀ b ∈ fp, ∃ o, s.heap.get? b = some o) : (X.compC scope s.heap.objs.size Nc s H fp).Ok := by
  have hs := c.has I
  have sub0 : ∀ x a, (clOf X.env scope.names []).lookup x = some a → X.env.cells.lookup x = some a := fun x a => clOf_sub _ _ x a hs (fun _ _ z => nomatch z)
  refine ⟨I.ok.mod, c.kind, I.ok.glob, I.ok.blt, Nat.le_refl _, ?_, fun x h => ?_, fun x a h e => ?_, I.ok.hd, I.ok.frames, .inl rfl, fun b hb => ⟨?_, fun x a e => ?_⟩, I.bs,
    Nat.le_trans I.ok.bsz I.sz, fun b o e hb => ?_, fun b hb hb' => ?_, I.stack, I.stkFree⟩
  · refine cf_inj _ _ _ (fun x a e => ?_) fun x y a e1 e2 => I.ok.inj x y a (sub0 x a e1) (sub0 y a e2)
    obtain ⟨v, hc⟩ := I.cell x a (sub0 x a e)
    exact Nat.lt_succ_of_lt hc.lt
  · refine cf_keep _ _ _ x ?_
    rcases relabel_kindC (env := X.env) h with q | q
    · exact .inr (clOf_has _ _ x q)
    · exact .inl q
  · have hm : (x, NameKind.cell) ∈ scope.names := mem_of_lookup (by simpa using h)
    exact Nat.le_of_succ_le (cf_above _ (s.heap.objs.size + 1) _ _ x a (Nat.le_refl _) (.inl hm) e)
  · obtain ⟨o, e⟩ := ho b hb
    exact Nat.ne_of_lt (Heap.lt_size e)
  · rcases c.sub I x a e with ⟨q, _⟩ | ⟨_, q, _⟩
    · exact (hf b hb).2.2.2.2.1 x a q
    · obtain ⟨o, e'⟩ := ho b hb
      have := Heap.lt_size e'
      exact fun z => absurd (Nat.lt_of_lt_of_le (Nat.lt_of_lt_of_le this (Nat.le_succ _)) q) (by rw [z]; exact Nat.lt_irrefl _)
  · rcases (hf b hb).2.2.2.1 with z | z
    · exact I.ok.noex b o e z
    · exact absurd (Nat.lt_of_lt_of_le (Heap.lt_size (I.ok.bs b o e).1) z) (Nat.lt_irrefl _)
  · rcases List.mem_cons.mp (I.stkSub b hb') with z | z
    · exact (hf b hb).2.1 z
    · exact (hf b hb).2.2.1 z
theorem comp_invC (c : CompOkC X scope Nc js) (I : Inv X pins σ H s) (hf : ∀ b ∈ fp, FpOk X pins H b) (ho : ∀ b ∈ fp, ∃ o, s.heap.get? b = some o) :
    Inv (X.compC scope s.heap.objs.size Nc s H fp) [] (compSt js σ) H { s with heap := pushCells (s.heap.push { cls := .type "dict", data := .dict #[] }) scope.names } := by
  have hk : ∀ b o, s.heap.get? b = some o → (pushCells (s.heap.push { cls := .type "dict", data := .dict #[] }) scope.names).get? b = some o := fun b o e => pushCells_keeps _ _ b o (Heap.get?_push_of_some _ e)
  have hn := (Heap.Ns.new s.heap (.type "dict")).keeps (pushCells_keeps scope.names _)
  have hs := c.has I
  refine ⟨comp_okC c I hf ho, rfl, I.bare, Un.kept hk, ⟨_, hn, fun i x v e1 e2 e3 => ?_⟩, fun x a e => ?_, I.hok.fresh (Nat.le_refl _), fun x a e => ?_, (fun p hp => nomatch hp), I.hok.kept hk, by simp only [compSt, List.length_map]; exact c.len⟩
  · have e2' : (compSt js σ)[i]? = some (some v) := e2
    unfold compSt at e2'
    rw [List.getElem?_map] at e2'
    cases ej : js[i]? with
    | none => rw [ej] at e2'; cases e2'
    | some o =>
      rw [ej] at e2'
      cases o with
      | none => cases e2'
      | some j =>
        have e4 : (σ[j]?).getD none = some v := Option.some.inj e2'
        have e5 : σ[j]? = some (some v) := by
          cases q : σ[j]? with
          | none => rw [q] at e4; cases e4
          | some w => rw [q] at e4; exact congrArg some e4
        obtain ⟨n1, n2⟩ := c.see i j x ej e1
        have hkd := c.free _ n2 rfl
        obtain ⟨a, ha⟩ := cf_keep scope.names (s.heap.objs.size + 1) _ x (.inr (clOf_has (env := X.env) scope.names [] x n2))
        have hax : X.env.cells.lookup x = some a := by
          rcases c.sub I x a ha with ⟨q, _⟩ | ⟨_, _, q⟩
          · exact q
          · exact absurd q (c.noc x n2)
        obtain ⟨m0, _, hl⟩ := I.loc
        obtain ⟨u, r, l⟩ := hl j x v n1 e5 (by
          rcases hkd with z | z
          · exact .inr (.inl z)
          · exact .inr (.inr z))
        refine ⟨u, r, ?_⟩
        rcases l with ⟨k, _⟩ | ⟨_, a', ha', hcell⟩
        · rcases hkd with z | z
          · rw [z] at k; cases k
          · rw [z] at k; cases k
        · have : a' = a := Option.some.inj (ha'.symm.trans hax)
          subst this
          refine .inr ⟨?_, a', ha, ?_⟩
          · rcases e3 with z | z | z
            · exfalso
              have q : (relabel scope X.env).names.lookup x = some .local := z
              exact c.nol x n2 (relabel_loc q)
            · exact .inl z
            · exact .inr z
          · obtain ⟨o, q, d⟩ := hcell
            exact ⟨o, hk _ o q, d⟩
  · rcases c.sub I x a e with ⟨q, _⟩ | ⟨q, _, _⟩
    · obtain ⟨v, o, q, d⟩ := I.cell x a q
      exact ⟨v, o, hk _ o q, d⟩
    · exact ⟨none, q⟩
  · rcases c.sub I x a e with ⟨q, _⟩ | ⟨_, q, _⟩
    · exact I.freeC x a q
    · exact I.hok.fresh (Nat.le_of_succ_le q)
theorem comp_afterC (I : Inv X pins σ H s) (hf : ∀ b ∈ fp, FpOk X pins H b) {σ' : L2.St} {H' : Hp} {s' : Shared} {h'' : Heap} (J : Inv (X.compC scope s.heap.objs.size Nc s H fp) [] σ' H' s') (hs : Heap.SameBut s.heap.objs.size s'.heap h'') :
    Inv X pins σ H' { s' with heap := h'' } := by
  have ne : ∀ b o, s.heap.get? b = some o → b ≠ s.heap.objs.size := fun b o e => Nat.ne_of_lt (Heap.lt_size e)
  have u : Un (frs X.stack) fp H H' s.heap s'.heap := J.base
  refine I.call' (s' := { s' with heap := h'' }) (ch := fp) J.os ⟨fun b o e n hb hx => ?_, fun b o e n hb hx => ?_, u.free, fun b o e hx => ?_, u.tups, u.frzs, u.tbls⟩ (fun b o e => ?_) J.bare fun b hb => ?_
  · exact (hs.2 b (ne b o e)).trans (u.keep b o e n hb hx)
  · obtain ⟨sl, q⟩ := u.slot b o e n hb hx
    exact ⟨sl, (hs.2 b (ne b o e)).trans q⟩
  · obtain ⟨o', q⟩ := u.there b o e hx
    exact ⟨o', (hs.2 b (ne b o e)).trans q⟩
  · have hC : H' s.heap.objs.size = none := J.free
    refine (J.hok b o e).stay (fun d v hd q => (hs.2 d ?_).trans q) (fun _ q => q) fun _ _ q => q
    rintro rfl
    rcases hd with z | z
    · rw [← z, hC] at e; cases e
    · rw [hC] at z; cases z
  · obtain ⟨_, f1, _, f3, f4, f5⟩ := hf b hb
    exact ⟨f3, f1, f4, f5⟩
end
section
variable {X : Cx} {scope : Scope} {Nc : List Str} {js : List (Option Nat)} {elt tg iter : Expr} {pos : Pos} {wi : TI} {g : TG} {te : TE}
theorem comp_coreC (hc : X.calm = true) (c : CompOkC X scope Nc js) (hi : PI X tg iter wi) (hg : ∀ C s3 H3 fp, PG (X.compC scope C Nc s3 H3 fp) tg g) (he : ∀ C s3 H3 fp, PE (X.compC scope C Nc s3 H3 fp) elt te)
    {pins : List (Addr × Obj)} {s : Shared} {σ : L2.St} {H : Hp} (I : Inv X pins σ H s) {RR : Value → Addr → Result → Shared → Prop} {NX : Addr → Hp → Prop}
    (h : wi σ H fun J H1 => ∀ D, H1 D = none → LoopR J g (tEmit D te) { nx := fun _ H' => NX D H', rt := fun _ _ => False } (compSt js σ) (upd H1 D (.lst [])))
    (fin : ∀ D H3 s3 fp σ5 H5 s6, Inv X pins σ H3 s3 → (∀ b ∈ fp, FpOk X pins H3 b) → Inv (X.compC scope s3.heap.objs.size Nc s3 H3 fp) [] σ5 H5 s6 → NX D H5 → RR (.ref D) s3.heap.objs.size (.ok .next) s6) :
    wpAny (model X.prog X.w) X.A (eval iter X.env) (fun x s₁ => wpAny (model X.prog X.w) X.A (pyIter x) (fun it s₂ => wpAny (model X.prog X.w) X.A (newList []) (fun acc s₃ =>
      wpAny (model X.prog X.w) X.A (newFunctionEnv scope X.env.globals (clOf X.env scope.names []) [] X.env.qual none .none (some X.env)) (fun cenv s₄ =>
        codeAny (model X.prog X.w) X.A (.compStart (.ListComp elt [⟨tg, iter, [], 0⟩] scope pos) 0 it acc { cenv with scope := relabel scope X.env }) (RR acc cenv.locals) s₄) X.xe s₃) X.xe s₂) X.xe s₁) X.xe s := by
  refine thn (hi pins s σ H _ I h) fun v s1 h1 => thn h1 fun itv s2 h2 => ?_
  obtain ⟨it, fp, tn, J, H2, rfl, I2, T, st2, f2, h2⟩ := h2
  -- the list
  refine wpAny_newObj_type ?_ (by show 0 ≤ sizeLine; decide)
  have hD : H2 s2.heap.objs.size = none := I2.hok.fresh (Nat.le_refl _)
  have I3 : Inv X pins σ (upd H2 s2.heap.objs.size (.lst [])) { s2 with heap := s2.heap.push { cls := .type "list", data := .seq ([] : List Value).toArray } } :=
    I2.laid (t' := s2.toks) (fun b u e => Heap.get?_push_of_some _ e) (Nat.le_refl _) ⟨by show 0 ≤ sizeLine; decide, [], 0, .nil, Heap.get?_push_size _ rfl⟩
  have f3 : ∀ b ∈ fp, FpOk X pins (upd H2 s2.heap.objs.size (.lst [])) b := fun b hb => by
    obtain ⟨q0, q⟩ := f2 b hb
    obtain ⟨o, e, _⟩ := T.obj _ _ st2 b hb
    exact ⟨by rw [upd_ne (Nat.ne_of_lt (Heap.lt_size e))]; exact q0, q⟩
  have o3 : ∀ b ∈ fp, ∃ o, (s2.heap.push { cls := .type "list", data := .seq ([] : List Value).toArray }).get? b = some o := fun b hb => by
    obtain ⟨o, e, _⟩ := T.obj _ _ st2 b hb
    exact ⟨o, Heap.get?_push_of_some _ e⟩
  have st3 : tn 0 (s2.heap.push { cls := .type "list", data := .seq ([] : List Value).toArray }) := T.keep _ _ _ st2 fun b _ o e => Heap.get?_push_of_some _ e
  generalize hh3 : s2.heap.push { cls := .type "list", data := .seq ([] : List Value).toArray } = h3 at I3 o3 st3 ⊢
  refine newEnv_in ?_
  have k4 : ∀ b o, h3.get? b = some o → (pushCells (h3.push { cls := .type "dict", data := .dict #[] }) scope.names).get? b = some o := fun b o e => pushCells_keeps _ _ b o (Heap.get?_push_of_some _ e)
  have I4 := comp_invC c I3 f3 o3
  generalize hh4 : pushCells (h3.push { cls := .type "dict", data := .dict #[] }) scope.names = h4 at I4 k4
  have st4 : tn 0 h4 := T.keep _ _ _ st3 fun b _ o e => k4 b o e
  obtain ⟨W, ⟨m0, w0⟩, turn⟩ := h2 _ hD
  let s3 : Shared := { s2 with heap := h3 }
  let Y : Cx := X.compC scope h3.objs.size Nc s3 (upd H2 s2.heap.objs.size (.lst [])) fp
  have stat : ∀ {H' : Hp}, (∀ b ∈ fp, H' b = none) → ∀ b ∈ fp, FpOk Y [] H' b := fun hn b hb => ⟨hn b hb, (I4.ok.exf b hb).1, I4.ok.exfs b hb, .inl hb, (I4.ok.exf b hb).2, (fun p hp => nomatch hp)⟩
  have loop : codeAny (model X.prog X.w) X.A (.compLoop (.ListComp elt [⟨tg, iter, [], 0⟩] scope pos) 0 (.ref it) (.ref s2.heap.objs.size) Y.env)
      (RR (.ref s2.heap.objs.size) h3.objs.size) { s2 with heap := h4 } := by
    refine codeAny_loop rfl (fun n s' => ∃ i σ' H', Inv Y [] σ' H' s' ∧ tn i s'.heap ∧ (∀ b ∈ fp, H' b = none) ∧ W i n σ' H') (fun n s5 hI => ?_) m0 ⟨0, _, _, I4, st4, fun b hb => (f3 b hb).1, w0⟩
    obtain ⟨i, σ5, H5, I5, st5, fr5, w5⟩ := hI
    show wpAny _ X.A ((compTurn (.ListComp elt [⟨tg, iter, [], 0⟩] scope pos) 0 (.ref it) (.ref s2.heap.objs.size) Y.env).onRaise (fun x => do noteFrame x Y.env; theTreesLotGoes x)) _ _ s5
    refine wpAny_noted (wpAny_mono (E := fun _ _ => False) ?_ (fun _ _ q => q) fun _ _ z => z.elim)
    rw [compTurn_list1]
    refine wpAny_bind (wpAny_standAt (wpAny_bind ?_))
    rcases turn i n σ5 H5 w5 with ⟨stop, qn⟩ | ⟨go, N, hN, step⟩
    · refine thn (T.done Y rfl rfl rfl hc i [] s5 σ5 H5 _ I5 (stat fr5) st5 stop) fun r s6 ⟨hr, I6⟩ => ?_
      subst hr
      refine wpAny_pure ?_
      exact fin _ _ s3 fp σ5 H5 s6 I3 f3 I6 qn
    · refine thn (T.item Y rfl rfl rfl hc i [] s5 σ5 H5 _ I5 (stat fr5) st5 go) fun r s6 ⟨u, hr, h6⟩ => ?_
      subst hr
      refine wpAny_bind (thn h6 fun _ s7 ⟨x, H7, I7, r7, y7, st7, fr7⟩ => ?_)
      have I7' := I7.pinned (stat fr7) (T.obj _ _ st7)
      refine wpAny_bind (thn (hg _ _ _ _ _ s7 σ5 H7 x u _ I7' r7 (step x H7 y7)) fun _ s8 ⟨σ8, H8, I8, q8⟩ => ?_)
      refine wpAny_bind (wpAny_bind (thn (he _ _ _ _ _ s8 σ8 H8 _ I8 q8) fun v s9 ⟨y, H9, I9, r9, ys, e9, z9, n9⟩ => ?_))
      refine wpAny_bind (thn (mt_append (X := Y) _ s9 σ8 H9 (.ref s2.heap.objs.size) [y] (.ref s2.heap.objs.size) [v] (fun w H' => N σ8 H') I9 rfl (.cons r9 .nil) ⟨_, ys, y, rfl, rfl, of_lstOf e9, z9, n9⟩) fun w s10 ⟨_, H10, I10, _, n10⟩ => ?_)
      refine wpAny_pure (wpAny_pure ⟨rfl, ?_⟩)
      obtain ⟨m', hm, w10⟩ := hN σ8 H10 n10
      refine ⟨m', hm, i + 1, σ8, H10, I10.unpinned, T.keep _ _ _ st7 fun b hb o e => (I10.pin (b, o) (List.mem_append_right _ (List.mem_append_right _ (mem_pinsAt hb e)))).1, fun b hb => ?_, w10⟩
      obtain ⟨o, e, d⟩ := T.obj _ _ st7 b hb
      exact (I10.pin (b, o) (List.mem_append_right _ (List.mem_append_right _ (mem_pinsAt hb e)))).2.1
  exact codeAny_compStart_list loop (T.self _ 0 _ _ _ st4 loop)
theorem ps_setcC {i : Nat} {y : Str} {py spos : Pos} (hN : X.N.Nodup) (hiN : X.N[i]? = some y) (hy : Loc X.env.scope y) (hc : X.calm = true) (c : CompOkC X scope Nc js) (hi : PI X tg iter wi) (hg : ∀ C s3 H3 fp, PG (X.compC scope C Nc s3 H3 fp) tg g)
    (he : ∀ C s3 H3 fp, PE (X.compC scope C Nc s3 H3 fp) elt te) (hsw : swapsWith (.ListComp elt [⟨tg, iter, [], 0⟩] scope pos) (some (.Name y py)) spos.line X.env = pure true := by rfl)
    (hs : ∀ x, foldedSetIterable iter X.env x = pure x := by intro _; rfl) (hf : X.fn y = true ∨ X.env.scope.names.lookup y = some .local := by first | exact .inl rfl | exact .inr rfl | assumption) :
    PS X (.Assign [.Name y py] (.ListComp elt [⟨tg, iter, [], 0⟩] scope pos) spos) (tAsg (tComp wi g js te) (gName i)) := by
  intro pins s σ H D I h
  rw [exec_Assign_Name_used _ _ _ _ hsw]
  refine wpAny_bind (wpAny_standAt (wpAny_bind ?_))
  show wpAny _ X.A (do let _ ← comprehension (.ListComp elt [⟨tg, iter, [], 0⟩] scope pos) scope X.env _ (newList []) false (eval iter X.env) (some (assign (.Name y py) X.env))) _ _ s
  refine wpAny_bind (wpAny_mono (wpAny_comprehension_free (use := some (assign (.Name y py) X.env)) (g := ⟨tg, iter, [], 0⟩) (gs := []) (Q := fun _ s' => SP X pins D .next s') rfl hs (closure_of (c.has I)) c.kind c.loc
    (comp_coreC (RR := fun acc C => compPost (model X.prog X.w) X.A X.xe (some (assign (.Name y py) X.env)) (fun _ s' => SP X pins D .next s') acc C) (NX := fun Da H' => D.nx (σ.set i (some (.ref Da))) H') hc c hi hg he I h fun Da H3 s3 fp σ5 H5 s6 I3 f3 I6 qn => ?_))
    (fun _ s' hq => wpAny_pure (wpAny_pure hq)) fun _ _ e => e)
  obtain ⟨m, hn, _⟩ := id I6.loc
  have I7 : Inv X pins σ H5 s6 := comp_afterC I3 f3 I6 (.refl ..)
  have hC : H5 s3.heap.objs.size = none := I6.free
  have nL : s3.heap.objs.size ≠ X.env.locals := Nat.ne_of_gt I3.lt
  have nc : ∀ x a, X.env.cells.lookup x = some a → a ≠ s3.heap.objs.size := fun x a e => by
    obtain ⟨v, q⟩ := I3.cell x a e
    exact Nat.ne_of_lt q.lt
  have np : ∀ p ∈ X.pn ++ pins, p.1 ≠ s3.heap.objs.size := fun p hp => Nat.ne_of_lt (Heap.lt_size (I3.pin p hp).1)
  show wpAny _ _ (assign (.Name y py) X.env (.ref Da)) _ _ _
  refine wpAny_assign_Name (store_ok2 (v := .ref Da) I7 hN hiN hy rfl (fun s8 I8 hb => ?_) hf)
  obtain ⟨a, hs8, ha⟩ := hb
  have nCa : s3.heap.objs.size ≠ a := by
    rcases ha with z | z
    · rw [z]; exact nL
    · exact (nc y a z).symm
  refine ⟨m, hn.sameBut hs8 nCa, fun h9 hs9 => ?_⟩
  exact ⟨_, H5, I8.turned (t' := s8.toks) (fun b o hb e => (hs9.2 b hb).trans e) hC nL (.inr (Nat.le_trans I3.sz (Nat.le_refl _))) nc np, qn⟩
end
end L2
set_option Elab.async false
set_option linter.all false
set_option maxRecDepth 100000
set_option maxHeartbeats 4000000
namespace L2
open PySem PySem.Spec PyProof.Rows
section
variable {X : Cx} {scope : Scope} {Nc : List Str} {js : List (Option Nat)} {elt tg iter : Expr} {pos : Pos} {wi : TI} {g : TG} {te : TE}
theorem qps_setcC {i : Nat} {y : Str} {py spos : Pos} (hN : X.N.Nodup) (hiN : X.N[i]? = some y) (hy : Loc X.env.scope y) (hc : X.calm = true) (c : CompOkC X scope Nc js) (hi : QI X tg iter wi) (hg : ∀ C s3 H3 fp, QG (X.compC scope C Nc s3 H3 fp) tg g)
    (he : ∀ C s3 H3 fp, QE (X.compC scope C Nc s3 H3 fp) elt te) (hsw : swapsWith (.ListComp elt [⟨tg, iter, [], 0⟩] scope pos) (some (.Name y py)) spos.line X.env = pure true := by rfl)
    (hs : ∀ x, foldedSetIterable iter X.env x = pure x := by intro _; rfl) (hf : X.fn y = true ∨ X.env.scope.names.lookup y = some .local := by first | exact .inl rfl | exact .inr rfl | assumption) :
    QS X (.Assign [.Name y py] (.ListComp elt [⟨tg, iter, [], 0⟩] scope pos) spos) (tAsg (tComp wi g js te) (gName i)) := ⟨ps_setcC hN hiN hy hc c hi.h (fun C s H f => (hg C s H f).h) (fun C s H f => (he C s H f).h) hsw hs hf⟩
def compChkC (sc : Scope) (N : List Str) (scope : Scope) (Nc : List Str) (js : List (Option Nat)) : Bool :=
  (scope.kind == .function) && scope.names.all (fun y => !(y.2 == .local) || scope.names.lookup y.1 == some .local) &&
  scope.names.all (fun y => !(y.2 == .free) || ((sc.names.lookup y.1 == some .cell || sc.names.lookup y.1 == some .free) && !(scope.names.lookup y.1 == some .local) && !(scope.names.any fun z => z.1 == y.1 && z.2 == .cell))) && (js.length == Nc.length) &&
  (List.range js.length).all (fun i => match js[i]? with
    | some (some j) => (N[j]? == Nc[i]?) && (match Nc[i]? with | some x => scope.names.any (fun y => y.1 == x && y.2 == .free) | none => true)
    | _ => true)
theorem compOkC_of {sc scope : Scope} {N Nc : List Str} {js : List (Option Nat)} (hd : compChkC sc N scope Nc js = true) (hsc : X.env.scope = sc := by rfl) (hN : X.N = N := by rfl) : CompOkC X scope Nc js := by
  simp only [compChkC, Bool.and_eq_true, List.all_eq_true, Bool.or_eq_true, Bool.not_eq_true', beq_iff_eq, List.mem_range] at hd
  obtain ⟨⟨⟨⟨h1, h3⟩, h4⟩, h5⟩, h6⟩ := hd
  have kk : ∀ x, X.env.kindOf x = sc.names.lookup x := fun x => by rw [← hsc]; rfl
  refine ⟨h1, fun y hy e => ?_, fun y hy e => ?_, h5, fun x hx => ?_, fun i j x e1 e2 => ?_, fun x hx => ?_⟩
  · rcases h3 y hy with q | q
    · rw [e] at q; cases q
    · exact q
  · rcases h4 y hy with q | q
    · rw [e] at q; cases q
    · rw [kk]
      exact q.1.1
  · rcases h4 _ hx with q | q
    · cases q
    · intro z
      have q2 := q.1.2
      rw [z] at q2
      cases q2
  · have hi : i < js.length := (List.getElem?_eq_some_iff.mp e1).1
    have q := h6 i hi
    rw [e1, e2] at q
    simp only [Bool.and_eq_true, beq_iff_eq, List.any_eq_true] at q
    refine ⟨by rw [hN]; exact q.1, ?_⟩
    obtain ⟨y, hy, hy1, hy2⟩ := q.2
    obtain ⟨a, b⟩ := y
    simp only at hy1 hy2
    subst hy1 hy2
    exact hy
  · rcases h4 _ hx with q | q
    · cases q
    · intro z
      have q2 := q.2
      rw [List.any_eq_false] at q2
      exact q2 _ z (by simp)
def relabel0 (scope sc : Scope) : Scope := { scope with names := scope.names.map fun (n, k) => if (k == .free && sc.kind == .function && sc.names.lookup n == some .cell) then (n, .cell) else (n, k) }
end
end L2
set_option Elab.async false
set_option linter.all false
set_option maxRecDepth 100000
set_option maxHeartbeats 4000000
namespace L2
open PySem PySem.Spec PyProof.Rows
theorem layNew_led (t : SetTable) (es : Array (Int × Value)) (h : Int) (x : Value) : (layNew t es h x).2.1.led = t.led := by
  unfold layNew
  cases t.freeSlot h with
  | none => rfl
  | some p =>
    show ((t.put p.1).1.orStandIn _).led = t.led
    unfold SetTable.orStandIn
    split <;> rfl
theorem layNew_pl (t : SetTable) (es : Array (Int × Value)) (h : Int) (x : Value) (hp : t.plain = false) : (layNew t es h x).2.1.plain = false := by
  unfold layNew
  cases t.freeSlot h with
  | none => rfl
  | some p =>
    show ((t.put p.1).1.orStandIn _).plain = false
    unfold SetTable.orStandIn
    split
    · exact hp
    · rfl
theorem laid_led {m f mv : Nat} {L p : Bool} {hs : Array Int} {r : SetTable × Array Nat} (e : SetTable.laid m f mv L p hs = some r) : r.1.led = L ∧ r.1.plain = p := by
  unfold SetTable.laid at e
  cases h : SetTable.layClean m hs with
  | none => rw [h] at e; cases e
  | some o => rw [h] at e; cases e; exact ⟨rfl, rfl⟩
theorem relay_led (t : SetTable) (es : Array (Int × Value)) (k : Nat) : (relayAll t es k).2.1.led = t.led := by
  unfold relayAll
  cases h : t.relaid (es.map (·.1)) k with
  | none => rfl
  | some r =>
    dsimp only
    split
    · exact (laid_led h).1
    · rfl
theorem relay_pl (t : SetTable) (es : Array (Int × Value)) (k : Nat) (hp : t.plain = false) : (relayAll t es k).2.1.plain = false := by
  unfold relayAll
  cases h : t.relaid (es.map (·.1)) k with
  | none => rfl
  | some r =>
    dsimp only
    split
    · rw [(laid_led h).2]; exact hp
    · rfl
def keyE (e : Int × Value) : Str := match e.2 with
  | .str k _ => k
  | _ => ⟨#[]⟩
section
variable {prog : Program} {w : World} {A : Around} {E : Value → Shared → Prop} {s : Shared}
structure SX (prog : Program) (w : World) (h : Heap) (a : Addr) (L : Bool) (ks : List Str) (o : Obj) (es : Array (Int × Value)) (ep : Nat) (t : SetTable) : Prop where
  at_ : h.get? a = some o
  ex : o.ExactSet
  dt : o.data = .set es ep t
  el : ElemsOf (strKind prog w) es.toList
  key : (es.toList.map keyE).Perm ks
  nd : ks.Nodup
  sz : es.size < scanBound
  fits : t.fits es.size = true
  led : t.led = L
  pl : es.size = 0 ∨ t.plain = false
def SXO (prog : Program) (w : World) (h : Heap) (a : Addr) (L : Bool) (ks : List Str) : Prop := ∃ o es ep t, SX prog w h a L ks o es ep t
theorem SX.to {h h' : Heap} {a : Addr} {L : Bool} {ks : List Str} {o : Obj} {es : Array (Int × Value)} {ep : Nat} {t : SetTable} (x : SX prog w h a L ks o es ep t) (e : h'.get? a = some o) : SX prog w h' a L ks o es ep t :=
  ⟨e, x.ex, x.dt, x.el, x.key, x.nd, x.sz, x.fits, x.led, x.pl⟩
theorem keyE_of {e : Int × Value} {k : Str} (h : Value.isStrOf k e.2 = true) : keyE e = k := by
  obtain ⟨t, e2⟩ := Value.isStrOf_shape h
  unfold keyE
  rw [e2]
theorem SX.mem {h : Heap} {a : Addr} {L : Bool} {ks : List Str} {o : Obj} {es : Array (Int × Value)} {ep : Nat} {t : SetTable} (x : SX prog w h a L ks o es ep t) (k : Str) : k ∈ ks ↔ ∃ e ∈ es.toList, Value.isStrOf k e.2 = true := by
  rw [← x.key.mem_iff, List.mem_map]
  constructor
  · rintro ⟨e, he, rfl⟩
    obtain ⟨⟨k', hk, _⟩, _⟩ := x.el e he
    have hk' : Value.isStrOf k' e.2 = true := hk
    exact ⟨e, he, by rw [keyE_of hk']; exact hk'⟩
  · rintro ⟨e, he, hk⟩
    exact ⟨e, he, keyE_of hk⟩
theorem SX.len {h : Heap} {a : Addr} {L : Bool} {ks : List Str} {o : Obj} {es : Array (Int × Value)} {ep : Nat} {t : SetTable} (x : SX prog w h a L ks o es ep t) : es.size = ks.length := by
  rw [← x.key.length_eq, List.length_map, Array.length_toList]
theorem SX.store {h : Heap} {a : Addr} {L : Bool} {ks ks' : List Str} {o : Obj} {es es' : Array (Int × Value)} {ep : Nat} {t t' : SetTable} (x : SX prog w h a L ks o es ep t) (el : ElemsOf (strKind prog w) es'.toList)
    (key : (es'.toList.map keyE).Perm ks') (nd : ks'.Nodup) (sz : es'.size < scanBound) (fits : t'.fits es'.size = true) (led : t'.led = L) (pl : t'.plain = false) :
    SX prog w (h.update a (Obj.putSet es' t')) a L ks' { o with data := .set es' (ep + 1) t' } es' (ep + 1) t' := by
  refine ⟨?_, x.ex, rfl, el, key, nd, sz, fits, led, .inr pl⟩
  have e := Heap.get?_update_self (Obj.putSet es' t') x.at_ (by rw [putSet_of es' t' x.dt]; rfl)
  rwa [putSet_of es' t' x.dt] at e
theorem put_text {g : Bool → Sem Unit} (hg : ∀ (b : Bool) (s1 : Shared) (Q1 : Unit → Shared → Prop), Q1 () s1 → wpAny (model prog w) A (g b) Q1 E s1) {a : Addr} {L : Bool} {ks ks' : List Str} {o : Obj} {es es1 : Array (Int × Value)} {ep : Nat} {t t2 : SetTable}
    (x : SX prog w s.heap a L ks o es ep t) (el : ElemsOf (strKind prog w) es1.toList) (key : (es1.toList.map keyE).Perm ks') (nd : ks'.Nodup) (sz : es1.size < scanBound) (fits : t2.fits es1.size = true) (led : t2.led = L) (pl : t2.plain = false)
    {wd : Bool} {R : Option Bool → Shared → Prop} (h : ∀ h', Heap.SameBut a s.heap h' → SXO prog w h' a L ks' → R (some true) { s with heap := h' }) :
    wpAny (model prog w) A (do
      storeSet a es1 t2
      if (!wd && t2.tooFull) = true then do
          g (relayAll t2 es1 (SetTable.grown es1.size)).2.2
          storeSet a (relayAll t2 es1 (SetTable.grown es1.size)).1 (relayAll t2 es1 (SetTable.grown es1.size)).2.1
          pure (some true)
        else pure (some true)) R E s := by
  have x1 := x.store el key nd sz fits led pl
  have b1 := Heap.SameBut.update s.heap a (Obj.putSet es1 t2)
  refine wpAny_bind (wpAny_storeSet_of x.at_ x.dt ?_ (fits_of_scanBound sz))
  by_cases hc : (!wd && t2.tooFull) = true
  · rw [if_pos hc]
    have rp := relayAll_perm t2 es1 (SetTable.grown es1.size)
    have rf := relayAll_fits t2 es1 (SetTable.grown es1.size)
    have rl := relay_led t2 es1 (SetTable.grown es1.size)
    have rq := relay_pl t2 es1 (SetTable.grown es1.size) pl
    generalize relayAll t2 es1 (SetTable.grown es1.size) = W at rp rf rl rq
    obtain ⟨es2, t3, gv⟩ := W
    dsimp only at rp rf rl rq ⊢
    have z2 : es2.size = es1.size := by rw [← Array.length_toList, rp.length_eq, Array.length_toList]
    have x2 := x1.store (el.perm rp) ((rp.map keyE).trans key) nd (by rw [z2]; exact sz) rf (rl.trans led) rq
    refine wpAny_bind (hg _ _ _ (wpAny_bind (wpAny_storeSet_of x1.at_ x1.dt ?_ (fits_of_scanBound (by rw [z2]; exact sz)))))
    exact wpAny_pure (h _ (b1.trans (Heap.SameBut.update _ a _)) ⟨_, _, _, _, x2⟩)
  · rw [if_neg hc]
    exact wpAny_pure (h _ b1 ⟨_, _, _, _, x1⟩)
theorem add_text {a : Addr} {L : Bool} {ks : List Str} {k : Str} {tk : Tok} {Q : Bool → Shared → Prop} (hS : SXO prog w s.heap a L ks) (hr : ks.length + 1 < scanBound)
    (h : ∀ h', Heap.SameBut a s.heap h' → SXO prog w h' a L (stpS ks k) → ∀ b, Q b { s with heap := h' }) :
    wpAny (model prog w) A (setAddHashed a (.str k tk) ((strKind prog w).hash k)) Q E s := by
  obtain ⟨o, es, ep, t, x⟩ := hS
  have hk := isStr_is (prog := prog) (w := w) k tk
  have hsc : (Value.str k tk).scannable = true := rfl
  have hl := x.len
  unfold setAddHashed setAddHashedIn
  refine wpAny_holding (wpAny_bind (wpAny_setState_of x.at_ x.dt x.fits ?_))
  dsimp only
  rw [byScan_of hsc x.sz x.el, if_pos rfl]
  unfold setAddByScan
  refine wpAny_bind (wpAny_bind (wpAny_rule (wpAny_bind (wpAny_setScan_of hk x.at_ x.dt x.fits x.el ?_))))
  by_cases hin : k ∈ ks
  · obtain ⟨e, he, hke⟩ := (x.mem k).mp hin
    have hst : stpS ks k = ks := by unfold stpS; rw [if_pos (List.any_eq_true.mpr ⟨k, hin, by simp⟩)]
    cases hf : es.toList.findIdx? (fun e => (strKind prog w).is k e.2) with
    | none => exact absurd hke (by rw [show Value.isStrOf k e.2 = (strKind prog w).is k e.2 from rfl, List.findIdx?_eq_none_iff.mp hf e he]; decide)
    | some j =>
      dsimp only
      have q := h s.heap (Heap.SameBut.refl a s.heap) (by rw [hst]; exact ⟨o, es, ep, t, x⟩)
      exact wpAny_pure (wpAny_pure (q _))
  · have hst : stpS ks k = ks ++ [k] := by
      unfold stpS
      rw [if_neg]
      intro q
      obtain ⟨y, hy, e⟩ := List.any_eq_true.mp q
      exact hin (by rw [← show y = k by simpa using e]; exact hy)
    cases hf : es.toList.findIdx? (fun e => (strKind prog w).is k e.2) with
    | some j =>
      obtain ⟨hj, hpj, _⟩ := List.findIdx?_eq_some_iff_getElem.mp hf
      exact absurd ((x.mem k).mpr ⟨_, List.getElem_mem hj, hpj⟩) hin
    | none =>
      dsimp only
      have lp := layNew_perm t es ((strKind prog w).hash k) (.str k tk)
      have lf := layNew_fits t es ((strKind prog w).hash k) (.str k tk)
      have ll := layNew_led t es ((strKind prog w).hash k) (.str k tk)
      have lq := layNew_pl t es ((strKind prog w).hash k) (.str k tk)
      generalize layNew t es ((strKind prog w).hash k) (.str k tk) = W at lp lf ll lq
      obtain ⟨es1, t1, wd, gv⟩ := W
      dsimp only at lp lf ll lq ⊢
      rw [Array.toList_push] at lp
      have el1 : ElemsOf (strKind prog w) es1.toList := (x.el.push hk hsc).perm lp
      have key1 : (es1.toList.map keyE).Perm (ks ++ [k]) := by
        refine (lp.map keyE).trans ?_
        rw [List.map_append]
        exact x.key.append_right [k]
      have nd1 : (ks ++ [k]).Nodup := by
        rw [List.nodup_append]
        exact ⟨x.nd, by simp, fun u hu v hv e => hin (by rw [← List.mem_singleton.mp hv, ← e]; exact hu)⟩
      have sz1 : es1.size < scanBound := by
        rw [← Array.length_toList, lp.length_eq, List.length_append, Array.length_toList, hl]
        exact hr
      have gv_ok : ∀ (b : Bool) (s1 : Shared) (Q1 : Unit → Shared → Prop), Q1 () s1 → wpAny (model prog w) A (match b with | true => rule "set.scan.the-table-gave-way" | false => pure ()) Q1 E s1 := fun b s1 Q1 q => by
        cases b
        · exact wpAny_pure q
        · exact wpAny_rule q
      refine wpAny_bind (gv_ok gv _ _ ?_)
      have done : ∀ h', Heap.SameBut a s.heap h' → SXO prog w h' a L (ks ++ [k]) → ∀ b, Q b { s with heap := h' } := fun h' b1 b2 => h h' b1 (by rw [hst]; exact b2)
      by_cases hp : t1.plain = true
      · rw [if_pos hp]
        refine wpAny_bind ?_
        rw [hashByValue_scannable 8 hsc]
        refine wpAny_pure ?_
        refine put_text gv_ok x el1 key1 nd1 sz1 ?_ ?_ ?_ fun h' b1 b2 => wpAny_pure (done h' b1 b2 _)
        · exact SetTable.fits_plain_off lf
        · exact ll.trans x.led
        · rfl
      · rw [if_neg hp]
        refine wpAny_bind (wpAny_pure ?_)
        rw [if_pos rfl]
        exact put_text gv_ok x el1 key1 nd1 sz1 lf (ll.trans x.led) (by simpa using hp) fun h' b1 b2 => wpAny_pure (done h' b1 b2 _)
end
end L2
set_option Elab.async false
set_option linter.all false
set_option maxRecDepth 100000
set_option maxHeartbeats 4000000
namespace L2
open PySem PySem.Spec PyProof.Rows
section
variable {prog : Program} {w : World} {A : Around} {R : Result → Shared → Prop} {I : Addr} {fp wr : List Addr} {G : Array GenState → Array GenState → Prop} {n : Nat} {P : Nat → Value → Prop} {St : Nat → Shared → Prop}
theorem set_loopX (W : WalksS prog w A.in1 I fp wr G n P St) (S : Addr) (hSf : S ∉ fp)
    {L : Bool} (val : Nat → Str) (hval : ∀ i v, P i v → ∃ t, v = .str (val i) t) (hb : n + 1 < scanBound) :
    ∀ (k i : Nat) (s : Shared), n - i = k → i ≤ n → St i s →
      SXO prog w s.heap S L (fmS val i) →
      (∀ s', Moved (S :: wr) G s s' → SXO prog w s'.heap S L (fmS val n) → R (.ok (.ret .none)) s') →
      codeAny (model prog w) A (.builtin "set.update.loop" ⟨[.ref S, .ref I], []⟩) R s := by
  have hSw : S ∉ wr := fun h => hSf (W.sub _ h)
  have hsub : ∀ b ∈ wr, b ∈ S :: wr := fun b hb => List.mem_cons_of_mem _ hb
  intro k
  induction k with
  | zero =>
    intro i s hk hi hst hS hR
    have hin : i = n := by omega
    subst hin
    refine codeAny_builtin PyProof.Rows.F.entry_set_update_loop ?_
    rw [Around.under_plainId PyProof.Rows.F.plain_set_update_loop _]
    show wpAny _ A.in1 (pyNext (.ref I) >>= _) _ _ s
    refine wpAny_bind (W.done s _ _ hst fun s' hm => ?_)
    show wpAny _ A.in1 (ret Value.none) _ _ s'
    exact wpAny_pure (hR s' (hm.mono hsub) (by
      obtain ⟨o, es, ep, t, x⟩ := hS
      exact ⟨o, es, ep, t, x.to (hm.heap S _ hSw x.at_)⟩))
  | succ k ih =>
    intro i s hk hi hst hS hR
    have hlt : i < n := by omega
    refine codeAny_builtin PyProof.Rows.F.entry_set_update_loop ?_
    rw [Around.under_plainId PyProof.Rows.F.plain_set_update_loop _]
    show wpAny _ A.in1 (pyNext (.ref I) >>= _) _ _ s
    refine wpAny_bind (W.item i s _ _ hlt hst fun v s' hP hst' hm => ?_)
    obtain ⟨t, rfl⟩ := hval i v hP
    have hS' : SXO prog w s'.heap S L (fmS val i) := by
      obtain ⟨o, es, ep, tb, x⟩ := hS
      exact ⟨o, es, ep, tb, x.to (hm.heap S _ hSw x.at_)⟩
    show wpAny _ A.in1 (holding [Value.str (val i) t] (setAdd S (.str (val i) t)) >>= _) _ _ s'
    refine wpAny_bind (wpAny_holding ?_)
    unfold setAdd
    refine wpAny_holding ?_
    refine wpAny_bind ((strKind prog w).pyHash (k := val i) (isStr_is _ _) ?_)
    have hroom : (fmS val i).length + 1 < scanBound := by have := fmS_le val i; omega
    refine add_text (s := { s' with toks := s'.toks + 1 }) hS' hroom fun h' hsb hS2 _ => ?_
    have hSi : SXO prog w h' S L (fmS val (i + 1)) := by rw [fmS_succ]; exact hS2
    refine wpAny_pure ⟨plainId_quiet PyProof.Rows.F.plain_set_update_loop _, ih (i + 1) _ (by omega) hlt (W.frame _ s' _ _ hst' (Nat.le_succ _) fun b hb o e => ?_) hSi fun s'' hm'' hS'' => ?_⟩
    · rw [hsb.2 b (fun h : b = S => hSf (by rw [← h]; exact hb))]; exact e
    · refine hR s'' (Moved.trans W.gtrans ((hm.mono hsub).then_heap (Nat.le_succ _) fun b o hb e => ?_) hm'') hS''
      rw [hsb.2 b (fun h : b = S => hb (by rw [h]; exact List.mem_cons_self))]; exact e
end
def setO (L : Bool) : Obj := { cls := .type "set", dict := none, data := .set #[] 0 (.fresh 0 0 L) }
section
variable {prog : Program} {w : World} {A : Around} {E : Value → Shared → Prop} {s : Shared}
theorem set_newL (a : Value) {Q₁ : Value → Shared → Prop} (h : Q₁ (.ref s.heap.objs.size) { s with heap := s.heap.push (setO (!w.params.followText "set-order")) }) :
    codeAny (model prog w) A (.call (.builtin "set.__new__") ⟨[.type "set", a], []⟩) (wants Q₁ E) s := by
  have hsub := sub_set_self
  refine codeAny_of_tree (show wpAny _ A.in1 (do checkBuiltinCall "set.__new__" ⟨[.type "set", a], []⟩; again (.builtin "set.__new__" ⟨[.type "set", a], []⟩)) _ _ s from ?_)
  refine wpAny_bind (wpAny_of_eq (PySem.F.newCall_set_1 a) (wpAny_pure ⟨plainId_quiet PySem.F.plain_set_new _, codeAny_builtin PySem.F.entry_set_new ?_⟩))
  rw [Around.under_plainId PySem.F.plain_set_new _, Builtin.«set.__new__», Builtin.Frozenset.newClass]
  obtain ⟨hp, g, d, tk, os⟩ := s
  dsimp only
  wp_walk
  refine wpAny_askSetting (wpAny_pure ?_)
  show wpAny _ _ (newObj (.type "set") (.set #[] 0 (.fresh 0 0 (!w.params.followText "set-order")))) _ _ _
  unfold newObj
  exact wpAny_bind (wpAny_alloc (wpAny_pure (wpAny_pure h)))
theorem call_setX {T IT : String} {l : Addr} {ol : Obj} {items : Array Value} {ss : List Str} {St : Addr → Nat → Heap → Prop} {Q : Value → Shared → Prop} (hh : A.handled = none) (hol : s.heap.get? l = some ol) (hcl : ol.cls = .type T)
    (hsls : isSubtype (.type T) (.type "set") = pure false) (hslf : isSubtype (.type T) (.type "frozenset") = pure false) (hne : (Value.type T == Value.type "dict") = false)
    (hit : ∀ (A' : Around) (E' : Value → Shared → Prop) (s' : Shared) (Q' : Value → Shared → Prop), s'.heap.get? l = some ol → Q' (.ref s'.heap.objs.size) { s' with heap := s'.heap.push { cls := .type IT, data := .fields #[.ref l, .int 0 0] } } → wpAny (model prog w) A' (pyIter (.ref l)) Q' E' s')
    (hw : ∀ (A' : Around) (I : Addr), A'.handled = none → l ≠ I → Walks prog w A' I [I, l] [I] items.size (fun i v => items[i]? = some v) (St I))
    (hs0 : ∀ (I : Addr) (h : Heap), h.get? l = some ol → h.get? I = some { cls := .type IT, data := .fields #[.ref l, .int 0 0] } → St I 0 h)
    (hs : ∀ (i : Nat) (v : Value), items[i]? = some v → ∃ t, v = .str (ss.getD i ⟨#[]⟩) t) (hb : items.size + 1 < scanBound)
    (h : ∀ (h' : Heap) (tk : Nat), SXO prog w h' s.heap.objs.size (!w.params.followText "set-order") (fmS (fun i => ss.getD i ⟨#[]⟩) items.size) →
      (∀ b o, b < s.heap.objs.size → s.heap.get? b = some o → h'.get? b = some o) → Q (.ref s.heap.objs.size) { s with heap := h', toks := tk }) :
    wpAny (model prog w) A (call (.type "set") [.ref l]) Q E s := by
  obtain ⟨c, tl, hmro⟩ := PySem.F.called_set.mro
  have hmade := PySem.F.called_set.made
  have hsub := PySem.F.called_set.sub
  refine wpAny_call (codeAny_of_tree ?_)
  show wpAny _ _ (callAny (.type "set") _) _ _ _
  refine wpAny_pure ⟨Code.quiet_builtin _ (by decide +kernel), codeAny_builtin PySem.F.entry_type_call ?_⟩
  rw [Around.under_plain (weight_type_call_type "set" [.ref l] []) rfl]
  have h1 := PySem.F.called_set.notType
  have h2 := PySem.F.called_set.canCreate
  have hct := PySem.F.typeCall_set_1 (.ref l)
  repeat (any_goals (first | assumption | wp_step))
  refine codeAny_mono (set_newL (.ref l) (E := E) (Q₁ := fun obj s₁ => obj = .ref s.heap.objs.size ∧ s₁ = { s with heap := s.heap.push (setO (!w.params.followText "set-order")) }) ⟨rfl, rfl⟩) fun r s₁ hr => ?_
  cases r with
  | error e => exact hr
  | ok fl =>
    cases fl with
    | ret obj =>
      obtain ⟨rfl, rfl⟩ := hr
      have hS : (s.heap.push (setO (!w.params.followText "set-order"))).get? s.heap.objs.size = some (setO (!w.params.followText "set-order")) := Heap.get?_push_size _ rfl
      have hT : Shared.TypeIs { s with heap := s.heap.push (setO (!w.params.followText "set-order")) } (.ref s.heap.objs.size) "set" := ⟨_, hS, rfl⟩
      have hli := PySem.F.called_set.init.lookup
      have hbi := PySem.F.called_set.init.bind (.ref s.heap.objs.size)
      repeat (any_goals (first | assumption | wp_step))
      refine codeAny_mono (codeAny_call_builtin (R := wants (fun r s₂ => r = .none ∧ ∃ h' tk, s₂ = { s with heap := h', toks := tk } ∧
          SXO prog w h' s.heap.objs.size (!w.params.followText "set-order") (fmS (fun i => ss.getD i ⟨#[]⟩) items.size) ∧
          (∀ b o, b < s.heap.objs.size → s.heap.get? b = some o → h'.get? b = some o)) E) PySem.F.called_set.init.plain PySem.F.entry_set_init (check_set_init_1 hT ?_)) fun r₂ s₂ hr₂ => ?_
      · have hol' : (s.heap.push (setO (!w.params.followText "set-order"))).get? l = some ol := Heap.get?_push_of_some _ hol
        have hTl : Shared.TypeIs { s with heap := s.heap.push (setO (!w.params.followText "set-order")) } (.ref l) T := ⟨_, hol', hcl⟩
        unfold Builtin.«set.__init__» noKeywords Builtin.Frozenset.updateFrom
        generalize hPI : pyIter = PI
        wp_walk
        subst hPI
        refine hit _ _ _ _ hol' ?_
        refine wpAny_bind (wpAny_runValue ?_)
        have hlS : l < s.heap.objs.size := Heap.lt_size hol
        have hh3 : A.in1.in1.in1.handled = none := by simp [hh]
        have hneI : l ≠ (s.heap.push (setO (!w.params.followText "set-order"))).objs.size := by
          rw [Heap.size_push]
          exact Nat.ne_of_lt (Nat.lt_succ_of_lt hlS)
        have hSf : s.heap.objs.size ∉ [(s.heap.push (setO (!w.params.followText "set-order"))).objs.size, l] := by
          rw [Heap.size_push, List.mem_cons, List.mem_singleton]
          rintro (q | q)
          · exact absurd q (Nat.ne_of_lt (Nat.lt_succ_self _))
          · exact absurd q (Nat.ne_of_gt hlS)
        refine set_loopX ((hw _ _ hh3 hneI).toS) s.heap.objs.size hSf (L := !w.params.followText "set-order") (fun i => ss.getD i ⟨#[]⟩) hs hb (items.size - 0) 0 _ rfl (Nat.zero_le _)
          (hs0 _ _ (Heap.get?_push_of_some _ hol') (Heap.get?_push_size _ rfl)) ?hS0 ?hR
        case hS0 =>
          exact ⟨_, #[], 0, _, Heap.get?_push_of_some _ hS, ⟨rfl, rfl, rfl⟩, rfl, fun e he => by simp at he, .nil, .nil, by decide, rfl, rfl, .inl rfl⟩
        case hR =>
          intro s' hm hS'
          obtain ⟨h', g', d', tk', os'⟩ := s'
          have eg : g' = s.gens := hm.gens
          have ed : d' = s.drawn := hm.drawn
          have eo : os' = s.os := hm.os
          subst eg; subst ed; subst eo
          show wpAny _ _ _ _ _ _
          refine wpAny_pure ?_
          show wpAny _ _ (ret Value.none) _ _ _
          refine wpAny_pure ⟨rfl, h', tk', rfl, hS', fun b o hb e => ?_⟩
          have hb1 : b ≠ s.heap.objs.size := Nat.ne_of_lt hb
          have hb2 : b ≠ (s.heap.push (setO (!w.params.followText "set-order"))).objs.size := by
            rw [Heap.size_push]; exact Nat.ne_of_lt (Nat.lt_succ_of_lt hb)
          exact hm.heap b o (by simp only [List.mem_cons, List.mem_singleton, List.not_mem_nil, or_false, not_or]; exact ⟨hb1, hb2⟩) (Heap.get?_push_of_some _ (Heap.get?_push_of_some _ e))
      · cases r₂ with
        | error e => exact hr₂
        | ok fl₂ =>
          cases fl₂ with
          | ret r =>
            obtain ⟨rfl, h', tk, rfl, hS', hk'⟩ := hr₂
            repeat (any_goals (first | assumption | wp_step))
            exact h _ _ hS' hk'
          | _ => exact hr₂.elim
    | _ => exact hr.elim
end
end L2
set_option Elab.async false
set_option linter.all false
set_option maxRecDepth 100000
set_option maxHeartbeats 4000000
namespace L2
open PySem PySem.Spec PyProof.Rows
theorem sit_next : Slot "set_iterator" "__next__" "set_iterator.__next__" := .of (owner := "set_iterator") (n := "__next__") (by rw [typeLookup_type, builtinLookup_eq_fast]; kernel_rfl) (by decide +kernel) (by decide +kernel) (by decide +kernel) (.inl (by decide +kernel)) (by rw [isSubtype_type]; kernel_rfl)
theorem sit_iter : Slot "set_iterator" "__iter__" "set_iterator.__iter__" := .of (owner := "set_iterator") (n := "__iter__") (by rw [typeLookup_type, builtinLookup_eq_fast]; kernel_rfl) (by decide +kernel) (by decide +kernel) (by decide +kernel) (.inl (by decide +kernel)) (by rw [isSubtype_type]; kernel_rfl)
theorem sit_entry : entryFor table "set_iterator.__next__" = some Builtin.«set_iterator.__next__» := entryFor_of_tree (by kernel_rfl)
theorem sit_args (a : Value) : argsOk "set_iterator.__next__" ⟨[a], []⟩ := by unfold argsOk; kernel_rfl
theorem sit_argsI (a : Value) : argsOk "set_iterator.__iter__" ⟨[a], []⟩ := by unfold argsOk; kernel_rfl
theorem set_iter_entry : entryFor table "set.__iter__" = some Builtin.«frozenset.__iter__» := entryFor_alias (id' := "frozenset.__iter__") (by kernel_rfl) rfl (by decide +kernel) (by kernel_rfl)
theorem sit_entryI : entryFor table "set_iterator.__iter__" = some Builtin.«dict_keyiterator.__iter__» := entryFor_alias (id' := "dict_keyiterator.__iter__") (by kernel_rfl) rfl (by decide +kernel) (by kernel_rfl)
def SIt (h : Heap) (I : Addr) (f : Value) (i : Nat) (a : Addr) (n ep : Nat) : Prop := ∃ o, h.get? I = some o ∧ o.cls = .type "set_iterator" ∧ o.data = .fields #[f, .int i 0, .ref a, .int n 0, .int ep 0]
theorem SIt.ty {s : Shared} {I : Addr} {f : Value} {i : Nat} {a : Addr} {n ep : Nat} (x : SIt s.heap I f i a n ep) : s.TypeIs (.ref I) "set_iterator" := let ⟨o, h, c, _⟩ := x; ⟨o, h, c⟩
section
variable {prog : Program} {w : World} {A : Around} {E : Value → Shared → Prop} {s : Shared}
theorem sit_self {I : Addr} {f : Value} {i : Nat} {a : Addr} {n ep : Nat} {Q : Value → Shared → Prop} (x : SIt s.heap I f i a n ep) (h : Q (.ref I) s) : wpAny (model prog w) A (pyIter (.ref I)) Q E s := by
  refine wpAny_pyIter_slot x.ty sit_iter (wpAny_call_entry sit_iter x.ty sit_entryI ?_ (sit_argsI _))
  exact wpAny_pure ⟨_, rfl, "set_iterator", _, x.ty, sit_next.lookup, h⟩
theorem SIt.upd {h : Heap} {I : Addr} {f : Value} {i : Nat} {a : Addr} {n ep : Nat} {o : Obj} (g : h.get? I = some o) (c : o.cls = .type "set_iterator") (d : o.data = .fields #[f, .int i 0, .ref a, .int n 0, .int ep 0]) (k : Nat) (v : Value) :
    ∃ o', (h.update I (Obj.mapFields (·.setIfInBounds k v))).get? I = some o' ∧ o'.cls = .type "set_iterator" ∧ o'.data = .fields ((#[f, .int i 0, .ref a, .int n 0, .int ep 0] : Array Value).setIfInBounds k v) :=
  ⟨_, Heap.get?_update_self _ g (Obj.isFreed_of_fields (Obj.data_mapFields d _)), (Obj.cls_mapFields ..).trans c, by rw [Obj.data_mapFields d]⟩
theorem stop_met {B : Around} (hh : B.handled = none) {Q : Option Value → Shared → Prop} {R : Fin → Shared → Prop} (h : ∀ h', (∀ b o, s.heap.get? b = some o → h'.get? b = some o) → Q none { s with heap := h' }) :
    wpAny (model prog w) B.in1 (newExc (.type "StopIteration") [] >>= fun e => (raiseNew e : Sem Fin)) R
      (fun e s' => wpAny (model prog w) B (do if (← isInstance e (.type "StopIteration")) = true then pure none else throw e) Q E s') s := by
  refine wpAny_bind ?_
  simp only [newExc, newTuple]
  refine wpAny_bind (wpAny_newObj_type ?_ (by size_fits))
  refine wpAny_bind (m := firstArgMember _ _) (wpAny_of_eq (a := Value.none) (by first | rfl | (simp only [firstArgMember]; rfl)) (wpAny_newObj_type ?_ (by size_fits)))
  simp only [raiseNew]
  refine wpAny_bind (wpAny_handled ?_)
  rw [show B.in1.handled = none from hh]
  refine wpAny_bind (wpAny_pure (wpAny_throw ?_))
  refine wpAny_bind (wpAny_isInstance (T := "StopIteration") (b := true) ⟨_, Heap.get?_push_size _ rfl, rfl⟩ isSubtype_stop (wpAny_pure ?_))
  exact (h _ fun b o e => Heap.get?_push_of_some _ (Heap.get?_push_of_some _ e))
theorem sit_open {I a : Addr} {f : Value} {i n ep : Nat} {L : Bool} {ks : List Str} {o : Obj} {es : Array (Int × Value)} {t : SetTable} {Q : Option Value → Shared → Prop} (x : SIt s.heap I f i a n ep) (y : SX prog w s.heap a L ks o es ep t) (hn : es.size = n)
    (h : wpAny (model prog w) A.in1 (match f with
        | .int slot _ => do
          match ← setNext a slot.toNat i ep with
          | some (x, next) =>
            setField (.ref I) 0 (rawInt next)
            setField (.ref I) 1 (rawInt (i + 1))
            ret x
          | none => setField (.ref I) 2 .none; raiseNew (← newExc (.type "StopIteration") [])
        | _ => do
          let some places ← seqItems? f | unsupported "internal:set_iterator"
          match places[i]? with
          | some (.int place _) =>
            let x ← setNextDrawn a place.toNat ep
            setField (.ref I) 1 (rawInt (i + 1))
            ret x
          | some _ => unsupported "internal:set_iterator"
          | none => setField (.ref I) 0 (rawInt 0); setField (.ref I) 2 .none; raiseNew (← newExc (.type "StopIteration") []))
      (fun fin s' => ∃ v, fin = Fin.done (Flow.ret v) ∧ Q (some v) s') (fun e s' => wpAny (model prog w) A (do if (← isInstance e (.type "StopIteration")) = true then pure none else throw e) Q E s') s) :
    wpAny (model prog w) A (pyNext (.ref I)) Q E s := by
  obtain ⟨oi, hi, ci, di⟩ := id x
  unfold pyNext
  refine wpAny_bind (wpAny_attempt (wpAny_callSpecial?_slot (name := Str.ofString "__next__") x.ty sit_next (wpAny_call_entry sit_next x.ty sit_entry ?_ (sit_args _))))
  unfold Builtin.«set_iterator.__next__»
  refine wpAny_bind (wpAny_pure ?_)
  refine wpAny_bind (wpAny_fieldsOf hi di ?_)
  dsimp only
  refine wpAny_bind (wpAny_setEntries_of y.at_ y.dt y.fits ?_)
  rw [if_neg (by rw [hn]; simp)]
  refine wpAny_mono ?_ (Q := fun fin s' => ∃ v, fin = Fin.done (Flow.ret v) ∧ Q (some v) s') (fun fin s' ⟨v, e, q⟩ => ⟨v, e, wpAny_pure q⟩) fun _ _ q => q
  simp only [Int.toNat_natCast]
  cases f <;> exact h
theorem sit_int {I a : Addr} {sl i n ep nx : Nat} {L : Bool} {ks : List Str} {o : Obj} {es : Array (Int × Value)} {t : SetTable} {v : Value} {Q : Option Value → Shared → Prop} (x : SIt s.heap I (.int sl 0) i a n ep) (y : SX prog w s.heap a L ks o es ep t) (hn : es.size = n)
    (hx : ∀ (A' : Around) (E' : Value → Shared → Prop) (Q' : Option (Value × Nat) → Shared → Prop), Q' (some (v, nx)) s → wpAny (model prog w) A' (setNext a sl i ep) Q' E' s)
    (hQ : ∀ h', SIt h' I (.int nx 0) (i + 1) a n ep → Heap.SameBut I s.heap h' → Q (some v) { s with heap := h' }) : wpAny (model prog w) A (pyNext (.ref I)) Q E s := by
  refine sit_open x y hn ?_
  obtain ⟨oi, hi, ci, di⟩ := id x
  dsimp only
  rw [Int.toNat_natCast]
  refine wpAny_bind (hx _ _ _ ?_)
  dsimp only
  refine wpAny_bind (wpAny_setField hi di (by simp) ?_)
  obtain ⟨o1, g1, c1, d1⟩ := SIt.upd hi ci di 0 (rawInt nx)
  refine wpAny_bind (wpAny_setField g1 d1 (by simp) ?_)
  refine wpAny_pure ⟨v, rfl, hQ _ ?_ ((Heap.SameBut.update ..).trans (Heap.SameBut.update ..))⟩
  exact ⟨_, Heap.get?_update_self _ g1 (Obj.isFreed_of_fields (Obj.data_mapFields d1 _)), (Obj.cls_mapFields ..).trans c1, by rw [Obj.data_mapFields d1]; simp [rawInt]⟩
theorem sit_intE {I a : Addr} {sl i n ep : Nat} {L : Bool} {ks : List Str} {o : Obj} {es : Array (Int × Value)} {t : SetTable} {Q : Option Value → Shared → Prop} (hh : A.handled = none) (x : SIt s.heap I (.int sl 0) i a n ep) (y : SX prog w s.heap a L ks o es ep t) (hn : es.size = n)
    (hx : ∀ (A' : Around) (E' : Value → Shared → Prop) (Q' : Option (Value × Nat) → Shared → Prop), Q' none s → wpAny (model prog w) A' (setNext a sl i ep) Q' E' s)
    (hQ : ∀ h', (∀ b o, b ≠ I → s.heap.get? b = some o → h'.get? b = some o) → Q none { s with heap := h' }) : wpAny (model prog w) A (pyNext (.ref I)) Q E s := by
  refine sit_open x y hn ?_
  obtain ⟨oi, hi, ci, di⟩ := id x
  dsimp only
  rw [Int.toNat_natCast]
  refine wpAny_bind (hx _ _ _ ?_)
  dsimp only
  refine wpAny_bind (wpAny_setField hi di (by simp) ?_)
  exact stop_met hh fun h' k => hQ h' fun b o hb e => k b o ((Heap.get?_update_other _ _ (Ne.symm hb)).trans e)
theorem sit_ref {I a tp : Addr} {i n ep pl c : Nat} {L : Bool} {ks : List Str} {o : Obj} {es : Array (Int × Value)} {t : SetTable} {hv : Int} {v : Value} {ps : Array Value} {Q : Option Value → Shared → Prop} (x : SIt s.heap I (.ref tp) i a n ep) (y : SX prog w s.heap a L ks o es ep t) (hn : es.size = n)
    {ot : Obj} (ht : s.heap.get? tp = some ot) (hd : ot.data = .seq ps c) (hp : ps[i]? = some (rawInt pl)) (he : es[pl]? = some (hv, v))
    (hQ : ∀ h', SIt h' I (.ref tp) (i + 1) a n ep → Heap.SameBut I s.heap h' → Q (some v) { s with heap := h' }) : wpAny (model prog w) A (pyNext (.ref I)) Q E s := by
  refine sit_open x y hn ?_
  obtain ⟨oi, hi, ci, di⟩ := id x
  dsimp only
  refine wpAny_bind (wpAny_seqItems ht hd ?_)
  dsimp only
  rw [hp]
  dsimp only [rawInt]
  unfold setNextDrawn
  refine wpAny_bind (wpAny_bind (wpAny_setState_of y.at_ y.dt y.fits ?_))
  dsimp only
  rw [if_neg (by simp), Int.toNat_natCast, he]
  refine wpAny_pure ?_
  refine wpAny_bind (wpAny_setField hi di (by simp) ?_)
  refine wpAny_pure ⟨v, rfl, hQ _ ?_ (Heap.SameBut.update ..)⟩
  exact ⟨_, Heap.get?_update_self _ hi (Obj.isFreed_of_fields (Obj.data_mapFields di _)), (Obj.cls_mapFields ..).trans ci, by rw [Obj.data_mapFields di]; simp⟩
theorem sit_refE {I a tp : Addr} {i n ep c : Nat} {L : Bool} {ks : List Str} {o : Obj} {es : Array (Int × Value)} {t : SetTable} {ps : Array Value} {Q : Option Value → Shared → Prop} (hh : A.handled = none) (x : SIt s.heap I (.ref tp) i a n ep) (y : SX prog w s.heap a L ks o es ep t) (hn : es.size = n)
    {ot : Obj} (ht : s.heap.get? tp = some ot) (hd : ot.data = .seq ps c) (hp : ps[i]? = none)
    (hQ : ∀ h', (∀ b o, b ≠ I → s.heap.get? b = some o → h'.get? b = some o) → Q none { s with heap := h' }) : wpAny (model prog w) A (pyNext (.ref I)) Q E s := by
  refine sit_open x y hn ?_
  obtain ⟨oi, hi, ci, di⟩ := id x
  dsimp only
  refine wpAny_bind (wpAny_seqItems ht hd ?_)
  dsimp only
  rw [hp]
  dsimp only
  refine wpAny_bind (wpAny_setField hi di (by simp) ?_)
  obtain ⟨o1, g1, c1, d1⟩ := SIt.upd hi ci di 0 (rawInt 0)
  refine wpAny_bind (wpAny_setField g1 d1 (by simp) ?_)
  exact stop_met hh fun h' k => hQ h' fun b o hb e => k b o ((Heap.get?_update_other _ _ (Ne.symm hb)).trans ((Heap.get?_update_other _ _ (Ne.symm hb)).trans e))
end
end L2
set_option Elab.async false
set_option linter.all false
set_option maxRecDepth 100000
set_option maxHeartbeats 4000000
namespace L2
open PySem PySem.Spec PyProof.Rows
theorem out_perm {α : Type} : ∀ (l : List α) (i : Nat) (x : α), l[i]? = some x → (x :: l.eraseIdx i).Perm l
  | [], i, x, h => by simp at h
  | a :: l, 0, x, h => by simp at h; subst h; exact List.Perm.refl _
  | a :: l, i + 1, x, h => by
    rw [List.eraseIdx_cons_succ]
    exact (List.Perm.swap a x _).trans ((out_perm l i x (by simpa using h)).cons a)
theorem pick_go {α : Type} (f : Nat → Nat) : ∀ (fuel k : Nat) (left : List α) (out : Array α), left.length = fuel → (pickOrder.go f fuel k left out).toList.Perm (out.toList ++ left)
  | 0, k, left, out, h => by
    rw [List.length_eq_zero_iff.mp h, List.append_nil]
    exact List.Perm.refl _
  | fuel + 1, k, left, out, h => by
    have hlt : f k % left.length < left.length := Nat.mod_lt _ (by omega)
    unfold pickOrder.go
    rw [List.getElem?_eq_getElem hlt]
    dsimp only
    refine (pick_go f fuel (k + 1) _ _ (by rw [List.length_eraseIdx_of_lt hlt]; omega)).trans ?_
    rw [Array.toList_push, List.append_assoc]
    exact List.Perm.append_left _ (out_perm left _ _ (List.getElem?_eq_getElem hlt))
theorem pick_perm {α : Type} (f : Nat → Nat) (es : Array α) : (pickOrder f es).toList.Perm es.toList := by
  have := pick_go f es.size 0 es.toList #[] (by simp)
  simpa [pickOrder] using this
section
variable {prog : Program} {w : World} {A : Around} {E : Value → Shared → Prop} {s : Shared}
theorem choose_any {src : Source} {n : Nat} {Q : Nat → Shared → Prop} (hn : 0 < n) (h : ∀ i dr, i < n → Q i { s with drawn := dr }) : wpAny (model prog w) A (choose src n) Q E s := fun Γ p hΓ => by
  show Sem.wp _ Γ (.choose src n .pure) _ _ p s
  rw [Sem.wp_choose]
  exact ⟨by omega, h _ _ (Nat.mod_lt _ hn)⟩
theorem draw_any {α : Type} : ∀ (n : Nat) (xs : List α) (s : Shared) {Q : List α → Shared → Prop}, xs.length = n → (∀ ys dr, ys.Perm xs → Q ys { s with drawn := dr }) → wpAny (model prog w) A (drawOrder n xs) Q E s
  | 0, xs, s, Q, hl, h => by
    unfold drawOrder
    exact wpAny_pure (h [] s.drawn (by rw [List.length_eq_zero_iff.mp hl]))
  | n + 1, [], s, Q, hl, h => by simp at hl
  | n + 1, x :: xs, s, Q, hl, h => by
    unfold drawOrder
    refine wpAny_bind (choose_any (by simp) fun i dr hi => ?_)
    rw [List.getElem?_eq_getElem hi]
    dsimp only
    refine wpAny_bind (draw_any n _ _ (by rw [List.length_eraseIdx_of_lt hi]; omega) fun ys dr' hp => wpAny_pure (h _ dr' ?_))
    exact (hp.cons _).trans (out_perm _ i _ (List.getElem?_eq_getElem hi))
theorem SX.str {h : Heap} {a : Addr} {L : Bool} {ks : List Str} {o : Obj} {es : Array (Int × Value)} {ep : Nat} {t : SetTable} (x : SX prog w h a L ks o es ep t) {e : Int × Value} (he : e ∈ es.toList) : ∃ tk, e.2 = .str (keyE e) tk := by
  obtain ⟨⟨k, hk, _⟩, _⟩ := x.el e he
  have hk' : Value.isStrOf k e.2 = true := hk
  rw [keyE_of hk']
  exact Value.isStrOf_shape hk'
theorem next_text {a : Addr} {L : Bool} {ks : List Str} {o : Obj} {es : Array (Int × Value)} {ep : Nat} {t : SetTable} {sl i : Nat} {Q : Option (Value × Nat) → Shared → Prop} (hB : w.params.followText "set-order" = true) (x : SX prog w s.heap a L ks o es ep t)
    (h : Q (((pickOrder (w.params.setOrder a ep) es)[i]?).map fun e => (e.2, sl)) s) : wpAny (model prog w) A (setNext a sl i ep) Q E s := by
  unfold setNext setsByText
  refine wpAny_bind (wpAny_setState_of x.at_ x.dt x.fits ?_)
  dsimp only
  refine wpAny_bind (wpAny_bind (wpAny_askSetting (wpAny_pure ?_)))
  refine wpAny_ite_split (fun _ => ?_) (fun q => absurd hB q)
  refine wpAny_ite_split (fun q => absurd q (by simp)) (fun _ => ?_)
  unfold setWalk setsByText
  refine wpAny_bind (wpAny_bind (wpAny_setState_of x.at_ x.dt x.fits ?_))
  dsimp only
  refine wpAny_bind (wpAny_bind (wpAny_askSetting (wpAny_pure ?_)))
  refine wpAny_ite_split (fun _ => ?_) (fun q => absurd hB q)
  exact wpAny_bind (wpAny_askSetting (wpAny_pure (wpAny_pure h)))
theorem next_slot {a : Addr} {ks : List Str} {o : Obj} {es : Array (Int × Value)} {ep : Nat} {t : SetTable} {sl i : Nat} {Q : Option (Value × Nat) → Shared → Prop} (hB : w.params.followText "set-order" = false) (x : SX prog w s.heap a true ks o es ep t) (h1 : es.size ≤ 1)
    (h : Q (match es[SetTable.below t.place sl]?, t.place[SetTable.below t.place sl]? with | some (_, x), some j => some (x, j + 1) | _, _ => none) s) : wpAny (model prog w) A (setNext a sl i ep) Q E s := by
  unfold setNext setsByText
  refine wpAny_bind (wpAny_setState_of x.at_ x.dt x.fits ?_)
  dsimp only
  refine wpAny_bind (wpAny_bind (wpAny_askSetting (wpAny_pure ?_)))
  have hB' : ¬ w.params.followText "set-order" = true := by rw [hB]; decide
  refine wpAny_ite_split (fun q => absurd q hB') (fun _ => ?_)
  refine wpAny_ite_split (fun q => ?_) (fun _ => ?_)
  · have q' : (!t.plain && decide (es.size > 1)) = true := q
    simp at q'
    omega
  refine wpAny_bind (show wpAny _ _ (if (!t.led && !es.isEmpty) = true then unsupported _ else pure ()) _ _ _ from ?_)
  refine wpAny_ite_split (fun q => absurd q (by rw [x.led]; simp)) (fun _ => wpAny_pure (wpAny_pure h))
theorem SX.keep {h h' : Heap} {a : Addr} {L : Bool} {ks : List Str} {o : Obj} {es : Array (Int × Value)} {ep : Nat} {t : SetTable} (x : SX prog w h a L ks o es ep t) (k : ∀ o, h.get? a = some o → h'.get? a = some o) : SX prog w h' a L ks o es ep t := x.to (k _ x.at_)
theorem SIt.keep {h h' : Heap} {I : Addr} {f : Value} {i : Nat} {a : Addr} {n ep : Nat} (x : SIt h I f i a n ep) (k : ∀ o, h.get? I = some o → h'.get? I = some o) : SIt h' I f i a n ep := let ⟨o, g, c, d⟩ := x; ⟨o, k _ g, c, d⟩
theorem walk_text {a I : Addr} (hne : a ≠ I) {L : Bool} {ks : List Str} {o : Obj} {es : Array (Int × Value)} {ep : Nat} {t : SetTable} (hB : w.params.followText "set-order" = true) (hh : A.handled = none) :
    Walks prog w A I [I, a] [I] ((pickOrder (w.params.setOrder a ep) es).toList.map keyE).length (fun i v => ∃ tk, v = .str (((pickOrder (w.params.setOrder a ep) es).toList.map keyE).getD i ⟨#[]⟩) tk)
      (fun i h => SIt h I (.int (0 : Nat) 0) i a es.size ep ∧ SX prog w h a L ks o es ep t) where
  sub := fun b hb => by simp at hb; simp [hb]
  frame := fun _ _ _ st hk => ⟨st.1.keep fun o e => hk I (by simp) o e, st.2.keep fun o e => hk a (by simp) o e⟩
  item := fun i s Q E hi st hQ => by
    rw [List.length_map] at hi
    have hg : (pickOrder (w.params.setOrder a ep) es).toList[i]? = some ((pickOrder (w.params.setOrder a ep) es).toList[i]) := List.getElem?_eq_getElem hi
    have hm := (pick_perm (w.params.setOrder a ep) es).mem_iff.mp (List.getElem_mem hi)
    generalize (pickOrder (w.params.setOrder a ep) es).toList[i] = e at hg hm
    obtain ⟨tk, ek⟩ := st.2.str hm
    refine sit_int (v := e.2) (nx := 0) st.1 st.2 rfl (fun A' E' Q' q => next_text hB st.2 ?_) fun h' x' k => hQ e.2 h' s.toks ⟨tk, ?_⟩ ⟨x', st.2.keep fun o g => (k.2 a hne).trans g⟩ fun b o hb g => (k.2 b (by simpa using hb)).trans g
    · rw [← Array.getElem?_toList, hg]
      exact q
    · rw [ek, List.getD_eq_getElem?_getD, List.getElem?_map, hg]
      rfl
  done := fun s Q E st hQ => by
    refine sit_intE hh st.1 st.2 rfl (fun A' E' Q' q => next_text hB st.2 ?_) fun h' k => hQ h' s.toks fun b o hb g => k b o (by simpa using hb) g
    rw [← Array.getElem?_toList, List.length_map, List.getElem?_eq_none (Nat.le_refl _)]
    exact q
  self := fun _ _ _ _ st hQ => sit_self st.1 hQ
theorem walk_drawn {a I tp : Addr} (hne : a ≠ I) (hnt : tp ≠ I) {L : Bool} {ks : List Str} {o ot : Obj} {es : Array (Int × Value)} {ep c : Nat} {t : SetTable} {ps : List Nat} (hp : ps.Perm (List.range es.size)) (hd : ot.data = .seq (ps.map fun (i : Nat) => rawInt i).toArray c) (hh : A.handled = none) :
    Walks prog w A I [I, a, tp] [I] (ps.map fun p => keyE (es.toList.getD p (0, .none))).length (fun i v => ∃ tk, v = .str ((ps.map fun p => keyE (es.toList.getD p (0, .none))).getD i ⟨#[]⟩) tk)
      (fun i h => SIt h I (.ref tp) i a es.size ep ∧ SX prog w h a L ks o es ep t ∧ h.get? tp = some ot) where
  sub := fun b hb => by simp at hb; simp [hb]
  frame := fun _ _ _ st hk => ⟨st.1.keep fun o e => hk I (by simp) o e, st.2.1.keep fun o e => hk a (by simp) o e, hk tp (by simp) _ st.2.2⟩
  item := fun i s Q E hi st hQ => by
    rw [List.length_map] at hi
    have hg : ps[i]? = some ps[i] := List.getElem?_eq_getElem hi
    have hm := List.mem_range.mp (hp.mem_iff.mp (List.getElem_mem hi))
    generalize ps[i] = pl at hg hm
    have hm' : pl < es.toList.length := by simpa using hm
    have he : es.toList[pl]? = some es.toList[pl] := List.getElem?_eq_getElem hm'
    have hmem := List.getElem_mem hm'
    generalize es.toList[pl] = e at he hmem
    obtain ⟨tk, ek⟩ := st.2.1.str hmem
    refine sit_ref (pl := pl) (hv := e.1) (v := e.2) st.1 st.2.1 rfl st.2.2 hd (by simp [hg]) (by rw [← Array.getElem?_toList, he]) fun h' x' k => hQ e.2 h' s.toks ⟨tk, ?_⟩ ⟨x', st.2.1.keep fun o g => (k.2 a hne).trans g, (k.2 tp hnt).trans st.2.2⟩ fun b o hb g => (k.2 b (by simpa using hb)).trans g
    rw [ek, List.getD_eq_getElem?_getD, List.getElem?_map, hg]
    show Value.str (keyE e) tk = .str (keyE (es.toList.getD pl (0, .none))) tk
    rw [List.getD_eq_getElem?_getD, he]
    rfl
  done := fun s Q E st hQ => by
    refine sit_refE hh st.1 st.2.1 rfl st.2.2 hd ?_ fun h' k => hQ h' s.toks fun b o hb g => k b o (by simpa using hb) g
    simp
  self := fun _ _ _ _ st hQ => sit_self st.1 hQ
def slotAt (t : SetTable) (i : Nat) : Nat := if i = 0 then 0 else t.place.getD 0 0 + 1
theorem walk_slot {a I : Addr} (hne : a ≠ I) {ks : List Str} {o : Obj} {es : Array (Int × Value)} {ep : Nat} {t : SetTable} (hB : w.params.followText "set-order" = false) (h1 : es.size ≤ 1) (hf : t.fits es.size = true) (hh : A.handled = none) :
    Walks prog w A I [I, a] [I] (es.toList.map keyE).length (fun i v => ∃ tk, v = .str ((es.toList.map keyE).getD i ⟨#[]⟩) tk)
      (fun i h => SIt h I (.int (slotAt t i : Nat) 0) i a es.size ep ∧ SX prog w h a true ks o es ep t) where
  sub := fun b hb => by simp at hb; simp [hb]
  frame := fun _ _ _ st hk => ⟨st.1.keep fun o e => hk I (by simp) o e, st.2.keep fun o e => hk a (by simp) o e⟩
  item := fun i s Q E hi st hQ => by
    rw [List.length_map, Array.length_toList] at hi
    have hi0 : i = 0 := by omega
    subst hi0
    have hz : es.size = 1 := by omega
    have hps : t.place.size = 1 := by
      simp only [SetTable.fits, Bool.and_eq_true, beq_iff_eq] at hf
      omega
    obtain ⟨e, he⟩ : ∃ e, es = #[e] := Array.size_eq_one_iff.mp hz
    obtain ⟨j, hj⟩ : ∃ j, t.place = #[j] := Array.size_eq_one_iff.mp hps
    obtain ⟨tk, ek⟩ := st.2.str (e := e) (by rw [he]; simp)
    have hb0 : SetTable.below t.place 0 = 0 := by rw [hj]; simp [SetTable.below, SetTable.below.go]
    refine sit_int (v := e.2) (nx := j + 1) st.1 st.2 rfl (fun A' E' Q' q => next_slot hB st.2 h1 ?_) fun h' x' k => hQ e.2 h' s.toks ⟨tk, ?_⟩ ⟨?_, st.2.keep fun o g => (k.2 a hne).trans g⟩ fun b o hb g => (k.2 b (by simpa using hb)).trans g
    · show Q' (match es[SetTable.below t.place 0]?, t.place[SetTable.below t.place 0]? with | some (_, x), some j => some (x, j + 1) | _, _ => none) s
      rw [hb0, he, hj]
      exact q
    · rw [ek, he]
      rfl
    · have : slotAt t 1 = j + 1 := by unfold slotAt; rw [hj]; rfl
      rw [this]
      exact x'
  done := fun s Q E st hQ => by
    rw [List.length_map, Array.length_toList] at st
    refine sit_intE hh st.1 st.2 rfl (fun A' E' Q' q => next_slot hB st.2 h1 ?_) fun h' k => hQ h' s.toks fun b o hb g => k b o (by simpa using hb) g
    have hps : t.place.size = es.size := by
      simp only [SetTable.fits, Bool.and_eq_true, beq_iff_eq] at hf
      exact hf.1
    have hx : es.size ≤ SetTable.below t.place (slotAt t es.size) := by
      by_cases hz : es.size = 0
      · omega
      · have hz1 : es.size = 1 := by omega
        obtain ⟨j, hj⟩ : ∃ j, t.place = #[j] := Array.size_eq_one_iff.mp (hps.trans hz1)
        rw [hz1]
        unfold slotAt
        rw [hj]
        simp [SetTable.below, SetTable.below.go]
    rw [Array.getElem?_eq_none hx]
    exact q
  self := fun _ _ _ _ st hQ => sit_self st.1 hQ
theorem iter_set {a : Addr} {ks : List Str} {o : Obj} {es : Array (Int × Value)} {ep : Nat} {t : SetTable} {Q : Value → Shared → Prop} (x : SX prog w s.heap a (!w.params.followText "set-order") ks o es ep t) (hlt : a < s.heap.objs.size)
    (hQ : ∀ (I : Addr) (h' : Heap) (dr : Drawn) (fp : List Addr) (ord : List Str) (St : Nat → Heap → Prop), (∀ b o, s.heap.get? b = some o → h'.get? b = some o) → s.heap.objs.size ≤ I → I < h'.objs.size → ord.Perm ks →
      (∀ A' : Around, A'.handled = none → Walks prog w A' I fp [I] ord.length (fun i v => ∃ tk, v = .str (ord.getD i ⟨#[]⟩) tk) St) → (∀ b ∈ fp, b = a ∨ s.heap.objs.size ≤ b ∧ b < h'.objs.size) → St 0 h' → Q (.ref I) { s with heap := h', drawn := dr }) :
    wpAny (model prog w) A (pyIter (.ref a)) Q E s := by
  have hT : s.TypeIs (.ref a) "set" := ⟨o, x.at_, x.ex.1⟩
  refine wpAny_pyIter_slot hT PySem.F.slot_set_iter (wpAny_call_entry PySem.F.slot_set_iter hT set_iter_entry ?_ (PySem.F.args_set_iter_1 _))
  unfold Builtin.«frozenset.__iter__» Builtin.Frozenset.slot0 Builtin.Frozenset.sizeOf
  refine wpAny_bind (wpAny_bind (wpAny_pure (wpAny_pure ?_)))
  refine wpAny_bind (wpAny_bind (wpAny_setEntries_of x.at_ x.dt x.fits (wpAny_pure ?_)))
  unfold setDrawn setsByText
  refine wpAny_bind (wpAny_bind (wpAny_setState_of x.at_ x.dt x.fits ?_))
  dsimp only
  refine wpAny_bind (wpAny_bind (wpAny_askSetting (wpAny_pure (wpAny_pure ?_))))
  have mk : ∀ (f : Value) (s1 : Shared) (R : Shared → Prop), SX prog w s1.heap a (!w.params.followText "set-order") ks o es ep t → R { s1 with heap := s1.heap.push { cls := .type "set_iterator", data := .fields #[f, .int (0 : Nat) 0, .ref a, .int es.size 0, .int ep 0] } } →
      wpAny (model prog w) A.in1 (do
        let e ← setEpoch a
        let v ← newFields "set_iterator" [f, rawInt 0, .ref a, rawInt es.size, rawInt e]
        ret v) (fun fin s' => ∃ v, fin = Fin.done (Flow.ret v) ∧ v = .ref s1.heap.objs.size ∧ R s') E s1 := by
    intro f s1 R x1 hR
    refine wpAny_bind (wpAny_setEpoch_of x1.at_ x1.dt x1.fits ?_)
    unfold newFields
    exact wpAny_bind (wpAny_newObj_type (wpAny_pure ⟨_, rfl, rfl, hR⟩) (by size_fits))
  by_cases hB : w.params.followText "set-order" = true
  · refine wpAny_ite_split (fun q => ?_) (fun _ => ?_)
    · have q' : (!w.params.followText "set-order" && (!t.plain && decide (es.size > 1))) = true := q
      rw [hB] at q'
      cases q'
    refine wpAny_bind (wpAny_pure ?_)
    refine wpAny_mono (mk (rawInt 0) s (fun s' => ∃ T' r, s'.TypeIs (.ref s.heap.objs.size) T' ∧ typeLookup (.type T') (Str.ofString "__next__") = pure (some r) ∧ Q (.ref s.heap.objs.size) s') x ?_) (fun fin s' ⟨v, e1, e2, r⟩ => ⟨v, e1, by rw [e2]; exact r⟩) fun _ _ q => q
    have hI : (s.heap.push { cls := .type "set_iterator", data := .fields #[rawInt 0, .int (0 : Nat) 0, .ref a, .int es.size 0, .int ep 0] }).get? s.heap.objs.size = some { cls := .type "set_iterator", data := .fields #[rawInt 0, .int (0 : Nat) 0, .ref a, .int es.size 0, .int ep 0] } := Heap.get?_push_size _ rfl
    refine ⟨"set_iterator", _, ⟨_, hI, rfl⟩, sit_next.lookup, ?_⟩
    exact hQ _ _ s.drawn [s.heap.objs.size, a] _ _ (fun b o e => Heap.get?_push_of_some _ e) (Nat.le_refl _) (by rw [Heap.size_push]; exact Nat.lt_succ_self _) (((pick_perm (w.params.setOrder a ep) es).map keyE).trans x.key)
      (fun A' hh => walk_text (L := !w.params.followText "set-order") (ks := ks) (o := o) (t := t) (Nat.ne_of_lt hlt) hB hh) (fun b hb => by
        rcases List.mem_cons.mp hb with rfl | hb
        · exact .inr ⟨Nat.le_refl _, by rw [Heap.size_push]; exact Nat.lt_succ_self _⟩
        · exact .inl (List.mem_singleton.mp hb)) ⟨⟨_, hI, rfl, rfl⟩, x.keep fun o e => Heap.get?_push_of_some _ e⟩
  · have hB' : w.params.followText "set-order" = false := by simpa using hB
    refine wpAny_ite_split (fun q => ?_) (fun q => ?_)
    · refine wpAny_bind (draw_any es.size (List.range es.size) s (by simp) fun ps dr hp => ?_)
      have pl : ps.length = es.size := by rw [hp.length_eq, List.length_range]
      unfold newTuple
      refine wpAny_bind (wpAny_newObj_type ?_ (by
        show (ps.map fun (i : Nat) => rawInt i).toArray.size ≤ sizeLine
        rw [List.size_toArray, List.length_map, pl]
        exact fits_of_scanBound x.sz))
      have x1 : SX prog w (s.heap.push { cls := .type "tuple", data := .seq (ps.map fun (i : Nat) => rawInt i).toArray }) a (!w.params.followText "set-order") ks o es ep t := x.keep fun o e => Heap.get?_push_of_some _ e
      refine wpAny_mono (mk (.ref s.heap.objs.size) { s with drawn := dr, heap := s.heap.push { cls := .type "tuple", data := .seq (ps.map fun (i : Nat) => rawInt i).toArray } } (fun s' => ∃ T' r, s'.TypeIs (.ref (s.heap.push { cls := .type "tuple", data := .seq (ps.map fun (i : Nat) => rawInt i).toArray }).objs.size) T' ∧ typeLookup (.type T') (Str.ofString "__next__") = pure (some r) ∧ Q (.ref (s.heap.push { cls := .type "tuple", data := .seq (ps.map fun (i : Nat) => rawInt i).toArray }).objs.size) s') x1 ?_) (fun fin s' ⟨v, e1, e2, r⟩ => ⟨v, e1, by rw [e2]; exact r⟩) fun _ _ q => q
      have ht : (s.heap.push { cls := .type "tuple", data := .seq (ps.map fun (i : Nat) => rawInt i).toArray }).get? s.heap.objs.size = some { cls := .type "tuple", data := .seq (ps.map fun (i : Nat) => rawInt i).toArray } := Heap.get?_push_size _ rfl
      have hs1 : (s.heap.push { cls := .type "tuple", data := .seq (ps.map fun (i : Nat) => rawInt i).toArray }).objs.size = s.heap.objs.size + 1 := Heap.size_push ..
      have kk : ∀ b o, s.heap.get? b = some o → (s.heap.push { cls := .type "tuple", data := .seq (ps.map fun (i : Nat) => rawInt i).toArray }).get? b = some o := fun b o e => Heap.get?_push_of_some _ e
      generalize s.heap.push { cls := .type "tuple", data := .seq (ps.map fun (i : Nat) => rawInt i).toArray } = h1 at x1 ht hs1 kk
      have hI : (h1.push { cls := .type "set_iterator", data := .fields #[.ref s.heap.objs.size, .int (0 : Nat) 0, .ref a, .int es.size 0, .int ep 0] }).get? h1.objs.size = some { cls := .type "set_iterator", data := .fields #[.ref s.heap.objs.size, .int (0 : Nat) 0, .ref a, .int es.size 0, .int ep 0] } := Heap.get?_push_size _ rfl
      have hs2 : (h1.push { cls := .type "set_iterator", data := .fields #[.ref s.heap.objs.size, .int (0 : Nat) 0, .ref a, .int es.size 0, .int ep 0] }).objs.size = h1.objs.size + 1 := Heap.size_push ..
      refine ⟨"set_iterator", _, ⟨_, hI, rfl⟩, sit_next.lookup, ?_⟩
      have hne : a ≠ h1.objs.size := by rw [hs1]; exact Nat.ne_of_lt (Nat.lt_succ_of_lt hlt)
      have hnt : s.heap.objs.size ≠ h1.objs.size := by rw [hs1]; exact Nat.ne_of_lt (Nat.lt_succ_self _)
      refine hQ _ _ dr [h1.objs.size, a, s.heap.objs.size] _ _ (fun b o e => Heap.get?_push_of_some _ (kk b o e)) (by rw [hs1]; exact Nat.le_succ _) (by rw [hs2]; exact Nat.lt_succ_self _) ?_
        (fun A' hh => walk_drawn (L := !w.params.followText "set-order") (ks := ks) (o := o) (t := t) (ep := ep) hne hnt hp rfl hh) (fun b hb => ?_) ⟨⟨_, hI, rfl, rfl⟩, x1.keep fun o e => Heap.get?_push_of_some _ e, Heap.get?_push_of_some _ ht⟩
      · refine List.Perm.trans ?_ x.key
        have e2 : es.toList.map keyE = (List.range es.size).map fun p => keyE (es.toList.getD p (0, .none)) := by
          refine List.ext_getElem? fun j => ?_
          rw [List.getElem?_map, List.getElem?_map]
          by_cases hj : j < es.size
          · have hj' : j < es.toList.length := by simpa using hj
            rw [List.getElem?_range hj, List.getElem?_eq_getElem hj']
            show some (keyE es.toList[j]) = some (keyE (es.toList.getD j (0, .none)))
            rw [List.getD_eq_getElem?_getD, List.getElem?_eq_getElem hj']
            rfl
          · rw [List.getElem?_eq_none (by simpa using hj), List.getElem?_eq_none (by simpa using hj)]
            rfl
        rw [e2]
        exact hp.map _
      · rcases List.mem_cons.mp hb with rfl | hb
        · exact .inr ⟨by rw [hs1]; exact Nat.le_succ _, by rw [hs2]; exact Nat.lt_succ_self _⟩
        · rcases List.mem_cons.mp hb with rfl | hb
          · exact .inl rfl
          · rw [List.mem_singleton.mp hb]
            exact .inr ⟨Nat.le_refl _, by rw [hs2, hs1]; exact Nat.lt_succ_of_lt (Nat.lt_succ_self _)⟩
    · have q' : ¬ (!w.params.followText "set-order" && (!t.plain && decide (es.size > 1))) = true := q
      have h1 : es.size ≤ 1 := by
        rw [hB'] at q'
        rcases x.pl with h | h
        · omega
        · rw [h] at q'
          simp at q'
          exact q'
      refine wpAny_bind (wpAny_pure ?_)
      have xt : SX prog w s.heap a true ks o es ep t := by have := x; rw [hB'] at this; exact this
      refine wpAny_mono (mk (rawInt 0) s (fun s' => ∃ T' r, s'.TypeIs (.ref s.heap.objs.size) T' ∧ typeLookup (.type T') (Str.ofString "__next__") = pure (some r) ∧ Q (.ref s.heap.objs.size) s') x ?_) (fun fin s' ⟨v, e1, e2, r⟩ => ⟨v, e1, by rw [e2]; exact r⟩) fun _ _ q => q
      have hI : (s.heap.push { cls := .type "set_iterator", data := .fields #[rawInt 0, .int (0 : Nat) 0, .ref a, .int es.size 0, .int ep 0] }).get? s.heap.objs.size = some { cls := .type "set_iterator", data := .fields #[rawInt 0, .int (0 : Nat) 0, .ref a, .int es.size 0, .int ep 0] } := Heap.get?_push_size _ rfl
      refine ⟨"set_iterator", _, ⟨_, hI, rfl⟩, sit_next.lookup, ?_⟩
      exact hQ _ _ s.drawn [s.heap.objs.size, a] _ _ (fun b o e => Heap.get?_push_of_some _ e) (Nat.le_refl _) (by rw [Heap.size_push]; exact Nat.lt_succ_self _) x.key
        (fun A' hh => walk_slot (ks := ks) (o := o) (ep := ep) (Nat.ne_of_lt hlt) hB' h1 x.fits hh) (fun b hb => by
          rcases List.mem_cons.mp hb with rfl | hb
          · exact .inr ⟨Nat.le_refl _, by rw [Heap.size_push]; exact Nat.lt_succ_self _⟩
          · exact .inl (List.mem_singleton.mp hb)) ⟨⟨_, hI, rfl, rfl⟩, xt.keep fun o e => Heap.get?_push_of_some _ e⟩
end
end L2
set_option Elab.async false
set_option linter.all false
set_option maxRecDepth 100000
set_option maxHeartbeats 4000000
namespace L2
open PySem PySem.Spec PyProof.Rows
section
variable {prog : Program} {w : World} {A : Around} {E : Value → Shared → Prop} {s : Shared}
theorem hint_set {r : Addr} {Q : Bool → Shared → Prop} (hT : s.TypeIs (.ref r) "set") (h : Q false s) : wpAny (model prog w) A (Builtin.List.listLengthHint (.ref r)) Q E s := by
  unfold Builtin.List.listLengthHint
  refine wpAny_bind (wpAny_specialOf hT PySem.F.slot_set_len.lookup ?_)
  generalize hid : ("set.__len__" : String) = id0
  wp_delta
  rw [show splitId id0 = some ("set", "__len__") from by subst hid; decide +kernel]
  subst hid
  refine wpAny_bind (wpAny_isInstance (T := "set") (b := true) hT (by rw [isSubtype_type]; kernel_rfl) (wpAny_ite_split (fun q => absurd q (by decide)) (fun _ => ?_)))
  refine wpAny_ite_split (fun _ => wpAny_bind (wpAny_typeOf hT ?_)) (fun q => absurd (by decide +kernel) q)
  exact wpAny_pure h
theorem row_of_set {a S : Addr} {ks : List Str} {o : Obj} {es : Array (Int × Value)} {ep : Nat} {t : SetTable} {R : Result → Shared → Prop} (x : SX prog w s.heap a (!w.params.followText "set-order") ks o es ep t) (hh : A.handled = none) (hSa : S ≠ a) (hS : s.heap.get? S = some { cls := .type "list", data := .seq #[] })
    (hR : ∀ (h' : Heap) (tk : Nat) (dr : Drawn) (acc : Array Value) (c : Nat) (ord : List Str), (∀ b o, b ≠ S → s.heap.get? b = some o → h'.get? b = some o) → h'.get? S = some { cls := .type "list", dict := none, data := .seq acc c, slots := #[] } → ord.Perm ks →
      ItemsOf (fun i v => ∃ tk, v = .str (ord.getD i ⟨#[]⟩) tk) acc ord.length → R (.ok (.ret (.ref S))) { s with heap := h', toks := tk, drawn := dr }) :
    wpAny (model prog w) A.in1 (Builtin.List.listExtendWith (.ref S) (.ref a) (.ref S))
      (fun fin s' => match fin with | .done f => R (.ok f) s' | .again c' => c'.quiet = true ∧ codeAny (model prog w) A c' R s') (fun e s' => R (.error e) s') s := by
  have hT : s.TypeIs (.ref a) "set" := ⟨o, x.at_, x.ex.1⟩
  have hlt : a < s.heap.objs.size := Heap.lt_size x.at_
  have hSl : S < s.heap.objs.size := Heap.lt_size hS
  have hks : ks.length ≤ sizeLine := by rw [← x.len]; exact fits_of_scanBound x.sz
  unfold Builtin.List.listExtendWith
  refine wpAny_bind (wpAny_typeOf (T := "set") hT ?_)
  have e1 : Builtin.List.listSameRef (.ref S) (.ref a) = false := by simp [Builtin.List.listSameRef, hSa]
  simp only [e1, show (Value.type "set" == Value.type "list") = false by decide, show (Value.type "set" == Value.type "tuple") = false by decide, Bool.or_false, Bool.false_eq_true, if_false]
  refine wpAny_bind (iter_set x hlt fun I h1 dr fp ord St k1 hI hI2 hp W hfp st => ?_)
  have x1 := x.keep fun o e => k1 a o e
  have hT1 : ({ s with heap := h1, drawn := dr } : Shared).TypeIs (.ref a) "set" := ⟨o, x1.at_, x.ex.1⟩
  have hS1 := k1 S _ hS
  have hSf : S ∉ fp := fun q => by
    rcases hfp S q with q | q
    · exact hSa q
    · exact absurd hSl (Nat.not_lt.mpr q.1)
  have key : ∀ (h : Heap) (c1 tk : Nat), St 0 h → (∀ b o, b ≠ S → h1.get? b = some o → h.get? b = some o) → h.get? S = some { cls := .type "list", data := .seq #[] c1 } →
      codeAny (model prog w) A (.builtin "list.extend.loop" ⟨[.ref S, .ref I, .ref S], []⟩) R { s with heap := h, toks := tk, drawn := dr } := by
    intro h c1 tk st' kk hS'
    refine codeAny_extend_loopS (W A.in1 hh).toS (by rw [hp.length_eq]; exact hks) S hSf (.ref S) ord.length 0 _ #[] c1 rfl (Nat.zero_le _) st' hS' (ItemsOf.nil _) fun s' acc c' hm hS2 hacc => ?_
    rw [Moved.eq_with hm]
    refine hR s'.heap s'.toks dr acc c' ord (fun b o hb e => hm.heap b o (fun q => ?_) (kk b o hb (k1 b o e))) hS2 hp hacc
    rcases List.mem_cons.mp q with q | q
    · exact hb q
    · exact absurd (Heap.lt_size e) (Nat.not_lt.mpr (by rw [List.mem_singleton.mp q]; exact hI))
  refine wpAny_bind (wpAny_holding (hint_set hT1 ?_))
  refine wpAny_ite_split (fun _ => ?_) (fun _ => wpAny_pure ⟨plainId_quiet PySem.F.plain_extend_loop _, key _ 0 _ st (fun b o _ e => e) hS1⟩)
  refine wpAny_bind (wpAny_rule (wpAny_bind (show wpAny _ _ (updateSeq S (·.push .none) >>= fun _ => updateSeq S (·.pop)) _ _ _ from ?_)))
  refine wpAny_bind (wpAny_updateSeq hS1 rfl ?_)
  have hS2 := Heap.get?_update_self (Obj.mapSeq (·.push Value.none)) hS1 rfl
  refine wpAny_updateSeq (hz := by seq_fits) hS2 rfl ?_
  have hS3 := Heap.get?_update_self (Obj.mapSeq (·.pop)) hS2 rfl
  have oth : ∀ b o, b ≠ S → h1.get? b = some o → ((h1.update S (Obj.mapSeq (·.push Value.none))).update S (Obj.mapSeq (·.pop))).get? b = some o := fun b o hb e => (Heap.get?_update_other _ _ (Ne.symm hb)).trans ((Heap.get?_update_other _ _ (Ne.symm hb)).trans e)
  exact wpAny_pure ⟨plainId_quiet PySem.F.plain_extend_loop _, key _ _ _ ((W A.in1 hh).frame 0 _ _ st fun b hb o e => oth b o (fun q => hSf (q ▸ hb)) e) oth hS3⟩
theorem collect_set {a : Addr} {ks : List Str} {o : Obj} {es : Array (Int × Value)} {ep : Nat} {t : SetTable} {R : List Value → Shared → Prop} (x : SX prog w s.heap a (!w.params.followText "set-order") ks o es ep t) (hh : A.handled = none)
    (h : ∀ (h' : Heap) (tk : Nat) (dr : Drawn) (vs : List Value) (ord : List Str), (∀ b o, s.heap.get? b = some o → h'.get? b = some o) → s.heap.objs.size ≤ h'.objs.size → ord.Perm ks → StrsAre vs ord → R vs { s with heap := h', toks := tk, drawn := dr }) :
    wpAny (model prog w) A (collect (.ref a)) R E s := by
  have hlt : a < s.heap.objs.size := Heap.lt_size x.at_
  have areS : ∀ (ord : List Str) (vs : List Value), vs.length = ord.length → (∀ (j : Nat) (v : Value), vs[j]? = some v → ∃ tk, v = .str (ord.getD j ⟨#[]⟩) tk) → StrsAre vs ord := by
    intro ord
    induction ord with
    | nil => intro vs hl _; rw [List.length_eq_zero_iff.mp hl]; exact .nil
    | cons k ord ih =>
      intro vs hl hv
      cases vs with
      | nil => cases hl
      | cons v vs =>
        obtain ⟨tk, rfl⟩ := hv 0 v rfl
        exact .cons _ _ (ih vs (by simpa using hl) fun j u hu => hv (j + 1) u hu)
  unfold collect
  refine wpAny_bind (wpAny_runValue (codeAny_builtin entry_proto_collect' ?_))
  rw [Around.under_plainId PySem.F.plain_proto_collect _]
  refine show wpAny _ A.in1 (newList [] >>= fun l => again (.builtin "list.__iadd__" ⟨[l, .ref a], []⟩)) _ _ s from ?_
  refine wpAny_bind (wpAny_newObj_type (wpAny_pure ⟨plainId_quiet PySem.F.plain_list_iadd _, codeAny_builtin entry_list_iadd' ?_⟩))
  rw [Around.under_plainId PySem.F.plain_list_iadd _]
  have hS : (s.heap.push { cls := .type "list", data := .seq ([] : List Value).toArray }).get? s.heap.objs.size = some { cls := .type "list", data := .seq #[] } := Heap.get?_push_size _ rfl
  refine show wpAny _ A.in1 (Builtin.List.listExtendWith (.ref s.heap.objs.size) (.ref a) (.ref s.heap.objs.size)) _ _ _ from ?_
  have key := row_of_set (A := A) (s := { s with heap := s.heap.push { cls := .type "list", data := .seq ([] : List Value).toArray } }) (S := s.heap.objs.size)
    (R := fun (q : Result) (s' : Shared) => ∃ (h' : Heap) (tk : Nat) (dr : Drawn) (acc : Array Value) (c : Nat) (ord : List Str), q = .ok (.ret (.ref s.heap.objs.size)) ∧ s' = { s with heap := h', toks := tk, drawn := dr } ∧
      (∀ b o, s.heap.get? b = some o → h'.get? b = some o) ∧ h'.get? s.heap.objs.size = some { cls := .type "list", dict := none, data := .seq acc c, slots := #[] } ∧ ord.Perm ks ∧ StrsAre acc.toList ord)
    (x.keep fun o e => Heap.get?_push_of_some _ e) hh (Nat.ne_of_gt hlt) hS
    (fun h' tk dr acc c ord hk hS' hp hacc => ⟨h', tk, dr, acc, c, ord, rfl, rfl, fun b o e => hk b o (Nat.ne_of_lt (Heap.lt_size e)) (Heap.get?_push_of_some _ e), hS', hp, areS ord acc.toList (by rw [Array.length_toList]; exact hacc.1) fun j v hv => hacc.2 j v (by rw [← Array.getElem?_toList]; exact hv)⟩)
  refine wpAny_mono key (fun fin s' y => ?_) fun e s' y => ?_
  · cases fin with
    | done f =>
      obtain ⟨h', tk, dr, acc, c, ord, e, rfl, hk, hS', hp, hst⟩ := y
      cases e
      exact wpAny_bind (wpAny_load hS' (wpAny_pure (h h' tk dr _ ord hk (Nat.le_of_lt (Heap.lt_size hS')) hp hst)))
    | again c1 =>
      refine ⟨y.1, codeAny_mono y.2 fun q s2 y2 => ?_⟩
      obtain ⟨h', tk, dr, acc, c, ord, rfl, rfl, hk, hS', hp, hst⟩ := y2
      exact wpAny_bind (wpAny_load hS' (wpAny_pure (h h' tk dr _ ord hk (Nat.le_of_lt (Heap.lt_size hS')) hp hst)))
  · obtain ⟨_, _, _, _, _, _, q, _⟩ := y
    cases q
theorem sorted_set {a : Addr} {ks : List Str} {o : Obj} {es : Array (Int × Value)} {ep : Nat} {t : SetTable} {Q : Value → Shared → Prop} (x : SX prog w s.heap a (!w.params.followText "set-order") ks o es ep t) (hh : A.handled = none) (h64 : ks.length < 64)
    (h : ∀ (D : Addr) (h' : Heap) (tk : Nat) (dr : Drawn) (vs : List Value) (ss : List Str) (c : Nat), (∀ b o, s.heap.get? b = some o → h'.get? b = some o) → s.heap.objs.size ≤ D → h'.get? D = some (seqObj "list" vs.toArray c) → StrsAre vs ss → ss.Perm ks → sortedS ss = true →
      Q (.ref D) { s with heap := h', toks := tk, drawn := dr }) :
    wpAny (model prog w) A (call (.builtin "sorted") [.ref a]) Q E s := by
  refine Calls.call_function_entry kind_sorted plain_sorted entry_sorted (args_sorted1 _) ?_
  unfold Builtin.«sorted»
  refine wpAny_bind (m := checkCount "sorted" 1 1 _) (wpAny_pure ?_)
  refine wpAny_bind (collect_set (A := A.in1) x hh fun h1 tk dr vs ord k1 z1 hp hst => ?_)
  have hl : vs.length = ord.length := hst.length
  have ho : ord.length < 64 := by rw [hp.length_eq]; exact h64
  refine wpAny_bind (wpAny_newList ?_ (by rw [hl]; have := sizeLine_eq; omega))
  have hD : (h1.push (seqObj "list" vs.toArray 0)).get? h1.objs.size = some (seqObj "list" vs.toArray 0) := Heap.get?_push_size _ rfl
  refine wpAny_bind (wpAny_holding (wpAny_call_entry slot_list_sort ⟨_, hD, rfl⟩ entry_list_sort (list_sort_treeK strKind_oneLt hD hst.keysOf (fun v1 v2 rest e => keyKind_strs (by rw [← e]; exact hst)) (by omega) fun st' a1 a2 => ⟨_, rfl, ?_⟩) (args_list_sort _)))
  obtain ⟨ss, q1, q2, q3⟩ := sorted_out_str hst a1 a2
  obtain ⟨c, hc⟩ := sortedHeap_at (out := (arrOf st').map (·.2)) hD
  have hlt1 : ∀ b o, s.heap.get? b = some o → b < h1.objs.size := fun b o e => Heap.lt_size (k1 b o e)
  refine wpAny_pure ⟨_, rfl, h h1.objs.size _ tk dr _ ss c (fun b o e => ?_) z1 (by rw [Array.toArray_toList]; exact hc) q1 (q2.trans hp) q3⟩
  rw [sortedHeap_old (Nat.ne_of_lt (hlt1 b o e)) (by rw [Heap.size_push]; exact Nat.lt_succ_of_lt (hlt1 b o e))]
  exact Heap.get?_push_of_some _ (k1 b o e)
end
end L2
set_option Elab.async false
set_option linter.all false
set_option maxRecDepth 100000
set_option maxHeartbeats 4000000
namespace L2
open PySem PySem.Spec PyProof.Rows
theorem sub_tuple_set : isSubtype (.type "tuple") (.type "set") = pure false := by rw [isSubtype_type]; kernel_rfl
theorem sub_tuple_fs : isSubtype (.type "tuple") (.type "frozenset") = pure false := by rw [isSubtype_type]; kernel_rfl
section
variable {X : Cx} {pins : List (Addr × Obj)} {σ : L2.St} {H : Hp} {s : Shared}
theorem Inv.dr (I : Inv X pins σ H s) (dr : Drawn) : Inv X pins σ H { s with drawn := dr } := ⟨I.ok, I.os, I.bare, I.base, I.loc, I.cell, I.free, I.freeC, I.pin, I.hok, I.len⟩
theorem str_at : ∀ {its : List Value} {ss : List Str}, StrsAre its ss → ∀ (i : Nat) (v : Value), its[i]? = some v → ∃ t, v = .str (ss.getD i ⟨#[]⟩) t
  | _, _, .nil, i, v, h => by simp at h
  | _, _, .cons x t r, 0, v, h => by simp at h; exact ⟨t, h.symm⟩
  | _, _, .cons x t r, i + 1, v, h => str_at r i v (by simpa using h)
def rSortedSet : List V → Hp → VK → Prop := fun vs H Q => match vs with
  | [.ref l] => ∃ ss : List Str, seqOf (H l) = some (ss.map V.str) ∧ ss.length < 64 ∧ ∀ (p : Addr) (ss' : List Str), H p = none → sortedS ss' = true → ss'.Nodup → (∀ x, x ∈ ss' ↔ x ∈ ss) → Q (.ref p) (upd H p (.lst (ss'.map V.str)))
  | _ => False
theorem rSortedSet_ref (l : Addr) (H : Hp) (Q : VK) : rSortedSet [.ref l] H Q = (∃ ss : List Str, seqOf (H l) = some (ss.map V.str) ∧ ss.length < 64 ∧ ∀ (p : Addr) (ss' : List Str), H p = none → sortedS ss' = true → ss'.Nodup → (∀ x, x ∈ ss' ↔ x ∈ ss) → Q (.ref p) (upd H p (.lst (ss'.map V.str)))) := rfl
def tSortedSet (ta : TE) : TE := tCB rSortedSet (tCons ta tNil)
theorem fm_mem (ss : List Str) (x : Str) : x ∈ fmS (fun i => ss.getD i ⟨#[]⟩) ss.length ↔ x ∈ ss := by
  rw [fmS_mem]
  constructor
  · rintro ⟨j, hj, e⟩
    rw [List.getD_eq_getElem?_getD, List.getElem?_eq_getElem hj] at e
    exact e ▸ List.getElem_mem hj
  · intro h
    obtain ⟨j, hj, e⟩ := List.getElem_of_mem h
    exact ⟨j, hj, by rw [List.getD_eq_getElem?_getD, List.getElem?_eq_getElem hj]; exact e⟩
theorem set_of {l : Addr} {ss : List Str} {Q : Value → Shared → Prop} (I : Inv X pins σ H s) (hh : X.A.handled = none) (e : seqOf (H l) = some (ss.map V.str)) (hl : ss.length < 64)
    (h : ∀ (h' : Heap) (tk : Nat), SXO X.prog X.w h' s.heap.objs.size (!X.w.params.followText "set-order") (fmS (fun i => ss.getD i ⟨#[]⟩) ss.length) → (∀ b o, b < s.heap.objs.size → s.heap.get? b = some o → h'.get? b = some o) → Q (.ref s.heap.objs.size) { s with heap := h', toks := tk }) :
    wpAny (model X.prog X.w) X.A (call (.type "set") [.ref l]) Q X.xe s := by
  cases eo : H l with
  | none => rw [eo] at e; cases e
  | some ob =>
    rw [eo] at e
    cases ob with
    | lst xs =>
      have ex : xs = ss.map V.str := by simpa [seqOf] using e
      subst ex
      obtain ⟨its, rr, pl, hz⟩ := I.list (SqL.of eo)
      have hli := rr.length
      rw [List.length_map] at hli
      have hst := strsAre_of rr
      obtain ⟨ol, g1, g2, n, g3⟩ := pl.isList
      have hsz : its.toArray.size = ss.length := by rw [List.size_toArray]; exact hli.symm
      refine call_setX (T := "list") (IT := "list_iterator") (items := its.toArray) (ss := ss) (St := fun J i h => h.IsListIter J l i ∧ h.IsList l its.toArray) hh g1 g2 PySem.F.sub_list_set PySem.F.sub_list_frozenset (by decide) (fun A' E' s' Q' e' q => wpAny_pyIter_list ⟨ol, e', g2, n, g3⟩ q)
        (fun A' J hA hne => Walks.list hA J l hne its.toArray) (fun J h e1 e2 => ⟨⟨_, e2, rfl, rfl⟩, ol, e1, g2, n, g3⟩) (fun i v hv => str_at hst i v (by simpa using hv)) (by rw [hsz]; unfold scanBound; omega) ?_
      rw [hsz]
      exact h
    | tup xs =>
      have ex : xs = ss.map V.str := by simpa [seqOf] using e
      subst ex
      obtain ⟨its, rr, pl, hz⟩ := I.tuple (SqT.of eo)
      have hli := rr.length
      rw [List.length_map] at hli
      have hst := strsAre_of rr
      obtain ⟨ol, g1, g2, n, g3⟩ := pl
      have hsz : its.toArray.size = ss.length := by rw [List.size_toArray]; exact hli.symm
      refine call_setX (T := "tuple") (IT := "tuple_iterator") (items := its.toArray) (ss := ss) (St := fun J i h => h.IsTupleIter J l i ∧ h.IsTuple l its.toArray) hh g1 g2 sub_tuple_set sub_tuple_fs (by decide) (fun A' E' s' Q' e' q => wpAny_pyIter_tuple ⟨ol, e', g2, n, g3⟩ q)
        (fun A' J hA hne => Walks.tuple hA J l hne its.toArray) (fun J h e1 e2 => ⟨⟨_, e2, rfl, rfl⟩, ol, e1, g2, n, g3⟩) (fun i v hv => str_at hst i v (by simpa using hv)) (by rw [hsz]; unfold scanBound; omega) ?_
      rw [hsz]
      exact h
    | _ => simp [seqOf] at e
theorem pe_sortedSet {a : Expr} {ta : TE} {p1 p2 q1 q2 : Pos} (hc : X.calm = true) (hg : Gl X "sorted") (hm : X.mg "sorted" = none) (hg2 : Gl X "set") (hm2 : X.mg "set" = none) (ha : PE X a ta)
    (hs : starEach [(.Call (.Name "set" p2) [a] [] q2)] X.env = [(false, eval (.Call (.Name "set" p2) [a] [] q2) X.env)] := by rfl) (hs2 : starEach [a] X.env = [(false, eval a X.env)] := by rfl) :
    PE X (.Call (.Name "sorted" p1) [.Call (.Name "set" p2) [a] [] q2] [] q1) (tSortedSet ta) := by
  intro pins s σ H Q I h
  refine wpAny_Call_Name_kw (ld_blt I hg hm bt_sorted (PyProof.Rows.callWith_builtin1 ?_ hs rfl))
  rw [hs]
  refine show wpAny _ _ (spliced ((false, eval (.Call (.Name "set" p2) [a] [] q2) X.env) :: [])) _ _ s from Calls.spliced_cons ?_
  have hA : PA X [a] (tCons ta tNil) := pa_cons ha pa_nil hs2
  refine wpAny_Call_Name_kw (ld_blt I hg2 hm2 bt_set (PyProof.Rows.callWith_type1 (thn (hA q2 pins s σ H (fun vs H1 => rSortedSet vs H1 Q) I h) fun us s1 ⟨vs, H1, I1, r1, q1⟩ => ?_) hs2 rfl))
  replace q1 : rSortedSet vs H1 Q := q1
  unfold rSortedSet at q1
  split at q1
  · rename_i l
    obtain ⟨ss, e, hl, q⟩ := q1
    obtain ⟨u, rfl, ru⟩ := vals1 r1
    cases ru
    have hh := I1.ok.hd hc
    refine set_of I1 hh e hl fun h' tk hS hk => Calls.spliced_nil ?_
    obtain ⟨o, es, ep, t, x⟩ := hS
    have fl := fmS_le (fun i => ss.getD i ⟨#[]⟩) ss.length
    have I2 : Inv X pins σ H1 { s1 with heap := h', toks := tk } := I1.kept fun b o e => hk b o (Heap.lt_size e) e
    refine sorted_set (s := { s1 with heap := h', toks := tk }) x hh (by omega) fun D h2 tk2 dr vs2 ss2 c k2 hD e2 st2 p2 srt => ?_
    have hsl : ss2.length < 64 := by rw [p2.length_eq]; omega
    have hvl : vs2.length = ss2.length := st2.length
    have hln : sizeLine = 16777216 := sizeLine_eq
    have I3 : Inv X pins σ (upd H1 D (.lst (ss2.map V.str))) { ({ s1 with heap := h', toks := tk } : Shared) with heap := h2, toks := tk2 } :=
      I2.laid (fun b o e => k2 b o e) hD ⟨by rw [List.length_map]; omega, vs2, c, vals_of_strs st2, e2⟩
    refine ⟨.ref D, _, I3.dr dr, rfl, q D ss2 (I2.hok.fresh hD) srt (p2.nodup_iff.mpr x.nd) fun y => ?_⟩
    rw [p2.mem_iff]
    exact fm_mem ss y
  · exact q1.elim
theorem qpe_sortedSet {a : Expr} {ta : TE} {p1 p2 q1 q2 : Pos} (hc : X.calm = true) (hg : Gl X "sorted") (hm : X.mg "sorted" = none) (hg2 : Gl X "set") (hm2 : X.mg "set" = none) (ha : QE X a ta)
    (hs : starEach [(.Call (.Name "set" p2) [a] [] q2)] X.env = [(false, eval (.Call (.Name "set" p2) [a] [] q2) X.env)] := by rfl) (hs2 : starEach [a] X.env = [(false, eval a X.env)] := by rfl) :
    QE X (.Call (.Name "sorted" p1) [.Call (.Name "set" p2) [a] [] q2] [] q1) (tSortedSet ta) := ⟨pe_sortedSet hc hg hm hg2 hm2 ha.h hs hs2⟩
end
def leS (a b : Str) : Prop := ¬ b.cps.toList < a.cps.toList
theorem leS_trans {a b c : Str} (h1 : leS a b) (h2 : leS b c) : leS a c := fun q => by
  have e1 : a.cps.toList ≤ b.cps.toList := List.not_lt.mp h1
  have e2 : b.cps.toList ≤ c.cps.toList := List.not_lt.mp h2
  exact (List.not_lt.mpr (List.le_trans e1 e2)) q
theorem leS_anti {a b : Str} (h1 : leS a b) (h2 : leS b a) : a = b := by
  have e : a.cps.toList = b.cps.toList := List.le_antisymm (List.not_lt.mp h1) (List.not_lt.mp h2)
  obtain ⟨x⟩ := a
  obtain ⟨y⟩ := b
  have : x = y := Array.toList_inj.mp e
  rw [this]
theorem rising_pw : ∀ (p : Str) (l : List Str), risingS p l = true → (p :: l).Pairwise leS
  | p, [], _ => by simp
  | p, x :: r, h => by
    simp only [risingS, Bool.and_eq_true, Bool.not_eq_true', ltCps_eq, decide_eq_false_iff_not] at h
    have ih := rising_pw x r h.2
    refine List.pairwise_cons.mpr ⟨fun y hy => ?_, ih⟩
    rcases List.mem_cons.mp hy with rfl | hy
    · exact h.1
    · exact leS_trans h.1 ((List.pairwise_cons.mp ih).1 y hy)
theorem sorted_pw : ∀ {l : List Str}, sortedS l = true → l.Pairwise leS
  | [], _ => .nil
  | p :: l, h => rising_pw p l h
theorem sorted_one : ∀ {l m : List Str}, sortedS l = true → sortedS m = true → l.Nodup → m.Nodup → (∀ x, x ∈ l ↔ x ∈ m) → l = m := by
  have gen : ∀ (l m : List Str), l.Pairwise leS → m.Pairwise leS → l.Nodup → m.Nodup → (∀ x, x ∈ l ↔ x ∈ m) → l = m := by
    intro l
    induction l with
    | nil =>
      intro m _ _ _ _ h
      cases m with
      | nil => rfl
      | cons y m => exact absurd ((h y).mpr (.head _)) (by simp)
    | cons a l ih =>
      intro m pl pm nl nm h
      cases m with
      | nil => exact absurd ((h a).mp (.head _)) (by simp)
      | cons b m =>
        obtain ⟨pa, pl'⟩ := List.pairwise_cons.mp pl
        obtain ⟨pb, pm'⟩ := List.pairwise_cons.mp pm
        obtain ⟨na, nl'⟩ := List.nodup_cons.mp nl
        obtain ⟨nb, nm'⟩ := List.nodup_cons.mp nm
        have hab : a = b := by
          rcases List.mem_cons.mp ((h a).mp (.head _)) with e | e
          · exact e
          · rcases List.mem_cons.mp ((h b).mpr (.head _)) with e' | e'
            · exact e'.symm
            · exact leS_anti (pa b e') (pb a e)
        subst hab
        rw [ih m pl' pm' nl' nm' fun x => ?_]
        constructor
        · intro hx
          rcases List.mem_cons.mp ((h x).mp (.tail _ hx)) with e | e
          · exact absurd (e ▸ hx) na
          · exact e
        · intro hx
          rcases List.mem_cons.mp ((h x).mpr (.tail _ hx)) with e | e
          · exact absurd (e ▸ hx) nb
          · exact e
  intro l m h1 h2
  exact gen l m (sorted_pw h1) (sorted_pw h2)
end L2
set_option Elab.async false
set_option linter.all false
set_option maxRecDepth 100000
set_option maxHeartbeats 4000000
namespace L2
open PySem PySem.Spec PyProof.Rows
end L2
set_option Elab.async false
set_option linter.all false
set_option maxRecDepth 100000
set_option maxHeartbeats 4000000
namespace L2
open PySem PySem.Spec PyProof.Rows
end L2
set_option Elab.async false
set_option linter.all false
set_option maxRecDepth 100000
set_option maxHeartbeats 4000000
namespace L2
open PySem PySem.Spec PyProof.Rows
end L2
set_option Elab.async false
set_option linter.all false
set_option maxRecDepth 100000
set_option maxHeartbeats 4000000
namespace L2
open PySem PySem.Spec PyProof.Rows
end L2
set_option Elab.async false
set_option linter.all false
set_option maxRecDepth 100000
set_option maxHeartbeats 4000000
namespace L2
open PySem PySem.Spec PyProof.Rows
end L2
set_option Elab.async false
set_option linter.all false
set_option maxRecDepth 100000
set_option maxHeartbeats 4000000
namespace L2
open PySem PySem.Spec PyProof.Rows
section
variable {prog : Program} {w : World} {A : Around} {E : Value → Shared → Prop} {s : Shared}
end
end L2
set_option Elab.async false
set_option linter.all false
set_option maxRecDepth 100000
set_option maxHeartbeats 4000000
namespace L2
open PySem PySem.Spec PyProof.Rows
section
variable {prog : Program} {w : World} {A : Around} {E : Value → Shared → Prop} {s : Shared}
variable {kf : Addr → List Int} {bd : Nat} {a : Addr} {led : Bool} {ks : List (List Int)} {o : Obj} {es : Array (Int × Value)} {ep : Nat} {t : SetTable} {L : List (Nat × (Int × Value))}
end
end L2
set_option Elab.async false
set_option linter.all false
set_option maxRecDepth 100000
set_option maxHeartbeats 4000000
namespace L2
open PySem PySem.Spec PyProof.Rows
section
variable {prog : Program} {w : World} {A : Around} {E : Value → Shared → Prop} {s : Shared}
variable {kf : Addr → List Int} {bd : Nat} {a : Addr} {led : Bool} {ks : List (List Int)} {o : Obj} {es : Array (Int × Value)} {ep : Nat} {t : SetTable} {L : List (Nat × (Int × Value))}
end
end L2
set_option Elab.async false
set_option linter.all false
set_option maxRecDepth 100000
set_option maxHeartbeats 4000000
namespace L2
open PySem PySem.Spec PyProof.Rows
section
variable {N : Nat} {r : Array Nat} (hN : 0 < N) (hr : ∀ x ∈ r.toList, x < N)
include hN hr
omit hN hr in
end
section
variable {prog : Program} {w : World} {A : Around} {E : Value → Shared → Prop} {s : Shared}
end
end L2
set_option Elab.async false
set_option linter.all false
set_option maxRecDepth 100000
set_option maxHeartbeats 4000000
namespace L2
open PySem PySem.Spec PyProof.Rows
section
variable {prog : Program} {w : World} {A : Around} {E : Value → Shared → Prop} {s : Shared}
end
end L2
set_option Elab.async false
set_option linter.all false
set_option maxRecDepth 100000
set_option maxHeartbeats 4000000
namespace L2
open PySem PySem.Spec PyProof.Rows
section
variable {prog : Program} {w : World} {A : Around} {R : Result → Shared → Prop} {I S : Addr} {fp wr : List Addr} {n : Nat} {P : Nat → Value → Prop} {St : Nat → Heap → Prop}
end
section
variable {prog : Program} {w : World} {A : Around} {E : Value → Shared → Prop} {s : Shared}
end
end L2
set_option Elab.async false
set_option linter.all false
set_option maxRecDepth 100000
set_option maxHeartbeats 4000000
namespace L2
open PySem PySem.Spec PyProof.Rows
section
variable {prog : Program} {w : World} {A : Around} {E : Value → Shared → Prop} {s : Shared}
end
end L2
set_option Elab.async false
set_option linter.all false
set_option maxRecDepth 100000
set_option maxHeartbeats 4000000
namespace L2
open PySem PySem.Spec PyProof.Rows
section
variable {prog : Program} {w : World} {A : Around} {E : Value → Shared → Prop} {s : Shared}
variable {I a : Addr} {o : Obj} {es : Array (Int × Value)} {ep : Nat} {t : SetTable}
end
end L2
set_option Elab.async false
set_option linter.all false
set_option maxRecDepth 100000
set_option maxHeartbeats 4000000
namespace L2
open PySem PySem.Spec PyProof.Rows
section
variable {prog : Program} {w : World} {A : Around} {E : Value → Shared → Prop} {s : Shared}
variable {a : Addr} {o : Obj} {es : Array (Int × Value)} {ep : Nat} {t : SetTable}
end
end L2
set_option Elab.async false
set_option linter.all false
set_option maxRecDepth 100000
set_option maxHeartbeats 4000000
namespace L2
open PySem PySem.Spec PyProof.Rows
section
variable {X : Cx} {pins : List (Addr × Obj)} {σ : L2.St} {H : Hp} {s : Shared}
end
end L2
set_option Elab.async false
set_option linter.all false
set_option maxRecDepth 100000
set_option maxHeartbeats 4000000
namespace L2
open PySem PySem.Spec PyProof.Rows
end L2
set_option Elab.async false
set_option linter.all false
set_option maxRecDepth 100000
set_option maxHeartbeats 4000000
namespace L2
open PySem PySem.Spec PyProof.Rows
section
variable {prog : Program} {w : World} {A : Around} {E : Value → Shared → Prop} {R : Result → Shared → Prop} {I : Addr} {fp wr : List Addr} {n : Nat} {P : Nat → Value → Prop} {St : Nat → Heap → Prop} {s : Shared}
end
section
variable {X : Cx}
end
end L2
set_option Elab.async false
set_option linter.all false
set_option maxRecDepth 100000
set_option maxHeartbeats 4000000
namespace L2
open PySem PySem.Spec PyProof.Rows
section
variable {X : Cx}
end
end L2
set_option Elab.async false
set_option linter.all false
set_option maxRecDepth 100000
set_option maxHeartbeats 4000000
namespace L2
open PySem PySem.Spec PyProof.Rows
section
variable {P : Program} {w : World} {H H' : Hp} {h h' : Heap} {a : Addr} {o : Obj} {cs : List Addr}
end
section
variable {P : Program} {w : World} {K : PySem.W.Frag} {mg : Str → Option Value} {base : Heap} {k : Nat} {f c' : Addr} {name qual : Str} {params : Arguments} {body : Expr} {scope : Scope} {pm ct : Value} {ps fs : List Str} {cl : List (Str × Addr)} {sp : Sp}
end
end L2
set_option Elab.async false
set_option linter.all false
set_option maxRecDepth 100000
set_option maxHeartbeats 4000000
namespace L2
open PySem PySem.Spec PyProof.Rows
section
variable {X : Cx}
variable {pins : List (Addr × Obj)} {σ : St} {H : Hp} {s : Shared}
end
end L2
set_option Elab.async false
set_option linter.all false
set_option maxRecDepth 100000
set_option maxHeartbeats 4000000
namespace L2
open PySem PySem.Spec PyProof.Rows
section
variable {X : Cx}
end
end L2
set_option Elab.async false
set_option linter.all false
set_option maxRecDepth 100000
set_option maxHeartbeats 4000000
namespace L2
open PySem PySem.Spec PyProof.Rows
end L2
set_option Elab.async false
set_option linter.all false
set_option maxRecDepth 100000
set_option maxHeartbeats 4000000
namespace L2
open PySem PySem.Spec PyProof.Rows
section
variable {X : Cx} {o i : Expr} {td ty : TE} {pos : Pos}
structure QPP (X : Cx) (pos : Pos) (keys : List (Option Expr)) (values : List Expr) (trs : List (TE × TE)) : Prop where
  h : PPs X pos keys values trs
theorem qpps_nil {pos : Pos} : QPP X pos [] [] [] := ⟨pps_nil⟩
theorem qpps_cons {pos : Pos} {k v : Expr} {ks : List (Option Expr)} {vs : List Expr} {tk tv : TE} {trs : List (TE × TE)} (hk : QE X k tk) (hv : QE X v tv) (hr : QPP X pos ks vs trs) : QPP X pos (some k :: ks) (v :: vs) ((tk, tv) :: trs) := ⟨pps_cons hk.h hv.h hr.h⟩
theorem qpe_disp {pos : Pos} {keys : List (Option Expr)} {values : List Expr} {trs : List (TE × TE)} (h : QPP X pos keys values trs) (hall : keys.all (·.isSome) = true := by rfl) (hl : keys.length = values.length := by rfl) (h0 : keys ≠ [] := by nofun) (h15 : keys.length ≤ 15 := by decide) : QE X (.Dict keys values pos) (tDisp trs) := ⟨pe_disp h.h hall hl h0 h15⟩
end
end L2
set_option Elab.async false
set_option linter.all false
set_option maxRecDepth 100000
set_option maxHeartbeats 4000000
namespace L2
open PySem PySem.Spec PyProof.Rows
section
variable {X : Cx} {tg : Expr}
end
end L2
set_option Elab.async false
set_option linter.all false
set_option maxRecDepth 100000
set_option maxHeartbeats 4000000
namespace L2
open PySem PySem.Spec PyProof.Rows
section
variable {X : Cx}
end
section
variable {P : Program} {w : World} {K : PySem.W.Frag}
theorem Inv.apartT {X : Cx} {pins : List (Addr × Obj)} {σ : St} {H : Hp} {s : Shared} (I : Inv X pins σ H s) {c d : Addr} {xs : List V} (h : SqT X.K H c xs) (f : FpOk X pins H d) : d ≠ c := by
  rintro rfl
  rcases h with (h | ⟨_, h⟩) | ⟨o, its, n, hk, _⟩
  · rw [f.1] at h; cases h
  · rw [f.1] at h; cases h
  · have hb := I.ok.mod.kin _ _ hk
    rcases f.2.2.2.1 with m | m
    · exact I.ok.noex _ _ hb m
    · exact absurd (Heap.lt_size (I.ok.bs _ _ hb).1) (Nat.not_lt.mpr m)
end
section
variable {X : Cx}
end
end L2
set_option Elab.async false
set_option linter.all false
namespace L2
open PySem PySem.Spec PyProof.Rows
section
variable {env : Env} {es : List Expr}
end
end L2
set_option Elab.async false
set_option linter.all false
set_option maxRecDepth 100000
set_option maxHeartbeats 4000000
namespace L2
open PySem PySem.Spec PyProof.Rows
section
variable {X : Cx} {o e f : Expr} {apos cpos : Pos} {td ty tx : TE}
def tDisp0 : TE := fun _ H Q => ∀ p, H p = none → Q (.ref p) (upd H p (.dK []))
theorem pe_disp0 {pos : Pos} : PE X (.Dict [] [] pos) tDisp0 := by
  intro pins s σ H Q I q
  have hn := I.hok.fresh (Nat.le_refl s.heap.objs.size)
  have I1 := I.laid (a := s.heap.objs.size) (o := .dK []) (h' := s.heap.push { cls := .type "dict", data := .dict #[] }) (t' := s.toks) (fun _ _ q => Heap.get?_push_of_some _ q) (Nat.le_refl _) (dk_empty s.heap I.big)
  exact wpAny_Dict_empty ⟨.ref s.heap.objs.size, _, I1, rfl, q _ hn⟩
theorem qpe_disp0 {pos : Pos} : QE X (.Dict [] [] pos) tDisp0 := ⟨pe_disp0⟩
end
end L2
set_option Elab.async false
set_option linter.all false
set_option maxRecDepth 100000
set_option maxHeartbeats 4000000
namespace L2
open PySem PySem.Spec PyProof.Rows
section
variable {X : Cx} {pins : List (Addr × Obj)} {σ : St} {H : Hp} {s : Shared}
end
end L2
set_option Elab.async false
set_option linter.all false
set_option maxRecDepth 100000
set_option maxHeartbeats 4000000
namespace L2
open PySem PySem.Spec PyProof.Rows
section
variable {P : Program} {w : World} {K : PySem.W.Frag} {mg : Str → Option Value} {base : Heap} {x qual : Str} {st : Stmt} {f td : Addr} {fd : FuncData} {N ps : List Str} {k : Nat} {sp : Sp}
end
end L2
set_option Elab.async false
set_option linter.all false
set_option maxRecDepth 100000
set_option maxHeartbeats 4000000
namespace L2
open PySem PySem.Spec PyProof.Rows
section
variable {X : Cx} {o e : Expr} {apos cpos : Pos} {td ty : TE}
end
end L2
set_option Elab.async false
set_option linter.all false
set_option maxRecDepth 100000
set_option maxHeartbeats 4000000
namespace L2
open PySem PySem.Spec PyProof.Rows
section
variable {P : Program} {w : World} {K : PySem.W.Frag}
end
section
variable {X : Cx}
end
end L2
set_option Elab.async false
set_option linter.all false
set_option maxRecDepth 100000
set_option maxHeartbeats 4000000
namespace L2
open PySem PySem.Spec PyProof.Rows
section
variable {prog : Program} {w : World} {J : Type} [DecidableEq J] {knd : HeapKind prog w J} {A : Around} {E : Value → Shared → Prop} {s : Shared} {d a : Addr} {k : J} {xs : List (J × Addr × Value)} {x : Value}
end
section
variable {X : Cx} {o e f : Expr} {apos cpos : Pos} {td ty tx : TE}
end
end L2
set_option Elab.async false
set_option linter.all false
set_option maxRecDepth 100000
set_option maxHeartbeats 4000000
namespace L2
open PySem PySem.Spec PyProof.Rows
section
variable {X : Cx}
def FzT (H : Hp) (a : Addr) (xs : List V) : Prop := ∃ o : Obj, o.dict = none ∧ H a = some (.frz o (.tup xs))
theorem FzT.sq {K : PySem.W.Frag} {H : Hp} {a : Addr} {xs : List V} (h : FzT H a xs) : SqT K H a xs := let ⟨o, _, e⟩ := h; .inl (.inr ⟨o, e⟩)
theorem FzT.kp {S : List Addr} {H H' : Hp} {a : Addr} {xs : List V} (h : FzT H a xs) (k : Kp S H H') (n : a ∉ S) : FzT H' a xs := let ⟨o, d, e⟩ := h; ⟨o, d, k.old _ _ e n⟩
theorem FzT.at_ {pins : List (Addr × Obj)} {σ : St} {H : Hp} {s : Shared} {a : Addr} {xs : List V} (h : FzT H a xs) (I : Inv X pins σ H s) : ∃ (o : Obj) (its : List Value), s.heap.get? a = some o ∧ o.dict = none ∧ o.cls = .type "tuple" ∧ Vals xs its ∧ IsTup s.heap a its.toArray := by
  obtain ⟨o, d, e⟩ := h
  obtain ⟨g, _, its, r, o', g', c, n, dd⟩ := (show ObjOk X.prog X.w H s.heap a (.frz o (.tup xs)) from I.hok a _ e)
  rw [g] at g'
  cases g'
  exact ⟨o, its, g, d, c, r, o, g, c, n, dd⟩
def rTupleF : List V → Hp → VK → Prop := fun xs H Q => ∃ p ys, xs = [.ref p] ∧ H p = some (.lst ys) ∧ ∀ l H', H l = none → FzT H' l ys → Kp [] H H' → Q (.ref l) H'
theorem call_tupleF : CallR X (.type "tuple") rTupleF := by
  intro pins s σ H xs us Q I r h
  obtain ⟨p, ys, rfl, e, q⟩ := h
  obtain ⟨u, rfl, rx⟩ := vals1 r
  cases rx
  obtain ⟨its, r', pl, hz⟩ := I.list (SqL.of e)
  have hlen := r'.length
  refine call_tuple_list pl.isList (fun h' kp => ?_) (by simp only [List.size_toArray] <;> omega)
  have I1 : Inv X pins σ H { s with heap := h' } := I.kept (t' := s.toks) kp
  have I2 := I1.laid (t' := s.toks) (o := .frz { cls := .type "tuple", data := .seq its.toArray } (.tup ys)) (h' := h'.push { cls := .type "tuple", data := .seq its.toArray }) (fun b o e => Heap.get?_push_of_some _ e) (Nat.le_refl _)
    (show ObjOk X.prog X.w _ _ _ (.frz _ (.tup ys)) from ⟨Heap.get?_push_size _ rfl, hz, its, r', IsTup.new _ _⟩)
  have hf := I1.hok.fresh (Nat.le_refl h'.objs.size)
  exact ⟨.ref h'.objs.size, _, I2, rfl, q _ _ hf ⟨_, rfl, upd_same⟩ ((Kp.refl [] H).new hf)⟩
theorem sq_reads {pins : List (Addr × Obj)} {σ : St} {H : Hp} {s : Shared} {a : Addr} {xs : List V} {ds : List PyData} (I : Inv X pins σ H s) (h : SqT X.K H a xs) (r : Reps H xs ds) : ∃ as, Reads s.heap (.ref a) (.tuple ds) as := by
  obtain ⟨its, rv, ⟨o, e1, e2, n, e4⟩, hz⟩ := I.tuple h
  obtain ⟨as, q⟩ := Reps.reads I r rv
  exact ⟨_, reads_tuple_at e1 e2 e4 (by simpa using q)⟩
def rEqT (K : PySem.W.Frag) : R2 := fun x y H Q => ∃ a b xs ys ds es, x = .ref a ∧ y = .ref b ∧ SqT K H a xs ∧ SqT K H b ys ∧ Reps H xs ds ∧ Reps H ys es ∧ SeqAt.shaped (.tuple ds) = true ∧ SeqAt.shaped (.tuple es) = true ∧ Q (.bl (PyData.eqvAll ds es)) H
theorem op_eqT {K : PySem.W.Frag} (hK : X.K = K) (hu : X.A.units + 64 < cLine) : OpR X (compareOp .Eq) (rEqT K) := by
  subst hK
  intro pins s σ H x y v u Q I rx ry h
  obtain ⟨a, b, xs, ys, ds, es, rfl, rfl, h1, h2, r1, r2, s1, s2, q⟩ := h
  cases rx
  cases ry
  obtain ⟨as, r1⟩ := sq_reads I h1 r1
  obtain ⟨bs, r2⟩ := sq_reads I h2 r2
  exact eq_dataH r1 r2 s1 s2 hu ⟨.bl _, H, I, rfl, by simpa [PyData.eqv] using q⟩
theorem tup_at (t : Addr) (items : Array Value) (x : Value) (e : Value → Bool) (j : Nat) (hj : j < items.size) (hit : e items[j] = true) (hno : ∀ m (hm : m < items.size), m < j → e items[m] = false) :
    Meets (Builtin.«tuple.index» ⟨[.ref t, x], []⟩) (fun A R s => IsTup s.heap t items ∧ (∀ y, y ∈ items → SeqAt.EqAt A.in1 s y x (e y)) ∧ R (.ok (.ret (.int j s.toks))) { s with toks := s.toks + 1 }) := by
  intro prog w A R s ⟨ht, he, h⟩
  obtain ⟨o, h1, h2, n, h3⟩ := ht
  wp_walk using wpAny_loadPart' h1
  rw [h3]
  refine wpAny_pure (wpAny_pure ?_)
  show wpAny _ _ (forIn ([0:min items.size items.size] : Std.Legacy.Range) _ _ >>= _) _ _ _
  refine wpAny_bind ?_
  rw [Std.Legacy.Range.forIn_eq_forIn_range']
  have sz : ([0:min items.size items.size] : Std.Legacy.Range).size = items.size := by simp [Std.Legacy.Range.size]
  rw [sz]
  refine wpAny_forIn_list _ (fun rest b s' => s' = s ∧ ∃ i, i ≤ j ∧ rest = List.range' i (items.size - i) 1) _ ?_ ?_ _ _ ⟨rfl, 0, Nat.zero_le _, rfl⟩
  · rintro y rest b s' ⟨rfl, i, hi, er⟩
    have hlt : i < items.size := by omega
    rw [show items.size - i = (items.size - (i + 1)) + 1 by omega, List.range'_succ] at er
    obtain ⟨rfl, rfl⟩ := List.cons.inj er
    rw [Array.getElem?_eq_getElem hlt]
    refine wpAny_bind (he _ (Array.getElem_mem hlt) prog w _ _ ?_)
    by_cases hij : y = j
    · subst hij
      rw [hit]
      wp_walk
      exact h
    · rw [hno y hlt (by omega)]
      wp_walk
      exact ⟨rfl, y + 1, by omega, rfl⟩
  · rintro b s' ⟨rfl, i, hi, er⟩
    have := congrArg List.length er
    simp at this
    omega
def rTIndexD : V → List V → Hp → VK → Prop := fun x vs H Q => match x, vs with
  | .ref l, [y] => ∃ (xs : List V) (ds : List PyData) (d : PyData) (j : Nat), FzT H l xs ∧ Reps H xs ds ∧ Rep H y d ∧ PyData.canLayAll0 ds = true ∧ d.canLay0 = true ∧ PyData.depthAll ds ≤ 40 ∧ (∃ e, ds[j]? = some e ∧ PyData.eqv e d = true) ∧
      (∀ m e, m < j → ds[m]? = some e → PyData.eqv e d = false) ∧ Q (.int (j : Int)) H
  | _, _ => False
theorem mt_tindexD (hu : X.A.units + 64 < cLine) : MtM X "tuple.index" rTIndexD := by
  intro pins s σ H x vs v us Q I rx rv h
  unfold rTIndexD at h
  split at h
  · rename_i l y
    obtain ⟨xs, ds, d, j, e, hr, hy, hcs, hcd, hdp, ⟨ej, hj, hit⟩, hno, q⟩ := h
    cases rx
    obtain ⟨u, rfl, ru⟩ := rv.one
    obtain ⟨_, its, _, _, _, r, pt⟩ := e.at_ I
    obtain ⟨as, ra⟩ := hr.reads I r
    obtain ⟨bs, rb⟩ := hy.reads I ru
    have hm := SeqAt.readsAll_map ds its as hcs ra
    have at' : ∀ m (hm' : m < its.toArray.size), ds[m]? = some (SeqAt.readOf s.heap its.toArray[m]) := fun m hm' => by
      have q1 : (its.map (SeqAt.readOf s.heap))[m]? = some (SeqAt.readOf s.heap its.toArray[m]) := by
        simp
        exact ⟨_, List.getElem?_eq_getElem (by simpa using hm'), rfl⟩
      rwa [hm] at q1
    have hjs : j < its.toArray.size := by
      have q1 := (List.getElem?_eq_some_iff.mp hj).1
      rw [← hm, List.length_map] at q1
      simpa using q1
    refine call_meets F.slot_tuple_index pt.typeIs F.entry_tuple_index (F.args_tuple_index_2 _ _) (tup_at l its.toArray u (fun y => PyData.eqv (SeqAt.readOf s.heap y) d) j hjs ?_ fun m h1 h2 => hno m _ h2 (at' m h1)) ⟨pt, SeqAt.items_eqAt (by simpa using ra) rb hcs hcd (by omega), .int (j : Int), H, I.tok _, ⟨_, rfl⟩, q⟩
    have q1 := at' j hjs
    rw [hj] at q1
    rw [← Option.some.inj q1]
    exact hit
  · exact h.elim
def isTu (x : V) (H : Hp) : Prop := ∃ p ys, x = .ref p ∧ FzT H p ys
def tBMTu (r : V → List V → Hp → VK → Prop) (to : TE) (t : TA) : TE := fun σ H Q => to σ H fun x H1 => isTu x H1 ∧ t σ H1 fun xs H2 => r x xs H2 Q
theorem pe_bmTu {o e : Expr} {es : List Expr} {to : TE} {t : TA} {name : Str} {apos cpos : Pos} {id : String} {r : V → List V → Hp → VK → Prop} (slot : Slot "tuple" name id) (hty : typeOf (.builtin id) = pure (.type "method_descriptor")) (hm : MtM X id r) (ho : PE X o to) (ha : PA X (e :: es) t)
    (hbase : attributeBase o name X.env (eval o X.env) = eval o X.env)
    (hfew : ((backTo cpos (starEach (e :: es) X.env)).all (fun x => !x.1) && (backToKw cpos (keywordEach [] X.env)).all (fun x => x.1.isSome)
      && decide ((e :: es).length + ([] : List Keyword).length + (if ([] : List Keyword).isEmpty then 0 else 1) < 30)) = true)
    (hline : (apos.endLine == cpos.line) = true) (hs : starEach (e :: es) X.env = (false, eval e X.env) :: starEach es X.env) (hplain : (backTo cpos (starEach es X.env)).any (·.1) = false) :
    PE X (.Call (.Attribute o name apos) (e :: es) [] cpos) (tBMTu r to t) := by
  intro pins s σ H Q I h
  refine wpAny_Call_method_late hbase hfew hline rfl (thn (ho pins s σ H _ I h) fun v s1 ⟨x, H1, I1, r1, ⟨p, ys, ex, f⟩, q1⟩ => ?_)
  subst ex
  obtain rfl : v = Value.ref p := r1
  obtain ⟨ob, its, g, d, oc, rr, pt⟩ := f.at_ I1
  refine ⟨"tuple", id, PySem.F.plainAttrs_tuple, slot, hty, ⟨ob, g, oc⟩, fun a ea => by cases ea; exact ⟨ob, g, d⟩, ?_⟩
  have hA := ha cpos pins s1 σ H1 _ I1 q1
  rw [hs] at hA ⊢
  refine Calls.callWith_builtin (by show (false || (backTo cpos (starEach es X.env)).any (·.1)) = false; rw [hplain] <;> rfl) (Calls.evalArgs_plain (thn hA fun us s2 ⟨vs, H2, I2, r2, q2⟩ => hm pins s2 σ H2 (.ref p) vs (.ref p) us Q I2 rfl r2 q2))
theorem qpe_bmTu {o e : Expr} {es : List Expr} {to : TE} {t : TA} {name : Str} {apos cpos : Pos} {id : String} {r : V → List V → Hp → VK → Prop} (slot : Slot "tuple" name id) (hty : typeOf (.builtin id) = pure (.type "method_descriptor")) (hm : MtM X id r) (ho : QE X o to) (ha : QA X (e :: es) t)
    (hbase : attributeBase o name X.env (eval o X.env) = eval o X.env := by rfl)
    (hfew : ((backTo cpos (starEach (e :: es) X.env)).all (fun x => !x.1) && (backToKw cpos (keywordEach [] X.env)).all (fun x => x.1.isSome)
      && decide ((e :: es).length + ([] : List Keyword).length + (if ([] : List Keyword).isEmpty then 0 else 1) < 30)) = true := by rfl)
    (hline : (apos.endLine == cpos.line) = true := by rfl) (hs : starEach (e :: es) X.env = (false, eval e X.env) :: starEach es X.env := by rfl) (hplain : (backTo cpos (starEach es X.env)).any (·.1) = false := by rfl) :
    QE X (.Call (.Attribute o name apos) (e :: es) [] cpos) (tBMTu r to t) := ⟨pe_bmTu slot hty hm ho.h ha.h hbase hfew hline hs hplain⟩
theorem qpi_tup {K : PySem.W.Frag} {tg l : Expr} {tl : TE} (hl : QE X l tl) (hK : X.K = K) : QI X tg l (iTup K tl) := by subst hK; exact ⟨pi_tup hl.h⟩
end
theorem loop_tups {K : PySem.W.Frag} {a : Addr} {xs : List V} {g : TG} {tb : TS} {D : Ends} {σ : L2.St} {H : Hp} (Pv : Nat → L2.St → Hp → Prop) (h0 : Pv 0 σ H) (hl : ∀ i σ H, i ≤ xs.length → Pv i σ H → SqT K H a xs)
    (hs : ∀ i x σ H, xs[i]? = some x → Pv i σ H → g x σ H fun σ2 H2 => tb { D with nx := Pv (i + 1), ct := Pv (i + 1), bk := D.nx } σ2 H2) (hd : ∀ σ H, Pv xs.length σ H → D.nx σ H) : LoopR (Itt K a) g tb D σ H := for_tup Pv h0 hl hs hd
end L2
set_option Elab.async false
set_option linter.all false
set_option maxRecDepth 100000
set_option maxHeartbeats 4000000
namespace L2
open PySem PySem.Spec PyProof.Rows
section
variable {X : Cx} {pins : List (Addr × Obj)} {σ : St} {H : Hp} {s : Shared}
end
section
variable {X : Cx} {tg : Expr}
end
section
variable {H : Hp} {D : Addr} {r : L2.St} {tt : TT} {te : TE} {E : Ends}
end
end L2
set_option Elab.async false
set_option linter.all false
set_option maxRecDepth 100000
set_option maxHeartbeats 4000000
namespace L2
open PySem PySem.Spec PyProof.Rows
section
variable {X : Cx}
end
end L2
set_option Elab.async false
set_option linter.all false
set_option maxRecDepth 100000
set_option maxHeartbeats 4000000
namespace L2
open PySem PySem.Spec PyProof.Rows
section
variable {X : Cx} {pins : List (Addr × Obj)} {σ : St} {H : Hp} {s : Shared}
end
end L2
set_option Elab.async false
set_option linter.all false
set_option maxRecDepth 100000
set_option maxHeartbeats 4000000
namespace L2
open PySem PySem.Spec PyProof.Rows
section
variable {X : Cx}
end
end L2
set_option Elab.async false
set_option linter.all false
set_option maxRecDepth 100000
set_option maxHeartbeats 4000000
namespace L2
open PySem PySem.Spec PyProof.Rows
section
variable {X : Cx}
end
end L2
set_option Elab.async false
set_option linter.all false
set_option maxRecDepth 100000
set_option maxHeartbeats 4000000
namespace L2
open PySem PySem.Spec PyProof.Rows
section
variable {X : Cx} {K : PySem.W.Frag} {o e value : Expr} {f : Str} {pos pos' tpos : Pos} {ta tv : TE}
theorem qpe_fldK (hK : X.K = K) (he : QE X e ta) (hb : attributeBase e f X.env (eval e X.env) = eval e X.env := by rfl) : QE X (.Attribute e f pos) (tFld K ta f) := by subst hK; exact ⟨pe_fld he.h hb⟩
theorem qps_fld (hK : X.K = K) (ha : QE X o ta) (hv : QE X value tv) (hs : swapsWith value (some (.Attribute o f pos')) pos.line X.env = pure false := by rfl) : QS X (.Assign [.Attribute o f pos'] value pos) (sFld K ta tv f) := by subst hK; exact ⟨ps_fld ha.h hv.h hs⟩
end
section
variable {X : Cx} {CX : CXT} {k : Nat} {f C : Addr} {fd : FuncData} {ps : List Str} {sp : Sp} {dvs : List V} {ds : List Value} {E : XK} {x m : Str} {p pos apos : Pos} {e o : Expr} {es : List Expr} {ta : TE} {t : TA}
theorem qpe_meth {pl : Sem Bool} (he : QE X o ta) (c : Cls X.K C) (hm : Meth X.K C m f) (F : FnOk X.prog X.w X.K X.mg X.base CX k f fd ps sp) (hr : Room k X.A) (hb : Binds X.K fd ps ds) (hd : Vals dvs ds) (hx : Passes CX X E) (ha : QA X (e :: es) t)
    (hst : starEach (e :: es) X.env = (false, eval e X.env) :: starEach es X.env := by rfl) (hpl : (backTo pos (starEach es X.env)).any (·.1) = false := by rfl)
    (ht : eval (.Call (.Attribute o m apos) (e :: es) [] pos) X.env = (do
      let ov ← eval o X.env
      standAt apos.atName
      let (f, first) ← holding [ov] (getMethod ov m pl)
      callWith pos f first (backTo pos (starEach (e :: es) X.env)) (backToKw pos (keywordEach [] X.env))) := by rfl) :
    QE X (.Call (.Attribute o m apos) (e :: es) [] pos) (tMeth C m sp dvs E ta t) := ⟨pe_meth he.h c hm F hr hb hd hx ha.h hst hpl ht⟩
end
section
variable {X : Cx}
end
end L2
set_option Elab.async false
set_option linter.all false
set_option maxRecDepth 100000
set_option maxHeartbeats 4000000
namespace L2
open PySem PySem.Spec PyProof.Rows
section
variable {X : Cx}
end
end L2
set_option Elab.async false
set_option linter.all false
set_option maxRecDepth 100000
set_option maxHeartbeats 4000000
namespace L2
open PySem PySem.Spec PyProof.Rows
section
variable {X : Cx}
end
end L2
set_option Elab.async false
set_option linter.all false
set_option maxRecDepth 100000
set_option maxHeartbeats 4000000
namespace L2
open PySem PySem.Spec PyProof.Rows
section
variable {X : Cx} {CX : CXT} {k : Nat} {f C : Addr} {fd : FuncData} {ps : List Str} {sp : Sp} {dvs : List V} {ds : List Value} {E : XK} {x m : Str} {p pos apos : Pos} {e o : Expr} {es : List Expr} {ta : TE} {t : TA}
theorem qpe_make (M : Mk X.K C f) (F : FnOk X.prog X.w X.K X.mg X.base CX k f fd ps sp) (hr : Room (k + 1) X.A) (hg : Gl X x) (hm : X.mg x = some (.ref C)) (hb : Binds X.K fd ps ds) (hd : Vals dvs ds) (hx : Passes CX X E) (ha : QA X (e :: es) t)
    (hdb : (x == ("__debug__" : Str)) = false := by decide) (he : starEach (e :: es) X.env = (false, eval e X.env) :: starEach es X.env := by rfl) (hpl : (backTo pos (starEach es X.env)).any (·.1) = false := by rfl) :
    QE X (.Call (.Name x p) (e :: es) [] pos) (tMake C sp dvs E t) := ⟨pe_make M F hr hg hm hb hd hx ha.h hdb he hpl⟩
end
section
variable {X : Cx}
end
end L2
set_option Elab.async false
set_option linter.all false
set_option maxRecDepth 100000
set_option maxHeartbeats 4000000
namespace L2
open PySem PySem.Spec PyProof.Rows
section
variable {X : Cx}
end
end L2
set_option Elab.async false
set_option linter.all false
set_option maxRecDepth 100000
set_option maxHeartbeats 4000000
namespace L2
open PySem PySem.Spec PyProof.Rows
structure ItP (prog : Program) (w : World) (K : Type) [DecidableEq K] where
  is : Heap → K → Value → Prop
  hash : K → Int
  draws : K → Nat
  inj : ∀ {h : Heap} {v : Value} {x y : K}, is h x v → is h y v → x = y
  keeps : ∀ {h h' : Heap} {k : K} {v : Value} {d : Addr} {o : Obj} {es ep}, is h k v → h.get? d = some o → o.data = .dict es ep → Heap.SameBut d h h' → is h' k v
  pyHash : ∀ {A : Around} {E : Value → Shared → Prop} {s : Shared} {k : K} {v : Value} {Q : Int → Shared → Prop}, A.units < cLine → is s.heap k v → Q (hash k) { s with toks := s.toks + draws k } → wpAny (model prog w) A (PySem.pyHash v) Q E s
  eqBool : ∀ {A : Around} {E : Value → Shared → Prop} {s : Shared} {x y : K} {u v : Value} {Q : Bool → Shared → Prop}, A.units < cLine → is s.heap x u → is s.heap y v → Q (decide (x = y)) s → wpAny (model prog w) A (PySem.eqBool u v) Q E s
  quiet : ∀ {A : Around} {E : Value → Shared → Prop} {s : Shared} {k : K} {v : Value} {Q : Bool → Shared → Prop}, is s.heap k v → Q true s → wpAny (model prog w) A (eqIsQuiet 7 v) Q E s
section
variable {prog : Program} {w : World} {A : Around} {E : Value → Shared → Prop} {s : Shared}
theorem quiet_items {a : Addr} {o : Obj} {its : Array Value} {n m : Nat} {Q : Bool → Shared → Prop} (ho : s.heap.get? a = some o) (hc : o.cls = .type "tuple") (hd : o.data = .seq its n)
    (hi : ∀ v ∈ its.toList, ∀ Q : Bool → Shared → Prop, Q true s → wpAny (model prog w) A (eqIsQuiet m v) Q E s) (h : Q true s) : wpAny (model prog w) A (eqIsQuiet (m + 1) (.ref a)) Q E s := by
  have hT : s.TypeIs (.ref a) "tuple" := ⟨o, ho, hc⟩
  unfold eqIsQuiet
  refine wpAny_bind (wpAny_specialOf hT F.slot_tuple_eq.lookup ?_)
  show wpAny _ _ (isInstance (.ref a) (.type "tuple") >>= _) _ _ s
  refine wpAny_bind (wpAny_isInstance hT isSubtype_tuple_tuple ?_)
  refine wpAny_bind (wpAny_seqItems ho hd (wpAny_bind ?_))
  show wpAny _ _ (forIn its _ _) _ _ s
  rw [← Array.forIn_toList]
  generalize its.toList = l at hi
  induction l with
  | nil => exact wpAny_pure (wpAny_pure h)
  | cons v l ih =>
    rw [List.forIn_cons]
    exact wpAny_bind (wpAny_bind (hi v (.head _) _ (wpAny_pure (ih fun u hu => hi u (.tail _ hu)))))
end
def ItP.tup {prog : Program} {w : World} {K : Type} [DecidableEq K] (knd : KeyKind prog w K) : ItP prog w (List K) where
  is := fun h k v => ∃ a, v = .ref a ∧ (tupleKind knd).is h k a
  hash := (tupleKind knd).hash
  draws := (tupleKind knd).draws
  inj := fun ⟨a, e, h1⟩ ⟨b, e', h2⟩ => by cases e; cases e'; exact (tupleKind knd).inj h1 h2
  keeps := fun ⟨a, e, h1⟩ h2 h3 h4 => ⟨a, e, (tupleKind knd).keeps h1 h2 h3 h4⟩
  pyHash := fun hu ⟨a, e, h⟩ q => by subst e; exact (tupleKind knd).pyHash hu h q
  eqBool := fun hu ⟨a, e, h⟩ ⟨b, e', h'⟩ q => by subst e; subst e'; exact (tupleKind knd).eqBool hu h h' q
  quiet := fun ⟨a, e, o, its, n, ho, hc, hd, hi⟩ q => by
    subst e
    exact quiet_items (m := 6) ho hc hd (fun v hv Q q => by rw [eqIsQuiet_byValue _ (hi.byValue v hv)]; exact wpAny_pure q) q
section
variable {prog : Program} {w : World} {K L : Type} [DecidableEq K] [DecidableEq L] (I : ItP prog w K) (J : ItP prog w L)
def IsPr (h : Heap) (k : K × L) (a : Addr) : Prop := ∃ o u v n, h.get? a = some o ∧ o.cls = .type "tuple" ∧ o.data = .seq #[u, v] n ∧ I.is h k.1 u ∧ J.is h k.2 v
variable {I J} {A : Around} {E : Value → Shared → Prop} {s : Shared} {k k' : K × L} {a b : Addr}
theorem IsPr.ty (p : IsPr I J s.heap k a) : s.TypeIs (.ref a) "tuple" := let ⟨o, _, _, _, ho, hc, _⟩ := p; ⟨o, ho, hc⟩
theorem IsPr.inj {h : Heap} (p : IsPr I J h k a) (q : IsPr I J h k' a) : k = k' := by
  obtain ⟨o, u, v, n, ho, _, hd, h1, h2⟩ := p
  obtain ⟨o', u', v', n', ho', _, hd', h1', h2'⟩ := q
  rw [ho] at ho'; cases ho'
  rw [hd] at hd'; cases hd'
  exact Prod.ext (I.inj h1 h1') (J.inj h2 h2')
theorem pair_hash {Q : Int → Shared → Prop} (hu : A.units + 1 < cLine) (p : IsPr I J s.heap k a) (h : Q (reduceHash (Builtin.Tuple.tupleHashOf [I.hash k.1, J.hash k.2])) { s with toks := s.toks + (I.draws k.1 + J.draws k.2 + 1) }) :
    wpAny (model prog w) A (PySem.pyHash (.ref a)) Q E s := by
  have hT := p.ty
  obtain ⟨o, u, v, n, ho, hc, hd, h1, h2⟩ := p
  refine PySem.W.pyHash_slot (T := "tuple") hT F.slot_tuple_hash F.entry_tuple_hash (F.args_tuple_hash_1 _) (beq_builtin_none _) (.inr (by omega)) ?_
  show wpAny _ _ (Builtin.Tuple.tupleItemsOf (.ref a) >>= _) _ _ s
  refine wpAny_bind (wpAny_tupleItemsOf ho hd (wpAny_bind ?_))
  rw [← Array.forIn_toList]
  show wpAny _ _ (forIn [u, v] _ _) _ _ _
  have hu' : A.in1.units < cLine := hu
  rw [List.forIn_cons]
  refine wpAny_bind (wpAny_bind (I.pyHash hu' h1 (wpAny_pure ?_)))
  dsimp only
  rw [List.forIn_cons]
  refine wpAny_bind (wpAny_bind (J.pyHash (s := { s with toks := s.toks + I.draws k.1 }) hu' h2 (wpAny_pure ?_)))
  refine wpAny_pure ?_
  show wpAny _ _ (retInt _) _ _ _
  exact wpAny_bind (wpAny_mkInt (wpAny_pure ⟨_, _, rfl, by simpa [Nat.add_assoc] using h⟩))
theorem pair_eq {Q : Bool → Shared → Prop} (hu : A.units + 1 < cLine) (p : IsPr I J s.heap k a) (q : IsPr I J s.heap k' b) (h : Q (decide (k = k')) s) : wpAny (model prog w) A (PySem.eqBool (.ref a) (.ref b)) Q E s := by
  have hT := p.ty
  have hT' := q.ty
  unfold PySem.eqBool
  try with_reducible refine wpAny_holding ?_
  show wpAny _ _ (if (Value.ref a == Value.ref b) = true then _ else _) Q E s
  by_cases hab : a = b
  · subst hab
    rw [if_pos (by simp)]
    refine wpAny_bind (wpAny_rule (wpAny_pure ?_))
    rw [decide_eq_true (p.inj q)] at h
    exact h
  · rw [if_neg (by simpa using hab)]
    refine wpAny_bind (wpAny_richCompare_same_room (op := .Eq) hT hT' F.slot_tuple_eq (wpAny_call_entry F.slot_tuple_eq hT F.entry_tuple_eq ?_ (F.args_tuple_eq_2 _ _)) (by omega))
    obtain ⟨o, u, v, n, ho, hc, hd, h1, h2⟩ := p
    obtain ⟨o', u', v', n', ho', hc', hd', h1', h2'⟩ := q
    have hu' : A.in1.units < cLine := hu
    show wpAny _ _ (isInstance (.ref b) (.type "tuple") >>= _) _ _ s
    refine wpAny_bind (wpAny_isInstance hT' isSubtype_tuple_tuple ?_)
    simp only [Bool.not_true, Bool.false_eq_true, if_false]
    refine wpAny_bind (wpAny_tupleItemsOf ho hd (wpAny_bind (wpAny_tupleItemsOf ho' hd' (wpAny_bind ?_))))
    show wpAny _ _ (forIn [(u, u'), (v, v')] _ _) _ _ _
    rw [List.forIn_cons]
    refine wpAny_bind (wpAny_bind (I.eqBool hu' h1 h1' ?_))
    by_cases e1 : k.1 = k'.1
    · rw [decide_eq_true e1]
      simp only [Bool.not_true, Bool.false_eq_true, if_false]
      refine wpAny_pure ?_
      dsimp only
      rw [List.forIn_cons]
      refine wpAny_bind (wpAny_bind (J.eqBool hu' h2 h2' ?_))
      by_cases e2 : k.2 = k'.2
      · rw [decide_eq_true e2]
        rw [decide_eq_true (Prod.ext e1 e2)] at h
        simp only [Bool.not_true, Bool.false_eq_true, if_false]
        exact wpAny_pure (wpAny_pure (wpAny_pure ⟨_, rfl, (fun e => nomatch e), wpAny_truthy_bool h⟩))
      · rw [decide_eq_false e2]
        rw [decide_eq_false fun z => e2 (by rw [z])] at h
        exact wpAny_bind (wpAny_pure (wpAny_pure (wpAny_pure (wpAny_pure ⟨_, rfl, (fun e => nomatch e), wpAny_truthy_bool h⟩))))
    · rw [decide_eq_false e1]
      rw [decide_eq_false fun z => e1 (by rw [z])] at h
      exact wpAny_bind (wpAny_pure (wpAny_pure (wpAny_pure (wpAny_pure ⟨_, rfl, (fun e => nomatch e), wpAny_truthy_bool h⟩))))
end
def pairKind {prog : Program} {w : World} {K L : Type} [DecidableEq K] [DecidableEq L] (I : ItP prog w K) (J : ItP prog w L) : HeapKind prog w (K × L) where
  is := IsPr I J
  hash := fun k => reduceHash (Builtin.Tuple.tupleHashOf [I.hash k.1, J.hash k.2])
  draws := fun k => I.draws k.1 + J.draws k.2 + 1
  room := fun A => A.units + 1 < cLine
  inj := fun p q => p.inj q
  keeps := fun ⟨o, u, v, n, ho, hc, hd, h1, h2⟩ ho' hd' hs => ⟨o, u, v, n, (hs.2 _ (fun z => by rw [z, ho'] at ho; cases ho; rw [hd] at hd'; cases hd')).trans ho, hc, hd, I.keeps h1 ho' hd' hs, J.keeps h2 ho' hd' hs⟩
  pyHash := fun hu p h => pair_hash hu p h
  eqBool := fun hu p q h => pair_eq hu p q h
  quiet := fun ⟨o, u, v, n, ho, hc, hd, h1, h2⟩ h => quiet_items (m := 7) ho hc hd (fun x hx Q q => by
    simp only [List.mem_cons, List.not_mem_nil, or_false] at hx
    rcases hx with e | e
    · subst e; exact I.quiet h1 q
    · subst e; exact J.quiet h2 q) h
end L2
set_option Elab.async false
set_option linter.all false
set_option maxRecDepth 100000
set_option maxHeartbeats 4000000
namespace L2
open PySem PySem.Spec PyProof.Rows
def TKp (H H' : Hp) : Prop := (∀ b ys, H b = some (.tup ys) → H' b = some (.tup ys)) ∧ ∀ b ob ys, H b = some (.frz ob (.tup ys)) → H' b = some (.frz ob (.tup ys))
theorem TKp.fz {H H' : Hp} (h : TKp H H') {a : Addr} {xs : List V} (f : FzT H a xs) : FzT H' a xs := let ⟨o, d, e⟩ := f; ⟨o, d, h.2 _ _ _ e⟩
theorem TKp.of {S : List Addr} {H H' : Hp} (k : Kp S H H') (n : ∀ b ∈ S, ∃ o, H b = some o ∧ ∀ ob u, o ≠ .frz ob u) : TKp H H' := ⟨k.tup, fun b ob ys e => k.old _ _ e fun m => by
  obtain ⟨o, e', z⟩ := n b m
  rw [e] at e'
  exact z _ _ (Option.some.inj e').symm⟩
structure AbK {P : Program} {w : World} {K : Type} [DecidableEq K] (I : ItP P w K) where
  ab : Hp → K → V → Prop
  ok : ∀ {H : Hp} {h : Heap} {k : K} {x : V} {v : Value}, HOk P w H h → ab H k x → RelV x v → I.is h k v
  keep : ∀ {H H' : Hp} {k : K} {x : V}, TKp H H' → ab H k x → ab H' k x
def abTup (P : Program) (w : World) : AbK (ItP.tup (mixKind P w)) where
  ab := fun H k x => ∃ a, x = .ref a ∧ FzT H a (k.map kV)
  ok := fun hok ⟨a, e, ob, _, ha⟩ r => by
    subst e
    obtain ⟨_, _, its, r1, o, h1, h2, n, h3⟩ := (show ObjOk P w _ _ a (.frz ob (.tup _)) from hok a _ ha)
    exact ⟨a, r, o, its.toArray, n, h1, h2, h3, by simpa using items_are r1⟩
  keep := fun h ⟨a, e, ha⟩ => ⟨a, e, h.fz ha⟩
structure PKd (P : Program) (w : World) (K L : Type) [DecidableEq K] [DecidableEq L] where
  I : ItP P w K
  J : ItP P w L
  ai : AbK I
  aj : AbK J
def PKd.tt (P : Program) (w : World) : PKd P w (List Key) (List Key) := ⟨_, _, abTup P w, abTup P w⟩
section
variable {P : Program} {w : World} {K L : Type} [DecidableEq K] [DecidableEq L] (κ : PKd P w K L)
def PKd.kd : HeapKind P w (K × L) := pairKind κ.I κ.J
def KA (H : Hp) (k : K × L) (b : Addr) : Prop := ∃ x y, H b = some (.tup [x, y]) ∧ κ.ai.ab H k.1 x ∧ κ.aj.ab H k.2 y
def dφ (a : Addr) (xs : List ((K × L) × Addr × Value)) : Heap → Prop := fun h => ∃ o es ep, h.get? a = some o ∧ o.ExactDict ∧ o.data = .dict es ep ∧ es.toList = xs.map (entryOfKey κ.kd)
def DP (H : Hp) (a : Addr) (G : K × L → Option V) (n : Nat) : Prop := ∃ xs : List ((K × L) × Addr × Value), H a = some (.ext (dφ κ a xs)) ∧ (a == sysModules) = false ∧ xs.length ≤ n ∧ (∀ x ∈ xs, KA κ H x.1 x.2.1) ∧ (xs.map (·.1)).Nodup ∧ ∀ k, RelO (G k) ((atKey xs k).map (·.2))
variable {κ} {H H' : Hp} {h : Heap} {a b : Addr} {k : K × L} {G : K × L → Option V} {n : Nat}
theorem KA.keep (ht : TKp H H') (q : KA κ H k b) : KA κ H' k b := let ⟨x, y, e, h1, h2⟩ := q; ⟨x, y, ht.1 _ _ e, κ.ai.keep ht h1, κ.aj.keep ht h2⟩
theorem KA.is (ok : HOk P w H h) (q : KA κ H k b) : κ.kd.is h k b := by
  obtain ⟨x, y, e, h1, h2⟩ := q
  obtain ⟨_, its, r, o, g1, g2, m, g3⟩ := (show ObjOk P w H h b (.tup [x, y]) from ok b _ e)
  match its, r with
  | [u, v], .cons r1 (.cons r2 .nil) => exact ⟨o, u, v, m, g1, g2, g3, κ.ai.ok ok h1 r1, κ.aj.ok ok h2 r2⟩
theorem DP.keep {S : List Addr} (k : Kp S H H') (hn : a ∉ S) (hS : ∀ b ∈ S, ∃ o, H b = some o ∧ ∀ ob u, o ≠ .frz ob u) (d : DP κ H a G n) : DP κ H' a G n := let ⟨xs, e, h1, h2, h3, h4, h5⟩ := d; ⟨xs, k.old _ _ e hn, h1, h2, fun x hx => (h3 x hx).keep (TKp.of k hS), h4, h5⟩
theorem DP.ext (d : DP κ H a G n) : ∃ φ, H a = some (.ext φ) := let ⟨xs, e, _⟩ := d; ⟨_, e⟩
theorem DP.le {m : Nat} (d : DP κ H a G n) (hm : n ≤ m) : DP κ H a G m := let ⟨xs, e, h1, h2, h3⟩ := d; ⟨xs, e, h1, Nat.le_trans h2 hm, h3⟩
theorem dφ_ok {xs : List ((K × L) × Addr × Value)} (d : dφ κ a xs h) : ObjOk P w H h a (.ext (dφ κ a xs)) := ⟨d, let ⟨o, _, _, e, _⟩ := d; ⟨o, e⟩, fun h1 h2 ⟨o, es, ep, e, c⟩ st => ⟨o, es, ep, st _ e, c⟩⟩
theorem atKey_put {xs : List ((K × L) × Addr × Value)} (k j : K × L) (b : Addr) (v : Value) : ((atKey (storedH xs k b v) j).map (·.2)) = if j = k then some v else (atKey xs j).map (·.2) := by
  unfold storedH
  by_cases hs : (atKey xs k).isSome = true
  · rw [if_pos hs]
    have gen : ∀ xs : List ((K × L) × Addr × Value), (atKey (xs.map (putAt k v)) j).map (·.2) = ((atKey xs j).map (·.2)).map fun u => if j = k then v else u := by
      intro xs
      induction xs with
      | nil => rfl
      | cons x xs ih =>
        by_cases e : x.1 = j
        · have e1 : (putAt k v x).1 = j := by unfold putAt; split <;> exact e
          have e2 : (putAt k v x).2.2 = if j = k then v else x.2.2 := by unfold putAt; rw [e]; split <;> rfl
          simp [atKey, List.find?_cons, e, e1, e2]
        · have e1 : ¬ (putAt k v x).1 = j := by unfold putAt; split <;> exact e
          simp [atKey, List.find?_cons, e, e1] at ih ⊢
          exact ih
    rw [gen]
    by_cases e : j = k
    · subst e
      obtain ⟨p, hp⟩ := Option.isSome_iff_exists.mp hs
      rw [hp]; simp
    · simp [e, Function.comp_def]
  · rw [if_neg hs]
    have hn : atKey xs k = none := by cases z : atKey xs k with | none => rfl | some p => rw [z] at hs; exact absurd rfl hs
    by_cases e : j = k
    · subst e
      rw [if_pos rfl]
      unfold atKey at hn ⊢
      rw [List.find?_append]
      cases z : xs.find? fun x => decide (x.1 = j) with
      | none => simp
      | some p => rw [z] at hn; cases hn
    · rw [if_neg e]
      unfold atKey
      rw [List.find?_append]
      have : ([(k, b, v)] : List ((K × L) × Addr × Value)).find? (fun x => decide (x.1 = j)) = none := by simp [Ne.symm e]
      rw [this, Option.or_none]
theorem stored_mem {xs : List ((K × L) × Addr × Value)} {v : Value} {x : (K × L) × Addr × Value} (hx : x ∈ storedH xs k b v) : (∃ y ∈ xs, x.1 = y.1 ∧ x.2.1 = y.2.1) ∨ x.1 = k ∧ x.2.1 = b := by
  unfold storedH at hx
  split at hx
  · obtain ⟨y, hy, rfl⟩ := List.mem_map.mp hx
    refine .inl ⟨y, hy, ?_⟩
    unfold putAt
    split <;> exact ⟨rfl, rfl⟩
  · rcases List.mem_append.mp hx with q | q
    · exact .inl ⟨x, q, rfl, rfl⟩
    · cases List.mem_singleton.mp q; exact .inr ⟨rfl, rfl⟩
end
section
variable {X : Cx} {P : Program} {w : World} {K L : Type} [DecidableEq K] [DecidableEq L] (κ : PKd P w K L)
def tPNotIn (ty td : TE) : TE := fun σ H Q => ty σ H fun y H1 => td σ H1 fun x H2 => ∃ a G n k b, x = .ref a ∧ DP κ H2 a G n ∧ y = .ref b ∧ KA κ H2 k b ∧ Q (.bl (!(G k).isSome)) H2
def tPGet (td ty : TE) : TE := fun σ H Q => td σ H fun x H1 => ty σ H1 fun y H2 => ∃ a G n k b v, x = .ref a ∧ DP κ H2 a G n ∧ y = .ref b ∧ KA κ H2 k b ∧ G k = some v ∧ Q v H2
def sPPut (td ty tv : TE) : TS := fun D σ H => tv σ H fun v H1 => td σ H1 fun x H2 => ty σ H2 fun y H3 => ∃ a G n k b, x = .ref a ∧ DP κ H3 a G n ∧ n < sizeLine ∧ y = .ref b ∧ KA κ H3 k b ∧
  ∀ φ, DP κ (upd H3 a (.ext φ)) a (fun j => if j = k then some v else G j) (n + 1) → D.nx σ (upd H3 a (.ext φ))
def tPNew : TE := fun _ H Q => ∀ p φ, H p = none → DP κ (upd H p (.ext φ)) p (fun _ => none) 0 → Q (.ref p) (upd H p (.ext φ))
variable {κ} {i o value : Expr} {ty td tv : TE} {pos pos' : Pos}
theorem DP.of {H : Hp} {h : Heap} {a : Addr} {G : K × L → Option V} {n : Nat} (ok : HOk P w H h) (d : DP κ H a G n) : ∃ xs, H a = some (.ext (dφ κ a xs)) ∧ (a == sysModules) = false ∧ xs.length ≤ n ∧ h.DictOfH κ.kd a xs ∧ (∀ k, RelO (G k) ((atKey xs k).map (·.2))) ∧ ∀ x ∈ xs, KA κ H x.1 x.2.1 := by
  obtain ⟨xs, e, h1, h2, h3, h4, h5⟩ := d
  obtain ⟨⟨o, es, ep, g1, g2, g3, g4⟩, _⟩ := (show ObjOk P w H h a (.ext (dφ κ a xs)) from ok a _ e)
  exact ⟨xs, e, h1, h2, ⟨o, es, ep, g1, g2, g3, g4, fun x hx => (h3 x hx).is ok, h4⟩, h5, h3⟩
theorem qpc_pnotin (hP : X.prog = P) (hw : X.w = w) (hu : X.A.units + 2 < cLine) (hi : QE X i ty) (ho : QE X o td) : QC X .NotIn i o (tPNotIn κ ty td) := by
  subst hP; subst hw
  refine ⟨fun pins s σ H Q I h => ?_⟩
  refine thn (hi.h pins s σ H _ I h) fun iv s1 ⟨y, H1, I1, ry, q1⟩ => thn (ho.h pins s1 σ H1 _ I1 q1) fun u s2 ⟨x, H2, I2, rx, a, G, n, k, b, ex, dp, ey, ka, q2⟩ => ?_
  subst ex; subst ey
  obtain rfl : u = Value.ref a := rx
  obtain rfl : iv = Value.ref b := ry
  obtain ⟨xs, _, hs, _, dd, rel, _⟩ := dp.of I2.hok
  refine wpAny_notIn_heap (knd := κ.kd) hu (ka.is I2.hok) hs dd ?_
  have q := (rel k).isSome_eq
  rw [Option.isSome_map] at q
  rw [← q]
  exact ⟨.bl _, H2, I2.tok _, rfl, q2⟩
theorem qpe_pget (hP : X.prog = P) (hw : X.w = w) (hu : X.A.units + 2 < cLine) (ho : QE X o td) (hi : QE X i ty) (hs : NoSl i) : QE X (.Subscript o i pos) (tPGet κ td ty) := by
  subst hP; subst hw
  refine ⟨fun pins s σ H Q I h => ?_⟩
  refine subD_of PySem.F.slot_dict_getitem.lookup hs (thn (ho.h pins s σ H _ I h) fun u s1 ⟨x, H1, I1, rx, q1⟩ => thn (hi.h pins s1 σ H1 _ I1 q1) fun iv s2 ⟨y, H2, I2, ry, a, G, n, k, b, v, ex, dp, ey, ka, gk, q2⟩ => ?_)
  subst ex; subst ey
  obtain rfl : u = Value.ref a := rx
  obtain rfl : iv = Value.ref b := ry
  obtain ⟨xs, _, hs, _, dd, rel, _⟩ := dp.of I2.hok
  refine ⟨dd.typeIs, ?_⟩
  have q := rel k
  rw [gk] at q
  obtain ⟨w', hw', rw'⟩ := RelO.some_of q
  obtain ⟨p, hp, hp2⟩ := Option.map_eq_some_iff.mp hw'
  refine wpAny_getItem_heap (knd := κ.kd) hu (ka.is I2.hok) dd hp ?_
  rw [hp2]
  exact ⟨v, H2, I2.tok _, rw', q2⟩
theorem qps_pput (hP : X.prog = P) (hw : X.w = w) (hu : X.A.units + 2 < cLine) (ho : QE X o td) (hi : QE X i ty) (hv : QE X value tv) (hs : swapsWith value (some (.Subscript o i pos')) pos.line X.env = pure false) : QS X (.Assign [.Subscript o i pos'] value pos) (sPPut κ td ty tv) := by
  subst hP; subst hw
  refine ⟨fun pins s σ H D I h => ?_⟩
  refine wpAny_Assign_Subscript (thn (hv.h pins s σ H _ I h) fun r s1 ⟨v, H1, I1, rv, q1⟩ => thn (ho.h pins s1 σ H1 _ I1 q1) fun u s2 ⟨x, H2, I2, rx, q2⟩ => thn (hi.h pins s2 σ H2 _ I2 q2) fun iv s3 ⟨y, H3, I3, ry, a, G, n, k, b, ex, dp, hn, ey, ka, q3⟩ => ?_) hs
  subst ex; subst ey
  obtain rfl : u = Value.ref a := rx
  obtain rfl : iv = Value.ref b := ry
  obtain ⟨xs, ea, hs', hl, dd, rel, hk3⟩ := dp.of I3.hok
  refine wpAny_setItem_heap (knd := κ.kd) (hsz := by omega) hu (ka.is I3.hok) dd fun h' dd' hsb => ?_
  obtain ⟨q, es, ep, hq, h2, h3, h4, h5, h6⟩ := dd'
  have new : dφ κ a (storedH xs k b r) h' := ⟨q, es, ep, hq, h2, h3, h4⟩
  have tk : TKp H3 (upd H3 a (.ext (dφ κ a (storedH xs k b r)))) := ⟨fun c ys ec => by rw [upd_ne (ne_of ec ea (fun z => nomatch z))]; exact ec, fun c ob ys ec => by rw [upd_ne (ne_of ec ea (fun z => nomatch z))]; exact ec⟩
  refine ⟨σ, _, d_write I3 (by rw [ea]; exact True.intro) hsb ⟨q, hq⟩ (dφ_ok new), q3 _ ⟨storedH xs k b r, upd_same, hs', ?_, fun x hx => ?_, h6, fun j => ?_⟩⟩
  · unfold storedH
    split
    · rw [List.length_map]; omega
    · rw [List.length_append]; simp; omega
  · rcases stored_mem hx with ⟨y, hy, e1, e2⟩ | ⟨e1, e2⟩
    · rw [e1, e2]; exact (hk3 y hy).keep tk
    · rw [e1, e2]; exact ka.keep tk
  · rw [atKey_put]; dsimp only
    by_cases e : j = k
    · rw [if_pos e, if_pos e]; exact rv
    · rw [if_neg e, if_neg e]; exact rel j
theorem qpe_pnew (hP : X.prog = P) (hw : X.w = w) : QE X (.Dict [] [] pos) (tPNew κ) := by
  subst hP; subst hw
  refine ⟨fun pins s σ H Q I h => ?_⟩
  have hn : (s.heap.objs.size == sysModules) = false := beq_eq_false_iff_ne.mpr (Ne.symm (Nat.ne_of_lt I.big))
  have new : dφ κ s.heap.objs.size [] (s.heap.push { cls := .type "dict", data := .dict #[] }) := ⟨_, #[], 0, Heap.get?_push_size _ rfl, ⟨rfl, rfl, rfl⟩, rfl, rfl⟩
  exact wpAny_Dict_empty ⟨.ref s.heap.objs.size, _, I.laid (a := s.heap.objs.size) (o := .ext (dφ κ s.heap.objs.size [])) (t' := s.toks) (fun _ _ q => Heap.get?_push_of_some _ q) (Nat.le_refl _) (dφ_ok new), rfl, h _ _ (I.hok.fresh (Nat.le_refl _)) ⟨[], upd_same, hn, Nat.le_refl _, (by simp), (by simp), fun k => True.intro⟩⟩
end
end L2
set_option Elab.async false
set_option linter.all false
set_option maxRecDepth 100000
set_option maxHeartbeats 4000000
namespace L2
open PySem PySem.Spec PyProof.Rows
section
structure ZTLM (h h' : Heap) (a b : Addr) : Prop where
  z : IsZip h' (h.objs.size + 4) (h.objs.size + 2) (h.objs.size + 3) .none
  ti : IsPair h' (h.objs.size + 2) (.ref h.objs.size) (.ref (h.objs.size + 1))
  to : IsPair h' (h.objs.size + 3) .none .none
  i1 : h'.IsTupleIter h.objs.size a 0
  i2 : h'.IsListIter (h.objs.size + 1) b 0
  old : ∀ c o, h.get? c = some o → h'.get? c = some o
def ztlH (h : Heap) (a b : Addr) : Heap := ((((h.push (ztO a)).push (zlO b)).push { cls := .type "tuple", data := .seq #[.ref h.objs.size, .ref (h.objs.size + 1)] }).push { cls := .type "tuple", data := .seq #[.none, .none] }).push { cls := .type "zip", data := .fields #[.none, .bool false, .bool false, .ref (h.objs.size + 2), .ref (h.objs.size + 3)] }
theorem ztl_of (h : Heap) (a b : Addr) : ZTLM h (ztlH h a b) a b := by
  have P : ∀ (k : Heap) (o : Obj) {c : Addr} {u : Obj}, k.get? c = some u → (k.push o).get? c = some u := fun k o {c u} e => Heap.get?_push_of_some o e
  have t1 : (h.push (ztO a)).objs.size = h.objs.size + 1 := by rw [Heap.size_push]
  have t2 : ((h.push (ztO a)).push (zlO b)).objs.size = h.objs.size + 2 := by rw [Heap.size_push, t1]
  have t3 : (((h.push (ztO a)).push (zlO b)).push { cls := .type "tuple", data := .seq #[.ref h.objs.size, .ref (h.objs.size + 1)] }).objs.size = h.objs.size + 3 := by rw [Heap.size_push, t2]
  have t4 : ((((h.push (ztO a)).push (zlO b)).push { cls := .type "tuple", data := .seq #[.ref h.objs.size, .ref (h.objs.size + 1)] }).push { cls := .type "tuple", data := .seq #[.none, .none] }).objs.size = h.objs.size + 4 := by rw [Heap.size_push, t3]
  unfold ztlH
  refine ⟨?_, ?_, ?_, ⟨_, P _ _ (P _ _ (P _ _ (P _ _ (Heap.get?_push_size _ rfl)))), rfl, rfl⟩, ⟨zlO b, ?_, rfl, rfl⟩, fun c o e => P _ _ (P _ _ (P _ _ (P _ _ (P _ _ e))))⟩
  · rw [← t4]; exact Heap.get?_push_size _ rfl
  · rw [← t2]; exact P _ _ (P _ _ (Heap.get?_push_size _ rfl))
  · rw [← t3]; exact P _ _ (Heap.get?_push_size _ rfl)
  · rw [← t1]; exact P _ _ (P _ _ (P _ _ (Heap.get?_push_size _ rfl)))
theorem meets_zipTL (a b : Addr) (va vb : Array Value) :
    Meets (Builtin.«zip.__new__» ⟨[.type "zip", .ref a, .ref b], []⟩) (fun _ R s => s.heap.IsTuple a va ∧ s.heap.IsList b vb ∧ R (.ok (.ret (.ref (s.heap.objs.size + 4)))) { s with heap := ztlH s.heap a b }) :=
  .of_wp fun prog w A R s h => by
    obtain ⟨hp, g, d, tk, os⟩ := s
    obtain ⟨ha, hb, h⟩ := h
    have hsub := sub_zip
    have hb' : (Heap.push hp (ztO a)).IsList b vb := hb.push _
    have t1 : (hp.push (ztO a)).objs.size = hp.objs.size + 1 := by rw [Heap.size_push]
    have t2 : ((hp.push (ztO a)).push (zlO b)).objs.size = hp.objs.size + 2 := by rw [Heap.size_push, t1]
    wp_walk using wpAny_pyIter_tuple ha, wpAny_pyIter_list hb'
    refine ⟨_, rfl, ?_⟩
    simp only [Heap.size_push]
    exact h
theorem call_zipTL {prog : Program} {w : World} {A : Around} {E : Value → Shared → Prop} {s : Shared} {a b : Addr} {va vb : Array Value} {Q : Value → Shared → Prop} (ha : s.heap.IsTuple a va) (hb : s.heap.IsList b vb)
    (q : ∀ h', ZTLM s.heap h' a b → Q (.ref (s.heap.objs.size + 4)) { s with heap := h' }) : wpAny (model prog w) A (call (.type "zip") [.ref a, .ref b]) Q E s := by
  refine callType_new PySem.F.called_zip (by decide) (PySem.F.typeCall_zip_2 _ _) (PySem.F.newCall_zip_2 _ _) (fun obj => PySem.F.args_object_init_3 obj _ _) PySem.F.entry_zip_new (meets_zipTL a b va vb) ⟨ha, hb, ?_⟩
  have m := ztl_of s.heap a b
  exact ⟨⟨_, m.z, rfl⟩, q _ m⟩
end
def ItZM (K : PySem.W.Frag) (a b : Addr) : It := ⟨fun i H => ∃ xs ys x y, SqT K H a xs ∧ H b = some (.lst ys) ∧ xs[i]? = some x ∧ ys[i]? = some y,
  fun i H v H' => ∃ T x y, H T = none ∧ v = .ref T ∧ (∀ xs, SqT K H a xs → xs[i]? = some x) ∧ (∀ ys, H b = some (.lst ys) → ys[i]? = some y) ∧ H' = upd H T (.tup [x, y]), fun i H => ∃ xs ys, SqT K H a xs ∧ H b = some (.lst ys) ∧ i = min xs.length ys.length⟩
section
variable {P : Program} {w : World} {K : PySem.W.Frag}
def ZTM (a b z TI TO i1 i2 : Addr) (i : Nat) (h : Heap) : Prop := IsZip h z TI TO .none ∧ IsPair h TI (.ref i1) (.ref i2) ∧ (∃ x y, IsPair h TO x y) ∧ h.IsTupleIter i1 a i ∧ h.IsListIter i2 b i
theorem ZTM.tys {a b z TI TO i1 i2 : Addr} {i : Nat} {h : Heap} (t : ZTM a b z TI TO i1 i2 i h) : ∀ c ∈ [z, TI, TO, i1, i2], ∃ o, h.get? c = some o ∧ (∀ v, o.data ≠ .cell v) := by
  obtain ⟨e0, e1, ⟨x, y, e2⟩, ⟨o3, e3, _, d3⟩, ⟨o4, e4, _, d4⟩⟩ := t
  intro c hc
  simp only [List.mem_cons, List.not_mem_nil, or_false] at hc
  rcases hc with rfl | rfl | rfl | rfl | rfl
  · exact ⟨_, e0, fun v q => by cases q⟩
  · exact ⟨_, e1, fun v q => by cases q⟩
  · exact ⟨_, e2, fun v q => by cases q⟩
  · exact ⟨_, e3, fun v q => by rw [d3] at q; cases q⟩
  · exact ⟨_, e4, fun v q => by rw [d4] at q; cases q⟩
theorem turn_zipTL {elts : List Expr} {kk : Nat} {pos : Pos} (a b z TI TO i1 i2 : Addr) (D : ZA z TI TO i1 i2 [i1] [i2]) : Turn P w K (.Tuple elts kk pos) (ItZM K a b) [z, TI, TO, i1, i2] z (ZTM a b z TI TO i1 i2) where
  mem := by simp
  obj := fun i h st c hc => st.tys c hc
  keep := fun i h h' st k => by
    obtain ⟨e0, e1, ⟨x, y, e2⟩, ⟨o3, e3, r3⟩, ⟨o4, e4, r4⟩⟩ := st
    exact ⟨k z (by simp) _ e0, k TI (by simp) _ e1, ⟨x, y, k TO (by simp) _ e2⟩, ⟨o3, k i1 (by simp) _ e3, r3⟩, ⟨o4, k i2 (by simp) _ e4, r4⟩⟩
  item := by
    intro X hP hw hK hc i pins s σ H E I hf st hg
    subst hP hw hK
    obtain ⟨xs, ys, x', y', hx, hy, gx, gy⟩ := hg
    obtain ⟨va, ra, pa, _⟩ := I.tuple hx
    have n1 : ∀ d ∈ [z, TI, TO, i1, i2], d ≠ a := fun d hd => I.apartT hx (hf d hd)
    obtain ⟨vb, rb, pb, _⟩ := I.list (SqL.of hy)
    obtain ⟨u, hu, ru⟩ := ra.get gx
    obtain ⟨v, hv, rv⟩ := rb.get gy
    have nin : ∀ c ys, H c = some (.lst ys) → ∀ d ∈ [z, TI, TO, i1, i2], d ≠ c := fun c ys q d hd e => by
      rw [← e, (hf d hd).1] at q; cases q
    have h0 : X.A.in1.handled = none := I.ok.hd hc
    have W := walks_zipD (A := X.A) (dr_tup (prog := X.prog) (w := X.w) h0 i1 a (n1 i1 (by simp)).symm va.toArray) (Draws.list (prog := X.prog) (w := X.w) h0 i2 b (nin b ys hy i2 (by simp)).symm vb.toArray) (za_more D n1 (nin b ys hy))
    have la : i < va.toArray.size := by rw [List.size_toArray]; exact (List.getElem?_eq_some_iff.mp hu).1
    have lb : i < vb.toArray.size := by rw [List.size_toArray]; exact (List.getElem?_eq_some_iff.mp hv).1
    refine W.item i s _ _ (by omega) ⟨st.1, st.2.1, st.2.2.1, ⟨st.2.2.2.1, pa⟩, ⟨st.2.2.2.2, pb.isList⟩⟩ fun T vs h' tk hp hT htup mid kk' => ⟨_, rfl, ?_⟩
    have nT := W.apart _ _ _ mid
    refine W.go _ _ _ i T { s with heap := h', toks := tk } _ _ mid fun h'' st'' k'' => ?_
    have tup' : IsTup h'' T vs := let ⟨o, eo, r⟩ := htup; ⟨o, k'' T o nT eo, r⟩
    have hv' : Vals [x', y'] vs.toList := by
      obtain ⟨x1, y1, p1, p2, rfl⟩ := hp
      rw [show va.toArray[i]? = some u from by simpa using hu] at p1
      rw [show vb.toArray[i]? = some v from by simpa using hv] at p2
      cases p1
      cases p2
      exact .cons ru (.cons rv .nil)
    have Z' : ZTM a b z TI TO i1 i2 (i + 1) h'' := ⟨st''.1, st''.2.1, st''.2.2.1, st''.2.2.2.1.1, st''.2.2.2.2.1⟩
    refine ⟨.ref T, upd H T (.tup [x', y']), ?_, rfl, ⟨T, x', y', I.hok.fresh hT, rfl, fun zs q => by rw [I.tuple_inj q hx]; exact gx, fun zs q => by rw [hy] at q; cases q; exact gy, rfl⟩, Z', fun c hb => ?_⟩
    · refine I.turnedNew (fp := [z, TI, TO, i1, i2]) (wr := [z, TO, i1, i2]) (fun c hb => hf c (by simp at hb ⊢; rcases hb with r | r | r | r <;> simp [r])) (fun c o hb eo => k'' c o hb (kk' c o hb eo)) hT (by simpa using tup') hv' (by show 2 ≤ sizeLine; decide) fun c hb => ?_
      obtain ⟨o, eo, _⟩ := Z'.tys c (by simp at hb ⊢; rcases hb with r | r | r | r <;> simp [r])
      exact ⟨o, eo⟩
    · obtain ⟨o, eo, _⟩ := st.tys c hb
      rw [upd_ne (Nat.ne_of_lt (Nat.lt_of_lt_of_le (Heap.lt_size eo) hT))]
      exact (hf c hb).1
  done := by
    intro X hP hw hK hc i pins s σ H E I hf st hg
    subst hP hw hK
    obtain ⟨xs, ys, hx, hy, hi⟩ := hg
    obtain ⟨va, ra, pa, _⟩ := I.tuple hx
    have n1 : ∀ d ∈ [z, TI, TO, i1, i2], d ≠ a := fun d hd => I.apartT hx (hf d hd)
    obtain ⟨vb, rb, pb, _⟩ := I.list (SqL.of hy)
    have nin : ∀ c ys, H c = some (.lst ys) → ∀ d ∈ [z, TI, TO, i1, i2], d ≠ c := fun c ys q d hd e => by
      rw [← e, (hf d hd).1] at q; cases q
    have h0 : X.A.in1.handled = none := I.ok.hd hc
    have W := walks_zipD (A := X.A) (dr_tup (prog := X.prog) (w := X.w) h0 i1 a (n1 i1 (by simp)).symm va.toArray) (Draws.list (prog := X.prog) (w := X.w) h0 i2 b (nin b ys hy i2 (by simp)).symm vb.toArray) (za_more D n1 (nin b ys hy))
    have hn : min va.toArray.size vb.toArray.size = i := by rw [List.size_toArray, List.size_toArray, ← ra.length, ← rb.length]; exact hi.symm
    refine W.done s _ _ (by rw [hn]; exact ⟨st.1, st.2.1, st.2.2.1, ⟨st.2.2.2.1, pa⟩, ⟨st.2.2.2.2, pb.isList⟩⟩) fun h' tk kk' => ⟨rfl, ?_⟩
    have hf' : ∀ c ∈ [z, TO, i1, i2], FpOk X pins H c := fun c hb => hf c (by simp at hb ⊢; rcases hb with r | r | r | r <;> simp [r])
    exact I.walked hf' kk'
  self := fun A i s Q E st q => wpAny_pyIter_zip st.1 q
end
theorem loop_ZM {K : PySem.W.Frag} {a b : Addr} {xs ys : List V} {g : TG} {tb : TS} {D : Ends} {σ : L2.St} {H : Hp} (Pv : Nat → L2.St → Hp → Prop) (h0 : Pv 0 σ H) (hl : ys.length = xs.length) (ha : ∀ i σ H, i ≤ xs.length → Pv i σ H → SqT K H a xs ∧ H b = some (.lst ys))
    (hs : ∀ i x y σ H T, xs[i]? = some x → ys[i]? = some y → Pv i σ H → H T = none → g (.ref T) σ (upd H T (.tup [x, y])) fun σ2 H2 => tb { D with nx := Pv (i + 1), ct := Pv (i + 1), bk := D.nx } σ2 H2) (hd : ∀ σ H, Pv xs.length σ H → D.nx σ H) : LoopR (ItZM K a b) g tb D σ H := by
  refine ⟨fun i m σ H => m + i = xs.length ∧ Pv i σ H, ⟨xs.length, rfl, h0⟩, ?_⟩
  rintro i m σ H ⟨hm, p⟩
  obtain ⟨e1, e2⟩ := ha i σ H (by omega) p
  by_cases hi : i < xs.length
  · refine .inr ⟨⟨xs, ys, xs[i], ys[i], e1, e2, by simp [hi], by simp [hl, hi]⟩, Pv (i + 1), fun σ' H' p' => ⟨m - 1, by omega, by omega, p'⟩, fun v H' q => ?_⟩
    obtain ⟨T, x, y, hT, rfl, q1, q2, rfl⟩ := q
    exact hs i x y σ H T (q1 xs e1) (q2 ys e2) p hT
  · have e : i = xs.length := by omega
    subst e
    exact .inl ⟨⟨xs, ys, e1, e2, by omega⟩, hd σ H p⟩
section
variable {X : Cx}
def iZipM (K : PySem.W.Frag) (ta : TA) : TI := fun σ H R => ta σ H fun vs H1 => ∃ a b xs ys, vs = [.ref a, .ref b] ∧ SqT K H1 a xs ∧ H1 b = some (.lst ys) ∧ R (ItZM K a b) H1
theorem qpi_zipM {K : PySem.W.Frag} (hK : X.K = K) {a b : Expr} {ta : TA} {p pos tpos : Pos} {elts : List Expr} {kk : Nat} (hg : Gl X "zip") (hm : X.mg "zip" = none) (ha : QA X [a, b] ta) (hs : starEach [a, b] X.env = [(false, eval a X.env), (false, eval b X.env)] := by rfl) (hs2 : starEach [b] X.env = [(false, eval b X.env)] := by rfl) :
    QI X (.Tuple elts kk tpos) (.Call (.Name "zip" p) [a, b] [] pos) (iZipM K ta) := by
  subst hK
  refine ⟨fun pins s σ H R I h => ?_⟩
  refine Call_ (ld_blt I hg hm bt_zip (PyProof.Rows.callWith_type1 (thn (ha.h pos pins s σ H _ I h) fun us s1 ⟨vs, H1, I1, r1, q1⟩ => ?_) (by rw [hs, hs2]) (by rw [hs2]; rfl)))
  obtain ⟨c, d, xs, ys, rfl, ec, ed, q⟩ := q1
  obtain ⟨u1, u2, rfl, ru, rv⟩ := vals2 r1
  cases ru
  cases rv
  obtain ⟨va, ra, pa, _⟩ := I1.tuple ec
  obtain ⟨vb, rb, pb, _⟩ := I1.list (SqL.of ed)
  refine call_zipTL pa pb.isList fun h' M => ?_
  have I2 : Inv X pins σ H1 { s1 with heap := h' } := I1.kept (t' := s1.toks) M.old
  have D : ZA (s1.heap.objs.size + 4) (s1.heap.objs.size + 2) (s1.heap.objs.size + 3) s1.heap.objs.size (s1.heap.objs.size + 1) [s1.heap.objs.size] [s1.heap.objs.size + 1] := by
    constructor <;> simp <;> omega
  refine wpAny_pyIter_zip M.z ⟨s1.heap.objs.size + 4, _, _, _, H1, rfl, I2, turn_zipTL c d _ _ _ _ _ D, ⟨M.z, M.ti, ⟨_, _, M.to⟩, M.i1, M.i2⟩, fun b hb => ?_, q⟩
  have hb' : s1.heap.objs.size ≤ b := by
    simp only [List.mem_cons, List.not_mem_nil, or_false] at hb
    rcases hb with rfl | rfl | rfl | rfl | rfl <;> first | exact Nat.le_refl _ | exact Nat.le_add_right _ _
  exact I1.fpOk (H' := H1) hb' (I1.hok.fresh hb')
end
section
variable {D : Addr} {te : TE} {r : L2.St} {E : Ends} {H : Hp}
theorem comp_ZL {a b : Addr} {xs ys : List V} (f : V → V → V) (ha : H a = some (.lst xs)) (hb : H b = some (.lst ys)) (hl : ys.length = xs.length) (hD : H D = none) (hz : xs.length ≤ sizeLine)
    (he : ∀ (i : Nat) (x y : V), xs[i]? = some x → ys[i]? = some y → ∀ H' l Q, H' D = some (.lst l) → Kp [D] (upd H D (.lst [])) H' → (∀ H', H' D = some (.lst l) → Kp [D] (upd H D (.lst [])) H' → Q (f x y) H') → te (some x :: some y :: r) H' Q)
    (hn : ∀ v v' H', H' D = some (.lst (List.zipWith f xs ys)) → Kp [D] (upd H D (.lst [])) H' → E.nx (v :: v' :: r) H') {g : TG} (hg : ∀ T σ H' x y Q, H' T = some (.tup [x, y]) → (∃ v v', σ = v :: v' :: r) → Q (some x :: some y :: r) H' → g (.ref T) σ H' Q) :
    LoopR (ItZL a b) g (tEmit D te) E (none :: none :: r) (upd H D (.lst [])) := by
  have na : a ≠ D := ne_of_none ha hD
  have nb : b ≠ D := ne_of_none hb hD
  refine loop_ZL (xs := xs) (ys := ys) (fun i σ H' => (∃ v v', σ = v :: v' :: r) ∧ H' D = some (.lst (List.zipWith f (xs.take i) (ys.take i))) ∧ Kp [D] (upd H D (.lst [])) H') ⟨⟨none, none, rfl⟩, by simp [upd_same], Kp.refl _ _⟩ hl ?_ ?_ ?_
  · rintro i σ H' _ ⟨_, _, k⟩
    exact ⟨k.old _ _ (by rw [upd_ne na]; exact ha) (by simpa using na), k.old _ _ (by rw [upd_ne nb]; exact hb) (by simpa using nb)⟩
  · rintro i x y σ H' T hx hy ⟨hσ, hd, k⟩ hT
    have hi : i < xs.length := (List.getElem?_eq_some_iff.mp hx).1
    have nT : D ≠ T := ne_of_none hd hT
    refine hg T σ _ x y _ upd_same hσ (he i x y hx hy _ (List.zipWith f (xs.take i) (ys.take i)) _ (by rw [upd_ne nT]; exact hd) (k.new hT) fun H2 hd2 k2 => ⟨_, by rw [hd2]; rfl, by simp; omega, ⟨_, _, rfl⟩, ?_, k2.set hd2 (.inl (.head _))⟩)
    rw [upd_same, List.take_succ, List.take_succ, hx, hy, List.zipWith_append (by rw [List.length_take, List.length_take]; omega)]
    rfl
  · rintro σ H' ⟨⟨v, v', rfl⟩, hd, k⟩
    rw [List.take_of_length_le (Nat.le_refl _), List.take_of_length_le (by omega)] at hd
    exact hn v v' H' hd k
end
section
variable {X : Cx}
def rEqK : R2 := fun x y H Q => match x, y with
  | .ref a, .ref b => ∃ kvs : List (Key × Int), (kvs.map Prod.fst).Nodup ∧ H a = some (.dK (kvs.map kI)) ∧ H b = some (.dK (kvs.map kI)) ∧ Q (.bl true) H
  | _, _ => False
theorem op_eqK (hu : X.A.units + 64 < cLine) : OpR X (compareOp .Eq) rEqK := by
  intro pins s σ H x y v u Q I rx ry h
  unfold rEqK at h
  split at h
  · rename_i a b
    obtain ⟨kvs, nd, ea, eb, q⟩ := h
    cases rx
    cases ry
    obtain ⟨_, ha, va, ra, da⟩ := dk_of I.hok ea
    obtain ⟨_, hb, vb, rb, db⟩ := dk_of I.hok eb
    have hl : va.length = vb.length := by rw [← Paired.length ra, ← Paired.length rb]
    refine PySem.W.keq_eq (r := true) ha hb da db (by omega) (fun _ => hits_of rb nd ra fun _ h => h) ?_
    rw [hl]
    exact ⟨.bl true, H, I, by simp [RelV], q⟩
  · exact h.elim
end
end L2
set_option Elab.async false
set_option linter.all false
set_option maxRecDepth 100000
set_option maxHeartbeats 4000000
namespace L2
open PySem PySem.Spec PyProof.Rows
section
variable {X : Cx}
theorem FzT.stay {S : List Addr} {H H' : Hp} {a : Addr} {xs : List V} (h : FzT H a xs) (k : Kp S H H') (n : ∀ b ∈ S, ∃ o, H b = some o ∧ ∀ ob u, o ≠ .frz ob u) : FzT H' a xs := by
  refine h.kp k fun m => ?_
  obtain ⟨o, e, z⟩ := n a m
  obtain ⟨ob, _, e'⟩ := h
  rw [e] at e'
  exact z _ _ (Option.some.inj e')
theorem FzT.kp0 {H H' : Hp} {a : Addr} {xs : List V} (h : FzT H a xs) (k : Kp [] H H') : FzT H' a xs := h.kp k (by simp)
def tTupF (t : TA) : TE := fun σ H Q => t σ H fun vs H1 => vs.length ≤ sizeLine ∧ ∀ p H', H1 p = none → FzT H' p vs → Kp [] H1 H' → Q (.ref p) H'
theorem qpe_tupF {es : List Expr} {x1 : Nat} {pos : Pos} {t : TA} (h : QA X es t) : QE X (.Tuple es x1 pos) (tTupF t) := by
  refine ⟨fun pins s σ H Q I hq => ?_⟩
  refine wpAny_Tuple_spliced (thn (h.h pos pins s σ H _ I hq) fun us s1 ⟨xs, H1, I1, r, z, q⟩ => ⟨by rw [← r.length]; exact z, ?_⟩)
  have hf : H1 s1.heap.objs.size = none := I1.hok.fresh (Nat.le_refl _)
  have I2 := I1.laid (t' := s1.toks) (a := s1.heap.objs.size) (o := .frz { cls := .type "tuple", data := .seq us.toArray } (.tup xs)) (h' := s1.heap.push { cls := .type "tuple", data := .seq us.toArray }) (fun b u e => Heap.get?_push_of_some _ e) (Nat.le_refl _)
    (show ObjOk X.prog X.w _ _ _ (.frz _ (.tup xs)) from ⟨Heap.get?_push_size _ rfl, z, us, r, ⟨_, Heap.get?_push_size _ rfl, rfl, _, rfl⟩⟩)
  exact ⟨.ref s1.heap.objs.size, _, I2, rfl, q _ _ hf ⟨_, rfl, upd_same⟩ ((Kp.refl [] H1).new hf)⟩
def rAddF : R2 := fun x y H Q => ∃ a b xs ys, x = .ref a ∧ y = .ref b ∧ FzT H a xs ∧ FzT H b ys ∧ xs.length + ys.length ≤ sizeLine ∧ ∀ p H', Kp [] H H' → FzT H' p (xs ++ ys) → Q (.ref p) H'
theorem op_addF : OpR X (binaryOp .Add) rAddF := by
  intro pins s σ H x y v u Q I rx ry h
  obtain ⟨a, b, xs, ys, rfl, rfl, ha, hb, hz, q⟩ := h
  cases rx
  cases ry
  obtain ⟨its, r1, p1, _⟩ := I.tuple (ha.sq (K := X.K))
  obtain ⟨its2, r2, p2, _⟩ := I.tuple (hb.sq (K := X.K))
  by_cases hx : xs = []
  · subst hx
    cases r1
    obtain ⟨⟨cls, dd, data, sl⟩, ho, hc, n, hd⟩ := id p1
    obtain ⟨⟨cls2, dd2, data2, sl2⟩, ho2, hc2, n2, hd2⟩ := id p2
    simp only at hc hd hc2 hd2
    subst hc hd hc2 hd2
    exact concat_meets ⟨_, ho, rfl⟩ ⟨_, ho2, rfl⟩ noFill_tuple_add seq_tuple_add PySem.F.slot_tuple_add PySem.F.entry_tuple_add (PySem.F.args_tuple_add_2 _ _)
      (HT.tuple_add0 a b its2.toArray n n2 dd dd2 sl sl2) ⟨ho, ho2, .ref b, H, I, rfl, q b H (Kp.refl _ _) (by simpa using hb)⟩
  · refine HT.cat_tup p1 p2 (fun z => hx (r1.nil_iff.mp z)) (fun z => ⟨.ref a, H, I, rfl, q a H (Kp.refl _ _) (by rw [r2.nil_iff.mp z, List.append_nil]; exact ha)⟩) (fun z => ?_) (by rw [← r1.length, ← r2.length]; exact hz)
    have hf := I.hok.fresh (Nat.le_refl s.heap.objs.size)
    refine ⟨.ref s.heap.objs.size, _, I.laid (t' := s.toks) (a := s.heap.objs.size) (o := .frz { cls := .type "tuple", data := .seq (its ++ its2).toArray } (.tup (xs ++ ys))) (fun b ob q => Heap.get?_push_of_some _ q) (Nat.le_refl _) ?_, rfl, q _ _ ((Kp.refl [] H).new hf) ⟨_, rfl, upd_same⟩⟩
    exact ⟨Heap.get?_push_size _ rfl, by rw [List.length_append]; exact hz, _, r1.append r2, IsTup.new _ _⟩
def rExtendF : V → List V → Hp → VK → Prop := fun x vs H Q => ∃ l b xs zs, x = .ref l ∧ vs = [.ref b] ∧ H l = some (.lst xs) ∧ FzT H b zs ∧ xs.length + zs.length ≤ sizeLine ∧ Q .non (upd H l (.lst (xs ++ zs)))
theorem mt_extendF : MtM X "list.extend" rExtendF := by
  intro pins s σ H x vs v us Q I rx rv h
  obtain ⟨l, b, xs, zs, rfl, rfl, hH, hB, hz, q⟩ := h
  cases rx
  obtain ⟨u, rfl, ru⟩ := rv.one
  cases ru
  obtain ⟨z, its, n, r, hl, e⟩ := I.lstM hH
  obtain ⟨its2, r2, ⟨o2, g2, c2, n2, d2⟩, z2⟩ := I.tuple (hB.sq (K := X.K))
  have h1 := r.length
  have h2 := r2.length
  have hT : s.TypeIs (.ref l) "list" := ⟨_, e, rfl⟩
  have hlong : (!its.toArray.isEmpty && Builtin.List.listTooLong (its.toArray.size + its2.toArray.size)) = false := by
    rw [notLongL (by rw [List.size_toArray, List.size_toArray]; omega), Bool.and_false]
  refine wpAny_call_entry PySem.F.slot_list_extend hT PySem.F.entry_list_extend ?_ (PySem.F.args_list_extend_2 _ _)
  refine show wpAny _ _ (Builtin.List.listExtendWith (.ref l) (.ref b) .none) _ _ s from ?_
  unfold Builtin.List.listExtendWith
  refine wpAny_bind (wpAny_typeOf (T := "tuple") ⟨o2, g2, c2⟩ (wpAny_ite_split (fun _ => ?_) (fun q => absurd (by simp) q)))
  refine wpAny_bind (listItems_at g2 d2 (wpAny_bind (listItems_at e rfl (wpAny_ite_split (fun q => absurd q (by rw [hlong]; decide)) (fun _ => ?_)))))
  refine wpAny_bind (listUpdate_at e rfl (wpAny_pure ?_) (by rw [List.size_toArray]; omega) (by rw [Array.size_append, List.size_toArray, List.size_toArray]; omega))
  exact ⟨_, rfl, .non, _, I.lset (its' := its ++ its2) (t' := s.toks) hH e (by simp) (r.append r2) (by rw [List.length_append]; omega), rfl, q⟩
end
section
variable {D : Addr} {te : TE} {r : L2.St} {E : Ends} {H : Hp}
theorem comp_tups {K : PySem.W.Frag} {a : Addr} {xs : List V} (f : V → V) (ha : FzT H a xs) (hD : H D = none) (hz : xs.length ≤ sizeLine) (he : ∀ x ∈ xs, ∀ l Q, Q (f x) (upd H D (.lst l)) → te (some x :: r) (upd H D (.lst l)) Q)
    (hn : ∀ v, E.nx (v :: r) (upd H D (.lst (xs.map f)))) : LoopR (Itt K a) (gName 0) (tEmit D te) E (none :: r) (upd H D (.lst [])) := by
  refine loop_tups (xs := xs) (fun i σ H' => ∃ v : Option V, σ = v :: r ∧ H' = upd H D (.lst ((xs.take i).map f))) ⟨none, rfl, rfl⟩ ?_ ?_ ?_
  · rintro i σ H' _ ⟨v, _, rfl⟩
    exact (ha.kp ((Kp.refl [] H).new hD) (by simp)).sq
  · rintro i x σ H' hx ⟨v, rfl, rfl⟩
    have hl : i < xs.length := (List.getElem?_eq_some_iff.mp hx).1
    refine he x (List.mem_of_getElem? hx) _ _ ⟨_, by rw [upd_same]; rfl, by simp; omega, some x, rfl, ?_⟩
    rw [upd_D, List.take_succ, hx]
    simp
  · rintro σ H' ⟨v, rfl, rfl⟩
    rw [List.take_of_length_le (Nat.le_refl _)]
    exact hn v
end
end L2
set_option linter.all false
namespace My
open PySem
def toS (l : List Nat) : Str := ⟨l.toArray⟩
theorem toS_app (l : List Nat) (c : Nat) : toS l ++ (⟨#[c]⟩ : Str) = toS (l ++ [c]) := by
  show (⟨l.toArray ++ #[c]⟩ : Str) = ⟨(l ++ [c]).toArray⟩
  simp
theorem toS_len (l : List Nat) : (toS l).length = l.length := by simp [toS, Str.length]
end My
set_option Elab.async false
set_option linter.all false
set_option maxRecDepth 100000
set_option maxHeartbeats 4000000
namespace My
open PySem L2 PyProof.Rows
def sg (z : Str) : List Nat := z.cps.toList
theorem sg_app (x y : Str) : sg (x ++ y) = sg x ++ sg y := by simp [sg, Str.cps_append]
theorem sg_inj {x y : Str} (h : sg x = sg y) : x = y := by
  cases x; cases y
  simp only [sg] at h
  rw [Array.toList_inj.mp h]
theorem sg_nil : sg (⟨#[]⟩ : Str) = [] := rfl
theorem join0 : ∀ l : List Str, sg (Str.join ⟨#[]⟩ l) = (l.map sg).flatten
  | [] => rfl
  | x :: l => by rw [join_nil_cons, sg_app, join0 l]; rfl
theorem joinT (l : List Str) : sg (Txt.join (Str.ofString "") l) = (l.map sg).flatten := by
  have e0 : (Str.ofString "") = (⟨#[]⟩ : Str) := by decide +kernel
  have e := eq_of_beq (join_plain_closes ⟨#[]⟩ l)
  rw [e0, e, join0]
theorem last_of {α : Type} {xs : List α} {x : α} (h : xs[xs.length - 1]? = some x) : xs = xs.dropLast ++ [x] := by
  have hne : xs ≠ [] := by rintro rfl; simp at h
  have e := List.dropLast_concat_getLast hne
  have e2 : xs.getLast hne = x := by
    rw [List.getLast_eq_getElem hne]
    have := (List.getElem?_eq_some_iff.mp h).2
    exact this
  rw [← e2, e]
theorem atI_m1 {α : Type} {xs : List α} {v : α} (h : xs[xs.length - 1]? = some v) : atI xs (-1) = some v := by
  rw [last_of h]
  exact atI_last _ _
end My
set_option Elab.async false
set_option linter.all false
set_option maxRecDepth 100000
set_option maxHeartbeats 4000000
namespace My
open PySem L2
def allC (m : Nat) : Nat → List (List Nat)
  | 0 => [[]]
  | n + 1 => (allC m n).flatMap fun c => (List.range m).map fun p => c ++ [p]
def num (m : Nat) (c : List Nat) : Nat := c.foldl (fun a p => a * m + p) 0
theorem num_snoc (m : Nat) (c : List Nat) (p : Nat) : num m (c ++ [p]) = num m c * m + p := by simp [num]
theorem flat_len {α β : Type} (f : α → List β) (m : Nat) : ∀ l : List α, (∀ x ∈ l, (f x).length = m) → (l.flatMap f).length = l.length * m
  | [], _ => by simp
  | x :: l, h => by
    rw [List.flatMap_cons, List.length_append, h x (.head _), flat_len f m l fun y hy => h y (.tail _ hy), List.length_cons, Nat.succ_mul, Nat.add_comm]
theorem allC_mem {m : Nat} : ∀ {n : Nat} {c : List Nat}, c ∈ allC m n → c.length = n ∧ ∀ p ∈ c, p < m
  | 0, c, h => by
    rw [List.mem_singleton.mp h]
    exact ⟨rfl, fun _ h => nomatch h⟩
  | n + 1, c, h => by
    obtain ⟨d, hd, h⟩ := List.mem_flatMap.mp h
    obtain ⟨p, hp, rfl⟩ := List.mem_map.mp h
    obtain ⟨h1, h2⟩ := allC_mem hd
    refine ⟨by simp [h1], fun q hq => ?_⟩
    rcases List.mem_append.mp hq with h | h
    · exact h2 q h
    · rw [List.mem_singleton.mp h]; exact List.mem_range.mp hp
theorem allC_len (m : Nat) : ∀ n, (allC m n).length = m ^ n
  | 0 => rfl
  | n + 1 => by
    show (List.flatMap _ (allC m n)).length = _
    rw [flat_len _ m _ fun x _ => by simp, allC_len m n, Nat.pow_succ]
theorem flat_drop {α β : Type} (f : α → List β) (m : Nat) : ∀ (l : List α) (q : Nat), (∀ x ∈ l, (f x).length = m) → (l.flatMap f).drop (q * m) = (l.drop q).flatMap f
  | l, 0, _ => by simp
  | [], q + 1, _ => by simp
  | x :: l, q + 1, h => by
    rw [List.flatMap_cons, List.drop_succ_cons, ← flat_drop f m l q fun y hy => h y (.tail _ hy), Nat.succ_mul, Nat.add_comm, ← List.drop_drop, List.drop_append_of_le_length (by rw [h x (.head _)]; exact Nat.le_refl _), (show (f x).drop m = [] from List.drop_of_length_le (by rw [h x (.head _)]; exact Nat.le_refl _)), List.nil_append]
theorem flat_cut {α β : Type} (f : α → List β) (m : Nat) {l : List α} {q : Nat} {x : α} (h : ∀ x ∈ l, (f x).length = m) (e : l[q]? = some x) : ((l.flatMap f).drop (q * m)).take m = f x := by
  obtain ⟨hq, e⟩ := List.getElem?_eq_some_iff.mp e
  rw [flat_drop f m l q h, List.drop_eq_getElem_cons hq, e, List.flatMap_cons]
  have := h x (e ▸ List.getElem_mem hq)
  rw [List.take_append_of_le_length (by omega), List.take_of_length_le (by omega)]
theorem flat_at {α β : Type} (f : α → List β) (m : Nat) {l : List α} {q p : Nat} {x : α} (h : ∀ x ∈ l, (f x).length = m) (e : l[q]? = some x) (hp : p < m) : (l.flatMap f)[q * m + p]? = (f x)[p]? := by
  rw [← flat_cut f m h e, List.getElem?_take, if_pos hp, List.getElem?_drop]
theorem snocI {α : Type} {M : List α → Prop} (h0 : M []) (h1 : ∀ l x, M l → M (l ++ [x])) : ∀ l, M l := by
  intro l
  rw [← List.reverse_reverse l]
  induction l.reverse with
  | nil => exact h0
  | cons x l ih => rw [List.reverse_cons]; exact h1 _ _ ih
theorem allC_at (m : Nat) : ∀ c : List Nat, (∀ p ∈ c, p < m) → (allC m c.length)[num m c]? = some c := snocI (fun _ => rfl) fun c p ih h => by
  have e := ih fun q hq => h q (List.mem_append_left _ hq)
  have hp : p < m := h p (by simp)
  rw [num_snoc, List.length_append]
  show (List.flatMap _ (allC m c.length))[_]? = _
  rw [flat_at _ m (fun x _ => by simp) e hp, List.getElem?_map, List.getElem?_range hp]
  rfl
def asg (F : List Str) (c : List Nat) (x : Str) : Nat := c.getD (F.idxOf x) 0
theorem asg_map {F : List Str} {g : Str → Nat} {x : Str} (h : x ∈ F) : asg F (F.map g) x = g x := by
  have hi := List.idxOf_lt_length_of_mem h
  unfold asg
  rw [List.getD_eq_getElem?_getD, List.getElem?_map, List.getElem?_eq_getElem hi, List.getElem_idxOf]
  rfl
theorem asg_lt {F : List Str} {c : List Nat} {m : Nat} {x : Str} (hl : c.length = F.length) (h : ∀ p ∈ c, p < m) (hx : x ∈ F) : asg F c x < m := by
  have hi := List.idxOf_lt_length_of_mem hx
  unfold asg
  rw [List.getD_eq_getElem?_getD, List.getElem?_eq_getElem (by omega)]
  exact h _ (List.getElem_mem _)
def up (ρ : Str → Nat) (x : Str) (p : Nat) : Str → Nat := fun y => if y = x then p else ρ y
theorem asg_up {M : List Str} {c : List Nat} {x y : Str} {p : Nat} (hl : c.length = M.length) (hx : x ∉ M) (hy : y ∈ M ++ [x]) : asg (M ++ [x]) (c ++ [p]) y = up (asg M c) x p y := by
  unfold asg up
  by_cases e : y = x
  · subst e
    rw [if_pos rfl, List.idxOf_append, if_neg hx]
    simp [← hl]
  · have hm : y ∈ M := by
      rcases List.mem_append.mp hy with h | h
      · exact h
      · exact absurd (List.mem_singleton.mp h) e
    have hi := List.idxOf_lt_length_of_mem hm
    rw [if_neg e]
    show _ = c.getD (M.idxOf y) 0
    rw [List.idxOf_append, if_pos hm, List.getD_eq_getElem?_getD, List.getD_eq_getElem?_getD, List.getElem?_append_left (by omega)]
def Dep (f : (Str → Nat) → Bool) (F : List Str) : Prop := ∀ ρ ρ' : Str → Nat, (∀ x ∈ F, ρ x = ρ' x) → f ρ = f ρ'
theorem Dep.mono {f : (Str → Nat) → Bool} {F G : List Str} (h : Dep f F) (hs : ∀ x ∈ F, x ∈ G) : Dep f G := fun ρ ρ' e => h ρ ρ' fun x hx => e x (hs x hx)
def tab (m : Nat) (F : List Str) (f : (Str → Nat) → Bool) : List Bool := (allC m F.length).map fun c => f (asg F c)
theorem tab_len (m : Nat) (F : List Str) (f : (Str → Nat) → Bool) : (tab m F f).length = m ^ F.length := by rw [tab, List.length_map, allC_len]
theorem tab_at {m : Nat} {F : List Str} {f : (Str → Nat) → Bool} (ρ : Str → Nat) (hf : Dep f F) (h : ∀ x ∈ F, ρ x < m) : (tab m F f)[num m (F.map ρ)]? = some (f ρ) := by
  have e := allC_at m (F.map ρ) (fun p hp => by obtain ⟨x, hx, rfl⟩ := List.mem_map.mp hp; exact h x hx)
  rw [List.length_map] at e
  unfold tab
  rw [List.getElem?_map, e]
  exact congrArg some (hf _ _ fun x hx => asg_map hx)
def nums (m : Nat) (F M : List Str) : List Nat := (allC m M.length).map fun c => num m (F.map (asg M c))
theorem tab_wide {m : Nat} {F M : List Str} {f : (Str → Nat) → Bool} {c : List Nat} (hf : Dep f F) (hs : ∀ x ∈ F, x ∈ M) (hc : c ∈ allC m M.length) : (tab m F f)[num m (F.map (asg M c))]? = some (f (asg M c)) := by
  obtain ⟨h1, h2⟩ := allC_mem hc
  exact tab_at _ hf fun x hx => asg_lt h1 h2 (hs x hx)
theorem tab_cut {m : Nat} {M : List Str} {x : Str} {f : (Str → Nat) → Bool} {q : Nat} {c : List Nat} (hf : Dep f (M ++ [x])) (hx : x ∉ M) (e : (allC m M.length)[q]? = some c) : ((tab m (M ++ [x]) f).drop (q * m)).take m = (List.range m).map fun p => f (up (asg M c) x p) := by
  have hc := allC_mem (List.mem_of_getElem? e)
  have et : tab m (M ++ [x]) f = (allC m M.length).flatMap fun c => (List.range m).map fun p => f (asg (M ++ [x]) (c ++ [p])) := by
    unfold tab
    rw [List.length_append]
    show ((allC m (M.length + 1)).map _) = _
    simp only [allC, List.map_flatMap, List.map_map]
    rfl
  rw [et, flat_cut _ m (fun x _ => by simp) e]
  exact List.map_congr_left fun p _ => hf _ _ fun y hy => asg_up hc.1 hx hy
theorem num_lt (m : Nat) : ∀ c : List Nat, (∀ p ∈ c, p < m) → num m c < m ^ c.length := fun c h => by
  have := (List.getElem?_eq_some_iff.mp (allC_at m c h)).1
  rwa [allC_len] at this
end My
set_option Elab.async false
set_option linter.all false
set_option maxRecDepth 100000
set_option maxHeartbeats 4000000
namespace My
open PySem L2
local macro_rules
  | `(tactic| simp!) => `(tactic| simp only [tSeq, tIfS, tTest, tOp, tVar, tC, tAsg, gName, gSub, tRet, tNext, tDrop, tAnd, tNot, tAndV, tOrV, tNotV, tB, tCall, rI0, rI, rAddW_int, rAddW_str, rMulW_int, rMulW_ref, rLtU_int, rLtU_str, rIxU_str, rIxU_ref, rLenU_str, rLenU_ref, rIntU_int, rIntU_bl, rListU_str, rListU_ref, rPopU_ref, rAppendU_ref, rEqU_int, rEqU_bl, rEqU_str, rEqU_ref, rNeU_int, rNeU_bl, rNeU_str, rNeU_ref, rIsU_ty, rSetU_ref, isL_ref, lstOf_lst, tupOf_tup, seqOf_lst, seqOf_tup, Option.isSome_some, tBML, tCB, tCons, tNil, tLst, tTup, tSl, tPart, tNoPart, rSlU_str, iAny, iRng1, tFor_eq, tComp, tCompIf, compSt, tUn, rU, tBMS, isS_str, rInU_str, tBM, tyV_str, rAllU_ref, rAnyU_ref, Option.bind_some, Option.bind_none, Option.getD_some, L2.start, List.map_cons, List.map_nil, List.length_cons, List.length_nil, List.cons_append, List.nil_append, List.append_nil, List.cons.injEq, List.replicate, List.getElem?_cons_zero, List.getElem?_cons_succ, List.set_cons_zero, List.set_cons_succ, Nat.reduceSub, Nat.reduceAdd, Nat.reduceLeDiff, Option.some.injEq, V.int.injEq, V.bl.injEq, V.str.injEq, V.ref.injEq, HO.lst.injEq, HO.tup.injEq, exists_eq_left', exists_eq_left, exists_and_left, true_and, and_true, upd_same, upd_upd, atI_0, atI_1, atI_2, Bool.not_true, Bool.not_false, decide_eq_true_eq, Bool.false_eq_true, if_false, if_true, reduceIte, reduceCtorEq, tSortedSet, rSortedSet_ref, tMeth, tMake, tPNotIn, tPGet, sPPut, tPNew, iZipM, iZipL, tTupF, iTup, tDGet, tDisp, tPairs, tDisp0, tBMTu, tAndV, tOrV])
  | `(tactic| simp! [$ls,*]) => `(tactic| simp only [tSeq, tIfS, tTest, tOp, tVar, tC, tAsg, gName, gSub, tRet, tNext, tDrop, tAnd, tNot, tAndV, tOrV, tNotV, tB, tCall, rI0, rI, rAddW_int, rAddW_str, rMulW_int, rMulW_ref, rLtU_int, rLtU_str, rIxU_str, rIxU_ref, rLenU_str, rLenU_ref, rIntU_int, rIntU_bl, rListU_str, rListU_ref, rPopU_ref, rAppendU_ref, rEqU_int, rEqU_bl, rEqU_str, rEqU_ref, rNeU_int, rNeU_bl, rNeU_str, rNeU_ref, rIsU_ty, rSetU_ref, isL_ref, lstOf_lst, tupOf_tup, seqOf_lst, seqOf_tup, Option.isSome_some, tBML, tCB, tCons, tNil, tLst, tTup, tSl, tPart, tNoPart, rSlU_str, iAny, iRng1, tFor_eq, tComp, tCompIf, compSt, tUn, rU, tBMS, isS_str, rInU_str, tBM, tyV_str, rAllU_ref, rAnyU_ref, Option.bind_some, Option.bind_none, Option.getD_some, L2.start, List.map_cons, List.map_nil, List.length_cons, List.length_nil, List.cons_append, List.nil_append, List.append_nil, List.cons.injEq, List.replicate, List.getElem?_cons_zero, List.getElem?_cons_succ, List.set_cons_zero, List.set_cons_succ, Nat.reduceSub, Nat.reduceAdd, Nat.reduceLeDiff, Option.some.injEq, V.int.injEq, V.bl.injEq, V.str.injEq, V.ref.injEq, HO.lst.injEq, HO.tup.injEq, exists_eq_left', exists_eq_left, exists_and_left, true_and, and_true, upd_same, upd_upd, atI_0, atI_1, atI_2, Bool.not_true, Bool.not_false, decide_eq_true_eq, Bool.false_eq_true, if_false, if_true, reduceIte, reduceCtorEq, tSortedSet, rSortedSet_ref, tMeth, tMake, tPNotIn, tPGet, sPPut, tPNew, iZipM, iZipL, tTupF, iTup, tDGet, tDisp, tPairs, tDisp0, tBMTu, tAndV, tOrV, $ls,*])
def top (i : Nat) : Stmt := PySem.Challenge.pw_calmword_k35_names_bound_anew.main.body.getD i (.Pass ⟨0, 0, 0, 0⟩)
def BoxO (o : HO) : Prop := ∃ c s, o = .lst [.int c, .int s] ∧ 1 ≤ s ∧ s ≤ 2147483629
def spTake : Sp := fun vs H Q _ => ∃ b w o, vs = [.ref b, .int w] ∧ H b = some o ∧ BoxO o ∧ 0 < w ∧ w < 1073741824 ∧ ∀ d o, 0 ≤ d → d < w → BoxO o → Q (.int d) (upd H b o)
def spBox (K : PySem.W.Frag) : Sp := fun vs H Q _ => ∃ (a : Addr) (k : Int) (ns : List Int), vs = [.ref a, .int k] ∧ SqL K H a (ns.map V.int) ∧ 0 ≤ k ∧ k ≤ 1000 ∧ ∀ b o, H b = none → BoxO o → Q (.ref b) (upd H b o)
section
variable {P : Program} {w : World} {K : PySem.W.Frag} {mg : Str → Option Value} {base : Heap}
abbrev s__law_take : Stmt := top 16
theorem sc__law_take : FnScope ["_law_box_here", "_law_wide", "_law_digit", "_law_one"] ["_law_box_here", "_law_wide"] (defScope s__law_take) := ⟨rfl, rfl, rfl, by decide +kernel, rfl, by decide +kernel, by decide +kernel⟩
theorem ok__law_take {f : Addr} {fd : FuncData} (F : Fun K "_law_take" "_law_take" s__law_take f fd) : FnOk P w K mg base CX0 1 f fd ["_law_box_here", "_law_wide"] spTake := by
  refine F.ok sc__law_take (fun vs H Q E h => ?_) (fun cdv A outer s H vs Q E hr h => ?_)
  · obtain ⟨b, w, o, rfl, _⟩ := h
    rfl
  · obtain ⟨b, w, o, rfl, hb, ⟨c, sd, rfl, s1, s2⟩, w0, w1, k⟩ := h
    refine ⟨_, (QSs.h (qpss_cons (qps_if (qpt_cmpR op_gt (qpe_ix ix_U (qpv 0) qpe_int (fun _ _ => rfl)) qpe_int (nomark _)) (qpss_cons (qps_set (i := 2) sc__law_take.nd rfl (by first | exact Or.inl rfl | exact Or.inr rfl) (qpe_op op_mod (qpe_ix ix_U (qpv 0) qpe_int (fun _ _ => rfl)) (qpv 1)))
    (qpss_cons (qps_asg (qpe_op op_fdiv (qpe_ix ix_U (qpv 0) qpe_int (fun _ _ => rfl)) (qpv 1)) (qpg_sub (qpv 0) qpe_int set_U))
    (qpss_one (qps_ret (qpv 2))))) qpss_nil)
    (qpss_cons (qps_set (i := 3) sc__law_take.nd rfl (by first | exact Or.inl rfl | exact Or.inr rfl) (qpe_op op_mod (qpe_op op_mulW (qpe_ix ix_U (qpv 0) qpe_int (fun _ _ => rfl)) qpe_int) qpe_int))
    (qpss_cons (qps_asg (qpe_op op_addW (qpe_op op_mod (qpe_op op_addW (qpe_op op_mulW (qpv 3) qpe_int) qpe_int) qpe_int) qpe_int) (qpg_sub (qpv 0) qpe_int set_U))
    (qpss_one (qps_ret (qpe_op op_mod (qpe_op op_fdiv (qpe_op op_addW (qpe_op op_mulW (qpv 3) qpe_int) (qpe_ix ix_U (qpv 0) qpe_int (fun _ _ => rfl))) qpe_int) (qpv 1)))))))), ?_⟩
    have m1 : ∀ z m : Int, 0 < m → 0 ≤ z % m ∧ z % m < m := fun z m h => ⟨Int.emod_nonneg z (by omega), Int.emod_lt_of_pos z h⟩
    simp! [hb]
    refine ite2 (fun hc => ?_) (fun _ => ?_)
    · refine ⟨w0, ⟨w0, w1⟩, 0, rfl, ?_⟩
      simp! [hb]
      exact k _ _ (m1 c w w0).1 (m1 c w w0).2 ⟨_, _, rfl, s1, s2⟩
    · have q1 := m1 (sd * 69623) 2147483647 (by decide)
      refine ⟨.inl ⟨by omega, by omega⟩, by decide, .inl ⟨by omega, by omega⟩, by decide, 1, rfl, ?_⟩
      simp! [hb]
      have q2 := m1 (sd * 69623 % 2147483647 * 48271 + 30103) 2147483629 (by decide)
      refine ⟨.inl ⟨by omega, by omega⟩, ⟨by decide, by decide⟩, w0, ?_⟩
      exact k _ _ (m1 _ w w0).1 (m1 _ w w0).2 ⟨_, _, rfl, by omega, by omega⟩
structure TBox (mg : Str → Option Value) : Prop where
  n_len : mg "len" = none
  n_int : mg "int" = none
abbrev s__law_box : Stmt := top 15
theorem sc__law_box : FnScope ["_law_script", "_law_k", "_law_cell", "_law_seed"] ["_law_script", "_law_k"] (defScope s__law_box) := ⟨rfl, rfl, rfl, by decide +kernel, rfl, by decide +kernel, by decide +kernel⟩
theorem ok__law_box {f : Addr} {fd : FuncData} (F : Fun K "_law_box" "_law_box" s__law_box f fd) (T : TBox mg) : FnOk P w K mg base CX0 1 f fd ["_law_script", "_law_k"] (spBox K) := by
  refine F.ok sc__law_box (fun vs H Q E h => ?_) (fun cdv A outer s H vs Q E hr h => ?_)
  · obtain ⟨a, k, ns, rfl, _⟩ := h
    rfl
  · obtain ⟨a, k, ns, rfl, hS, k0, k1, kk⟩ := h
    refine ⟨_, (QSs.h (qpss_cons (qps_set (i := 2) sc__law_box.nd rfl (by first | exact Or.inl rfl | exact Or.inr rfl) (qpe_op op_addW (qpe_op op_mulW qpe_int (qpv 1)) qpe_int))
    (qpss_cons (qps_if (qpt_cmpR op_ltU (qpv 1) (qpe_callB call_len_seq (by rfl) T.n_len bt_len (qpa_cons (qpv 0) qpa_nil)) (nomark _)) (qpss_one (qps_set (i := 2) sc__law_box.nd rfl (by first | exact Or.inl rfl | exact Or.inr rfl) (qpe_ix ix_list (qpv 0) (qpv 1) (fun _ _ => rfl)))) (qpss_one (qps_if (qpt_cmpR op_gt (qpe_callB call_len_seq (by rfl) T.n_len bt_len (qpa_cons (qpv 0) qpa_nil)) qpe_int (nomark _)) (qpss_one (qps_set (i := 2) sc__law_box.nd rfl (by first | exact Or.inl rfl | exact Or.inr rfl) (qpe_op op_addW (qpv 2) (qpe_op op_mulW (qpe_op op_mod (qpe_ix ix_list (qpv 0) (qpe_op op_mod (qpv 1) (qpe_callB call_len_seq (by rfl) T.n_len bt_len (qpa_cons (qpv 0) qpa_nil))) (fun _ _ => rfl)) qpe_int) qpe_int)))) qpss_nil)))
    (qpss_cons (qps_set (i := 3) sc__law_box.nd rfl (by first | exact Or.inl rfl | exact Or.inr rfl) (qpe_op op_addW (qpe_op op_mod (qpe_op op_addW (qpe_op op_mulW (qpe_op op_mod (qpv 2) qpe_int) qpe_int) (qpe_op op_mulW qpe_int (qpv 1))) qpe_int) qpe_int))
    (qpss_one (qps_ret (qpe_lst (qpa_cons (qpe_op op_mulW (qpv 2) (qpe_callTy call_intU (by rfl) T.n_int bt_int (qpa_cons (qpe_cmpR op_ge (qpv 2) (qpe_op op_pow qpe_int qpe_int) (nomark _)) qpa_nil))) (qpa_cons (qpv 3) qpa_nil))))))))), ?_⟩
    have m1 : ∀ z m : Int, 0 < m → 0 ≤ z % m ∧ z % m < m := fun z m h => ⟨Int.emod_nonneg z (by omega), Int.emod_lt_of_pos z h⟩
    have tail : ∀ cell : Int, (0 : Int) < 2147483629 ∧ CMul (cell % 2147483629) 48271 ∧ CMul 40692 k ∧ (0 : Int) < 2147483629 ∧ CPow 10 18 ∧ CMul cell (if (10 : Int) ^ (18 : Int).toNat ≤ cell then 1 else 0) ∧ 2 ≤ sizeLine ∧
        ∀ p, H p = none → Q (.ref p) (upd H p (.lst [.int (cell * (if (10 : Int) ^ (18 : Int).toNat ≤ cell then 1 else 0)), .int ((cell % 2147483629 * 48271 + 40692 * k) % 2147483629 + 1)])) := by
      intro cell
      have q1 := m1 cell 2147483629 (by decide)
      have q2 := m1 (cell % 2147483629 * 48271 + 40692 * k) 2147483629 (by decide)
      refine ⟨by decide, .inl ⟨by omega, by omega⟩, .inl ⟨by decide, by decide⟩, by decide, ⟨by decide, by decide, by decide⟩, .inr ?_, by decide, fun p hp => kk p _ hp ⟨_, _, rfl, by omega, by omega⟩⟩
      split <;> constructor <;> decide
    simp!
    refine ⟨.inl ⟨by decide, by decide⟩, ns.map V.int, .inl hS, ?_⟩
    rw [List.length_map]
    refine ite2 (fun h => ?_) (fun h => ?_)
    · obtain ⟨z, hz⟩ : ∃ z, ns[k.toNat]? = some z := ⟨ns[k.toNat]'(by omega), by simp⟩
      refine ⟨a, _, k, .int z, rfl, rfl, hS, atI_of k0 (by rw [List.getElem?_map, hz]; rfl), ?_⟩
      simp!
      exact tail z
    · refine ⟨ns.map V.int, .inl hS, ?_⟩
      rw [List.length_map]
      refine ite2 (fun h2 => ?_) (fun h2 => ?_)
      · refine ⟨ns.map V.int, .inl hS, ?_⟩
        rw [List.length_map]
        have q := m1 k (ns.length : Int) (by omega)
        obtain ⟨z, hz⟩ : ∃ z, ns[(k % (ns.length : Int)).toNat]? = some z := ⟨ns[(k % (ns.length : Int)).toNat]'(by omega), by simp⟩
        refine ⟨by omega, a, _, _, .int z, rfl, rfl, hS, atI_of q.1 (by rw [List.getElem?_map, hz]; rfl), ?_⟩
        simp!
        have q3 := m1 z 2147483629 (by decide)
        refine ⟨by decide, .inl ⟨by omega, by omega⟩, ?_⟩
        exact tail _
      · exact tail _
end
structure Letters (z : Str) (m : Nat) : Prop where
  lo : 1 ≤ z.length
  hi : z.length ≤ m
  az : ∀ c ∈ z.cps.toList, 97 ≤ c ∧ c ≤ 122
  nd : z.cps.toList.Nodup
def chV (c : Nat) : V := .str ⟨#[c]⟩
def spLetters : Sp := fun vs H Q _ => ∃ (b : Addr) (m : Nat) (o : HO), vs = [.ref b, .int (m : Int)] ∧ H b = some o ∧ BoxO o ∧ 1 ≤ m ∧ m ≤ 4 ∧ ∀ z o' H', Letters z m → BoxO o' → H' b = some o' → Kp [b] H H' → Q (.str z) H'
theorem erase_perm {α : Type} : ∀ (l : List α) (i : Nat) (x : α), l[i]? = some x → (x :: l.eraseIdx i).Perm l
  | [], i, x, h => by simp at h
  | a :: l, 0, x, h => by simp at h; subst h; exact List.Perm.refl _
  | a :: l, i + 1, x, h => by
    rw [List.eraseIdx_cons_succ]
    exact (List.Perm.swap _ _ _).trans ((erase_perm l i x (by simpa using h)).cons a)
theorem map_erase {α β : Type} (f : α → β) : ∀ (l : List α) (i : Nat), (l.map f).eraseIdx i = (l.eraseIdx i).map f
  | [], _ => rfl
  | _ :: _, 0 => rfl
  | a :: l, i + 1 => by rw [List.map_cons, List.eraseIdx_cons_succ, List.eraseIdx_cons_succ, List.map_cons, map_erase f l i]
theorem abc_sgn : sgn (Str.ofString "abcdefghijklmnopqrstuvwxyz") = ((List.range 26).map (97 + ·)).map chV := by decide +kernel
structure TLetters (mg : Str → Option Value) (ft : Addr) : Prop where
  n_len : mg "len" = none
  n_list : mg "list" = none
  n_range : mg "range" = none
  m__law_take : mg "_law_take" = some (.ref ft)
section
variable {P : Program} {w : World} {K : PySem.W.Frag} {mg : Str → Option Value} {base : Heap}
abbrev s__law_letters : Stmt := top 17
theorem sc__law_letters : FnScope ["_law_box_here", "_law_most", "_law_pool", "_law_found", "_law_k"] ["_law_box_here", "_law_most"] (defScope s__law_letters) := ⟨rfl, rfl, rfl, by decide +kernel, rfl, by decide +kernel, by decide +kernel⟩
theorem ok__law_letters {f ft : Addr} {fd fdt : FuncData} (F : Fun K "_law_letters" "_law_letters" s__law_letters f fd) (T : TLetters mg ft) (F__law_take : Fun K "_law_take" "_law_take" s__law_take ft fdt) (b__law_take : Binds K fdt ["_law_box_here", "_law_wide"] [])
    (G__law_take : FnOk P w K mg base CX0 1 ft fdt ["_law_box_here", "_law_wide"] spTake) : FnOk P w K mg base CX0 2 f fd ["_law_box_here", "_law_most"] spLetters := by
  refine F.ok sc__law_letters (fun vs H Q E h => ?_) (fun cdv A outer s H vs Q E hr h => ?_)
  · obtain ⟨b, m, o, rfl, _⟩ := h
    rfl
  · obtain ⟨b, m, o, rfl, hb, ho, m1, m4, k⟩ := h
    refine ⟨_, (QSs.h (qpss_cons (qps_set (i := 2) sc__law_letters.nd rfl (by first | exact Or.inl rfl | exact Or.inr rfl) (qpe_callTy (call_listU rfl) (by rfl) T.n_list bt_list (qpa_cons qpe_str qpa_nil)))
    (qpss_cons (qps_set (i := 3) sc__law_letters.nd rfl (by first | exact Or.inl rfl | exact Or.inr rfl) qpe_str)
    (qpss_cons (qps_for PassesOwn.never rfl (qpi_range1 rfl T.n_range (qpa_cons (qpe_op op_addW qpe_int (qpe_call G__law_take (hr.mono (by decide)) rfl T.m__law_take F__law_take.kp b__law_take .nil pass0 (qpa_cons (qpv 0) (qpa_cons (qpv 1) qpa_nil)))) qpa_nil)) (qpg_name (i := 4) sc__law_letters.nd rfl (by first | exact Or.inl rfl | exact Or.inr rfl)) (qpss_one (qps_set (i := 3) sc__law_letters.nd rfl (by first | exact Or.inl rfl | exact Or.inr rfl) (qpe_op op_addW (qpv 3) (qpe_bmL PySem.F.slot_list_pop PySem.F.type_list_pop mt_popU (qpv 2) (qpa_cons (qpe_call G__law_take (hr.mono (by decide)) rfl T.m__law_take F__law_take.kp b__law_take .nil pass0 (qpa_cons (qpv 0) (qpa_cons (qpe_callB call_lenU (by rfl) T.n_len bt_len (qpa_cons (qpv 2) qpa_nil)) qpa_nil))) qpa_nil) mono_var)))))
    (qpss_one (qps_ret (qpv 3))))))), ?_⟩
    simp!
    refine ⟨by decide, fun p hp => ?_⟩
    have npb : b ≠ p := ne_of_none hb hp
    obtain ⟨c0, s0, rfl, _, _⟩ := id ho
    refine ⟨b, (m : Int), _, rfl, by rw [upd_ne npb]; exact hb, ho, by omega, by omega, fun d o1 d0 d1 ho1 => ?_⟩
    simp!
    obtain ⟨n, rfl⟩ : ∃ n : Nat, d = (n : Int) := ⟨d.toNat, by omega⟩
    have en : (1 + (n : Int)).toNat = n + 1 := by omega
    refine ⟨by omega, by omega, ?_⟩
    rw [en]
    refine loop_range (fun i σ H' => ∃ l R o' v, σ = [some (.ref b), some (.int (m : Int)), some (.ref p), some (.str (toS l)), v] ∧ H' b = some o' ∧ BoxO o' ∧ H' p = some (.lst (R.map chV)) ∧ Kp [b] H H' ∧ l.length = i ∧ R.length + i = 26 ∧
      (l ++ R).Nodup ∧ ∀ c ∈ l ++ R, 97 ≤ c ∧ c ≤ 122) ?_ ?_ ?_
    · refine ⟨[], (List.range 26).map (97 + ·), o1, none, rfl, upd_same, ho1, ?_, ?_, rfl, by simp, ?_, ?_⟩
      · rw [upd_ne npb.symm, upd_same, abc_sgn]
      · exact ((Kp.refl [b] H).new hp).set (by rw [upd_ne npb]; exact hb) (.inl (by simp))
      · decide
      · decide
    · rintro i σ H' hi ⟨l, R, o', v, rfl, hb', ho', hp', kp, hl, hR, nd, az⟩
      simp! [hp']
      obtain ⟨c1, s1, rfl, _, _⟩ := id ho'
      refine ⟨b, _, _, rfl, hb', ho', by rw [List.length_map]; omega, by rw [List.length_map]; omega, fun d o2 d0 d1 ho2 => ?_⟩
      rw [List.length_map] at d1
      have hp2 : upd H' b o2 p = some (.lst (R.map chV)) := by rw [upd_ne npb.symm]; exact hp'
      simp! [hp2]
      obtain ⟨c, hc⟩ : ∃ c, R[d.toNat]? = some c := ⟨R[d.toNat]'(by omega), by simp⟩
      have hc' : (R.map chV)[d.toNat]? = some (.str ⟨#[c]⟩) := by rw [List.getElem?_map, hc]; rfl
      refine ⟨d0, _, hc', ?_⟩
      simp!
      have pm := erase_perm R d.toNat c hc
      have e1 : ((l ++ [c]) ++ R.eraseIdx d.toNat).Perm (l ++ R) := by
        rw [List.append_assoc]
        exact pm.append_left l
      have hlen : (R.eraseIdx d.toNat).length + 1 = R.length := by
        have := pm.length_eq
        simpa using this
      refine ⟨?_, l ++ [c], R.eraseIdx d.toNat, o2, _, ⟨toS_app l c, rfl⟩, by rw [upd_ne npb, upd_same], ho2, map_erase chV R _, ?_, by simp [hl], by omega, ?_, ?_⟩
      · rw [toS_len]
        show l.length + 1 ≤ sizeLine
        have : sizeLine = 16777216 := PySem.sizeLine_eq
        omega
      · exact (kp.set hb' (.inl (.head _))).set hp2 (.inr hp)
      · exact e1.nodup_iff.mpr nd
      · exact fun x hx => az x (e1.mem_iff.mp hx)
    · rintro σ H' ⟨l, R, o', v, rfl, hb', ho', hp', kp, hl, hR, nd, az⟩
      simp! [hp']
      exact k (toS l) o' H' ⟨by rw [toS_len]; omega, by rw [toS_len]; omega, fun c hc => az c (List.mem_append_left _ (by simpa [toS] using hc)), by simpa [toS] using (List.nodup_append.mp nd).1⟩ ho' hb' kp
end
theorem upd_swap {H : Hp} {a b : Addr} {x y : HO} (h : a ≠ b) : upd (upd H a x) b y = upd (upd H b y) a x := by
  funext c
  by_cases h1 : c = a
  · subst h1; rw [upd_ne h, upd_same, upd_same]
  · by_cases h2 : c = b
    · subst h2; rw [upd_same, upd_ne h1, upd_same]
    · rw [upd_ne h2, upd_ne h1, upd_ne h1, upd_ne h2]
theorem comp_box {lo : Int} {n : Nat} {D b : Addr} {te : TE} {E : Ends} {r : L2.St} {H : Hp} {o0 : HO} (P : V → Prop) (hb : H b = some o0) (ho0 : BoxO o0) (hD : H D = none) (hz : n ≤ sizeLine)
    (he : ∀ x H' o Q, H' b = some o → BoxO o → (∀ v o', P v → BoxO o' → Q v (upd H' b o')) → te (some x :: r) H' Q)
    (hn : ∀ v xs o', xs.length = n → (∀ x ∈ xs, P x) → BoxO o' → E.nx (v :: r) (upd (upd H b o') D (.lst xs))) : LoopR (Itr lo n) (gName 0) (tEmit D te) E (none :: r) (upd H D (.lst [])) := by
  have nbD : b ≠ D := ne_of_none hb hD
  refine loop_range (fun i σ H' => ∃ (v : Option V) (xs : List V) (o' : HO), σ = v :: r ∧ xs.length = i ∧ (∀ x ∈ xs, P x) ∧ BoxO o' ∧ H' = upd (upd H b o') D (.lst xs)) ?_ ?_ ?_
  · refine ⟨none, [], o0, rfl, rfl, (fun x h => nomatch h), ho0, ?_⟩
    have : upd H b o0 = H := by
      funext c
      by_cases h : c = b
      · subst h; rw [upd_same, hb]
      · rw [upd_ne h]
    rw [this]
  · rintro i σ H' hi ⟨v, xs, o', rfl, hl, hP, ho', rfl⟩
    refine he _ _ o' _ (by rw [upd_ne nbD, upd_same]) ho' fun y o2 hy ho2 => ?_
    have e : upd (upd (upd H b o') D (.lst xs)) b o2 = upd (upd H b o2) D (.lst xs) := by rw [upd_swap nbD.symm, upd_upd]
    refine ⟨xs, by rw [e, upd_same]; rfl, by omega, _, xs ++ [y], o2, rfl, by simp [hl], fun x hx => ?_, ho2, by rw [e, upd_upd]⟩
    rcases List.mem_append.mp hx with h | h
    · exact hP x h
    · simp at h; subst h; exact hy
  · rintro σ H' ⟨v, xs, o', rfl, hl, hP, ho', rfl⟩
    exact hn v xs o' hl hP ho'
theorem _root_.L2.Kp.seq {S : List Addr} {K : PySem.W.Frag} {H H' : Hp} {a : Addr} {xs : List V} (e : Kp S H H') (n : a ∉ S) (h : SqL K H a xs) : SqL K H' a xs := by
  rcases h with (h | ⟨o, h⟩) | h
  · exact .inl (.inl (e.old _ _ h n))
  · exact .inl (.inr ⟨o, e.old _ _ h n⟩)
  · exact .inr h
def spLaw (K : PySem.W.Frag) : Sp := fun vs H Q _ => ∃ (a : Addr) (ns : List Int), vs = [.ref a] ∧ SqL K H a (ns.map V.int) ∧ ns.length ≤ 63 ∧ ∀ H', Q (.bl true) H'
theorem BoxO.lst {o : HO} (h : BoxO o) : ∃ xs, o = .lst xs := by obtain ⟨c, s, e, _⟩ := h; exact ⟨_, e⟩
theorem exQ {X : Cx} {ss : List Stmt} {t : TS} {D : Ends} {σ : L2.St} {H : Hp} (h : QSs X ss t) (q : t D σ H) : ∃ t, PSs X ss t ∧ t D σ H := ⟨t, h.h, q⟩
inductive RS where
  | yes | is (x a : Str) | ahead (x y : Str) | no (i : Nat) | bin (b : Bool) (i j : Nat) | qn (b : Bool) (x : Str) (i : Nat)
def bw (b : Bool) : Str := if b then "and" else "or"
def qw (b : Bool) : Str := if b then "some" else "each"
def rowV : RS → List V
  | .yes => [.str "yes"]
  | .is x a => [.str "is", .str x, .str a]
  | .ahead x y => [.str "ahead", .str x, .str y]
  | .no i => [.str "not", .int (i : Int)]
  | .bin b i j => [.str (bw b), .int (i : Int), .int (j : Int)]
  | .qn b x i => [.str (qw b), .str x, .int (i : Int)]
def RS.ok (zs : List Str) (k : Nat) : RS → Prop
  | .yes => True
  | .is x _ => x ∈ zs
  | .ahead x y => x ∈ zs ∧ y ∈ zs
  | .no i => i < k
  | .bin _ i j => i < k ∧ j < k
  | .qn _ x i => x ∈ zs ∧ i < k
def okR (zs : List Str) (rs : List RS) : Prop := ∀ (k : Nat) (r : RS), rs[k]? = some r → r.ok zs k
theorem okR.take {zs : List Str} {rs : List RS} (h : okR zs rs) (m : Nat) : okR zs (rs.take m) := fun k x e => h k x (by
  rw [List.getElem?_take] at e
  split at e
  · exact e
  · cases e)
def RowsAt (H : Hp) (vs : List V) (rs : List RS) : Prop := Paired (fun v r => ∃ a, v = .ref a ∧ H a = some (.tup (rowV r))) vs rs
theorem RowsAt.kp {S : List Addr} {H H' : Hp} {vs : List V} {rs : List RS} (k : Kp S H H') (h : RowsAt H vs rs) : RowsAt H' vs rs := Paired.mapP h fun _ _ ⟨a, e, h⟩ => ⟨a, e, k.tup _ _ h⟩
theorem RowsAt.get : ∀ {H : Hp} {vs : List V} {rs : List RS} {k : Nat} {v : V}, RowsAt H vs rs → vs[k]? = some v → ∃ r a, rs[k]? = some r ∧ v = .ref a ∧ H a = some (.tup (rowV r))
  | H, _, _, k, v, .nil, e => by simp at e
  | H, _, _, 0, v, .cons (b := b) ⟨a, q1, q2⟩ _, e => by simp at e; subst e; exact ⟨b, a, rfl, q1, q2⟩
  | H, _, _, k + 1, v, .cons _ t, e => by simp at e; obtain ⟨r, a, h⟩ := RowsAt.get (rs := _) t e; exact ⟨r, a, by simpa using h.1, h.2⟩
def fm (F : List (List Str)) : RS → List Str
  | .yes => []
  | .is x _ => [x]
  | .ahead x y => [x, y]
  | .no i => F.getD i []
  | .bin _ i j => F.getD i [] ++ F.getD j []
  | .qn _ x i => (F.getD i []).filter fun y => !decide (y = x)
structure Cn (l raw : List Str) : Prop where
  so : PyProof.Rows.sortedS l = true
  nd : l.Nodup
  me : ∀ x, x ∈ l ↔ x ∈ raw
theorem Cn.one {l m raw raw' : List Str} (h : Cn l raw) (h' : Cn m raw') (e : ∀ x, x ∈ raw ↔ x ∈ raw') : l = m := sorted_one h.so h'.so h.nd h'.nd fun x => by rw [h.me, h'.me, e]
theorem getD_snoc {α : Type} {d : α} {F : List α} {x : α} {i : Nat} (h : i < F.length) : (F ++ [x]).getD i d = F.getD i d := by
  rw [List.getD_eq_getElem?_getD, List.getD_eq_getElem?_getD, List.getElem?_append_left h]
theorem getD_last {α : Type} {d : α} {F : List α} {x : α} : (F ++ [x]).getD F.length d = x := by
  rw [List.getD_eq_getElem?_getD, List.getElem?_append_right (Nat.le_refl _)]
  simp
theorem fm_cong {F G : List (List Str)} {zs : List Str} {k : Nat} (h : ∀ i, i < k → F.getD i [] = G.getD i []) : ∀ {r : RS}, r.ok zs k → fm F r = fm G r
  | .yes, _ => rfl
  | .is _ _, _ => rfl
  | .ahead _ _, _ => rfl
  | .no i, ok => h i ok
  | .bin _ i j, ok => by simp only [fm]; rw [h i ok.1, h j ok.2]
  | .qn _ x i, ok => by simp only [fm]; rw [h i ok.2]
structure CF (zs : List Str) (F : List (List Str)) (rs : List RS) : Prop where
  len : F.length = rs.length
  at_ : ∀ k r, rs[k]? = some r → Cn (F.getD k []) (fm F r)
  sub : ∀ k x, x ∈ F.getD k [] → x ∈ zs
theorem fm_sub {zs : List Str} {F : List (List Str)} {k : Nat} (h : ∀ k x, x ∈ F.getD k [] → x ∈ zs) : ∀ {r : RS}, r.ok zs k → ∀ x ∈ fm F r, x ∈ zs
  | .yes, _, x, hx => by simp [fm] at hx
  | .is y _, ok, x, hx => by
    have : x = y := by simpa [fm] using hx
    rw [this]; exact ok
  | .ahead y z, ok, x, hx => by
    have : x = y ∨ x = z := by simpa [fm] using hx
    rcases this with rfl | rfl
    · exact ok.1
    · exact ok.2
  | .no i, _, x, hx => h i x hx
  | .bin _ i j, _, x, hx => by
    rcases List.mem_append.mp hx with q | q
    · exact h i x q
    · exact h j x q
  | .qn _ y i, _, x, hx => h i x (List.mem_filter.mp hx).1
theorem CF.nil (zs : List Str) : CF zs [] [] := ⟨rfl, fun k r e => by simp at e, fun k x hx => by simp at hx⟩
theorem CF.snoc {zs : List Str} {F : List (List Str)} {rs : List RS} {r : RS} {l : List Str} (h : CF zs F rs) (okr : okR zs rs) (hr : r.ok zs rs.length) (hl : Cn l (fm F r)) : CF zs (F ++ [l]) (rs ++ [r]) := by
  have hF := h.len
  refine ⟨by simp [hF], fun k x e => ?_, fun k x hx => ?_⟩
  · by_cases hk : k < rs.length
    · rw [List.getElem?_append_left hk] at e
      rw [getD_snoc (by omega), fm_cong (G := F) (fun i hi => getD_snoc (by omega)) (okr k x e)]
      exact h.at_ k x e
    · have hk' : k = rs.length := by
        have := (List.getElem?_eq_some_iff.mp e).1
        simp at this
        omega
      subst hk'
      rw [List.getElem?_append_right (Nat.le_refl _)] at e
      simp at e
      subst e
      rw [← hF, getD_last, fm_cong (G := F) (k := rs.length) (fun i hi => getD_snoc (by omega)) hr]
      exact hl
  · by_cases hk : k < F.length
    · rw [getD_snoc hk] at hx; exact h.sub k x hx
    · by_cases hk2 : k = F.length
      · rw [hk2, getD_last] at hx
        exact fm_sub h.sub hr x ((hl.me x).mp hx)
      · rw [List.getD_eq_getElem?_getD, List.getElem?_eq_none (by simp; omega)] at hx
        simp at hx
theorem nodup_le : ∀ {l zs : List Str}, l.Nodup → (∀ x ∈ l, x ∈ zs) → l.length ≤ zs.length
  | [], _, _, _ => Nat.zero_le _
  | x :: l, zs, nd, h => by
    obtain ⟨hx, nd'⟩ := List.nodup_cons.mp nd
    have hm := h x (.head _)
    have := nodup_le (l := l) (zs := zs.erase x) nd' fun y hy => (List.mem_erase_of_ne (fun e : y = x => hx (e ▸ hy))).mpr (h y (.tail _ hy))
    rw [List.length_erase_of_mem hm] at this
    have hp : 0 < zs.length := List.length_pos_of_mem hm
    rw [List.length_cons]
    omega
theorem CF.le {zs : List Str} {F : List (List Str)} {rs : List RS} (h : CF zs F rs) (k : Nat) : (F.getD k []).length ≤ zs.length := by
  by_cases hk : k < rs.length
  · exact nodup_le (h.at_ k _ (List.getElem?_eq_getElem hk)).nd (h.sub k)
  · have := h.len
    rw [List.getD_eq_getElem?_getD, List.getElem?_eq_none (by omega)]
    exact Nat.zero_le _
theorem fm_len {zs : List Str} {F : List (List Str)} {rs : List RS} (h : CF zs F rs) (hz : zs.length ≤ 26) : ∀ r : RS, (fm F r).length ≤ 52
  | .yes => Nat.zero_le _
  | .is _ _ => by simp [fm]
  | .ahead _ _ => by simp [fm]
  | .no i => by have := h.le i; simp only [fm]; omega
  | .bin _ i j => by have := h.le i; have := h.le j; simp only [fm, List.length_append]; omega
  | .qn _ x i => by have := h.le i; have := List.length_filter_le (fun y => !decide (y = x)) (F.getD i []); simp only [fm]; omega
def pts : RS → List Nat
  | .no i => [i]
  | .bin _ i j => [i, j]
  | .qn _ _ i => [i]
  | _ => []
def isI : V → Bool
  | .int _ => true
  | _ => false
theorem pts_rows (r : RS) : (rowV r).filter isI = (pts r).map fun i : Nat => V.int (i : Int) := by cases r <;> rfl
def spParts : Sp := fun vs H Q _ => ∃ (a : Addr) (r : RS), vs = [.ref a] ∧ H a = some (.tup (rowV r)) ∧ ∀ p, H p = none → Q (.ref p) (upd H p (.lst ((pts r).map fun i : Nat => V.int (i : Int))))
structure TPa (K : PySem.W.Frag) (mg : Str → Option Value) : Prop where
  n_isinstance : mg "isinstance" = none
  n_int : mg "int" = none
  si : PySem.W.kitOne K (.type "str") (.type "int") = some false
  ii : PySem.W.kitOne K (.type "int") (.type "int") = some true
def NT (H : Hp) (ys : List V) (F : List (List Str)) : Prop := Paired (fun y l => ∃ q, y = .ref q ∧ FzT H q (l.map V.str)) ys F
theorem NT.kp {S : List Addr} {H H' : Hp} {ys : List V} {F : List (List Str)} (k : Kp S H H') (hS : ∀ b ∈ S, ∃ o, H b = some o ∧ ∀ ob u, o ≠ .frz ob u) (h : NT H ys F) : NT H' ys F := Paired.mapP h fun _ _ ⟨q, e, g⟩ => ⟨q, e, g.stay k hS⟩
theorem NT.kp0 {H H' : Hp} {ys : List V} {F : List (List Str)} (h : NT H ys F) (k : Kp [] H H') : NT H' ys F := h.kp k (by simp)
theorem NT.get : ∀ {H : Hp} {ys : List V} {F : List (List Str)} {i : Nat}, NT H ys F → i < F.length → ∃ q, ys[i]? = some (.ref q) ∧ FzT H q ((F.getD i []).map V.str)
  | _, _, _, 0, .cons ⟨q, e, g⟩ _, _ => ⟨q, by rw [e]; rfl, g⟩
  | _, _, _, i + 1, .cons _ p, h => by
    obtain ⟨q, e, g⟩ := NT.get p (i := i) (by simpa using h)
    exact ⟨q, e, g⟩
def BN : List V := [.str "some", .str "each"]
structure TNR (K : PySem.W.Frag) (mg : Str → Option Value) (fp ab : Addr) : Prop where
  n_tuple : mg "tuple" = none
  n_sorted : mg "sorted" = none
  n_set : mg "set" = none
  m_parts_of : mg "parts_of" = some (.ref fp)
  m_BINDING : mg "BINDING" = some (.ref ab)
  bn : ∀ H, SqT K H ab BN
def spNR : Sp := fun vs H Q _ => ∃ (a n : Addr) (r : RS) (ys : List V) (F : List (List Str)) (rs : List RS) (zs : List Str), vs = [.ref a, .ref n] ∧ H a = some (.tup (rowV r)) ∧ H n = some (.lst ys) ∧ NT H ys F ∧ CF zs F rs ∧ r.ok zs rs.length ∧ zs.length ≤ 26 ∧
  ∀ q l H', Kp [] H H' → FzT H' q (l.map V.str) → Cn l (fm F r) → Q (.ref q) H'
theorem sorted1 (x : Str) : Cn [x] [x] := ⟨rfl, by simp, fun _ => Iff.rfl⟩
def tg : RS → Fin 8
  | .yes => 0
  | .is _ _ => 1
  | .ahead _ _ => 2
  | .no _ => 3
  | .bin true _ _ => 4
  | .bin false _ _ => 5
  | .qn true _ _ => 6
  | .qn false _ _ => 7
def hdw : Fin 8 → Str
  | 0 => "yes"
  | 1 => "is"
  | 2 => "ahead"
  | 3 => "not"
  | 4 => "and"
  | 5 => "or"
  | 6 => "some"
  | 7 => "each"
def hd (r : RS) : Str := hdw (tg r)
theorem hd_at (r : RS) : atI (rowV r) 0 = some (.str (hd r)) := by
  cases r with
  | bin b => cases b <;> exact atI_of (by decide) rfl
  | qn b => cases b <;> exact atI_of (by decide) rfl
  | _ => exact atI_of (by decide) rfl
theorem w_is : ∀ t : Fin 8, hdw t = Str.ofString "is" → t = 1 := by decide +kernel
theorem w_ah : ∀ t : Fin 8, hdw t = Str.ofString "ahead" → t = 2 := by decide +kernel
theorem w_in : ∀ t : Fin 8, inV (.str (hdw t)) BN = true → t = 6 ∨ t = 7 := by decide +kernel
theorem hd_is {r : RS} (h : hd r = Str.ofString "is") : ∃ x c, r = .is x c := by
  have q := w_is _ h
  cases r with
  | is x c => exact ⟨x, c, rfl⟩
  | bin b => cases b <;> cases q
  | qn b => cases b <;> cases q
  | _ => cases q
theorem hd_ahead {r : RS} (h : hd r = Str.ofString "ahead") : ∃ x y, r = .ahead x y := by
  have q := w_ah _ h
  cases r with
  | ahead x y => exact ⟨x, y, rfl⟩
  | bin b => cases b <;> cases q
  | qn b => cases b <;> cases q
  | _ => cases q
theorem hd_in {r : RS} (h : inV (.str (hd r)) BN = true) : ∃ b x i, r = .qn b x i := by
  have q := w_in _ h
  cases r with
  | qn b x i => exact ⟨b, x, i, rfl⟩
  | bin b => cases b <;> (rcases q with q | q <;> cases q)
  | _ => rcases q with q | q <;> cases q
theorem qn_in (b : Bool) (x : Str) (i : Nat) : inV (.str (hd (.qn b x i))) BN = true := by
  cases b
  · exact (by decide +kernel : inV (.str (hdw 7)) BN = true)
  · exact (by decide +kernel : inV (.str (hdw 6)) BN = true)
def rb (F : List (List Str)) (l : List Nat) : List Str := (l.map fun i => F.getD i []).flatten
theorem rb_snoc (F : List (List Str)) (l : List Nat) (i : Nat) : rb F (l ++ [i]) = rb F l ++ F.getD i [] := by simp [rb]
theorem rb_fm {F : List (List Str)} {r : RS} (h1 : hd r ≠ Str.ofString "is") (h2 : hd r ≠ Str.ofString "ahead") (h3 : inV (.str (hd r)) BN ≠ true) : fm F r = rb F (pts r) := by
  cases r with
  | yes => rfl
  | is => exact absurd rfl h1
  | ahead => exact absurd rfl h2
  | no => simp [fm, rb, pts]
  | bin => simp [fm, rb, pts]
  | qn b x i => exact absurd (qn_in b x i) h3
theorem pts_lt {zs : List Str} {k : Nat} : ∀ {r : RS}, r.ok zs k → ∀ i ∈ pts r, i < k
  | .no i, ok, j, hj => by rw [List.mem_singleton.mp hj]; exact ok
  | .bin _ i j, ok, l, hl => by
    rcases List.mem_cons.mp hl with rfl | hl
    · exact ok.1
    · rw [List.mem_singleton.mp hl]; exact ok.2
  | .qn _ _ i, ok, j, hj => by rw [List.mem_singleton.mp hj]; exact ok.2
  | .yes, _, j, hj => nomatch hj
  | .is _ _, _, j, hj => nomatch hj
  | .ahead _ _, _, j, hj => nomatch hj
theorem rb_len {zs : List Str} {F : List (List Str)} {rs : List RS} (cf : CF zs F rs) (hz : zs.length ≤ 26) : ∀ l : List Nat, l.length ≤ 2 → (rb F l).length ≤ 52
  | [], _ => Nat.zero_le _
  | [i], _ => by have := cf.le i; simp [rb]; simp at this; omega
  | [i, j], _ => by have := cf.le i; have := cf.le j; simp [rb]; simp at *; omega
  | _ :: _ :: _ :: _, h => by simp at h
theorem pts_len (r : RS) : (pts r).length ≤ 2 := by cases r <;> simp [pts]
section
variable {P : Program} {w : World} {K : PySem.W.Frag} {mg : Str → Option Value} {base : Heap}
abbrev s_parts_of : Stmt := top 1
theorem sc_parts_of : FnScope ["row"] ["row"] (defScope s_parts_of) := ⟨rfl, rfl, rfl, by decide +kernel, rfl, by decide +kernel, by decide +kernel⟩
theorem ok_parts_of {f : Addr} {fd : FuncData} (F : Fun K "parts_of" "parts_of" s_parts_of f fd) (T : TPa K mg) : FnOk P w K mg base CX0 1 f fd ["row"] spParts := by
  refine F.ok sc_parts_of (fun vs H Q E h => ?_) (fun cdv A outer s H vs Q E hr h => ?_)
  · obtain ⟨a, r, rfl, _⟩ := h
    rfl
  · obtain ⟨a, r, rfl, ha, k⟩ := h
    have hu := hr.units
    have hsz : sizeLine = 16777216 := PySem.sizeLine_eq
    refine ⟨_, (QSs.h (qpss_one (qps_ret (qpe_compIf rfl (compOk_of (sc := defScope s_parts_of) (N := ["row"]) (Nc := ["thing"]) (js := [none]) (by decide +kernel)) (qpi_any (K := K) (qpv 0) rfl) (fun _ _ _ _ => (qpg_name (i := 0) (show List.Nodup [("thing" : Str)] from by decide +kernel) rfl (by first | exact Or.inl rfl | exact Or.inr rfl))) (fun _ _ _ _ => (qpt_val (qpe_callB (call_isinstanceK (K := K) rfl) (by rfl) T.n_isinstance bt_isinstance (qpa_cons (qpv 0) (qpa_cons (qpe_bltn (v := .ty "int") rfl T.n_int bt_int rfl) qpa_nil))))) (fun _ _ _ _ => (qpv 0)))))), ?_⟩
    simp! [ha]
    intro D hD
    have hl : (rowV r).length ≤ 3 := by cases r <;> simp [rowV]
    refine compIf_tup isI id ha hD (by omega) (fun x hx l Q' q => ?_) (fun x hx _ l Q' q => ?_) fun v => ?_
    · simp!
      have hx' : (∃ z, x = .str z) ∨ ∃ i, x = .int i := by
        cases r <;> simp [rowV] at hx <;> rcases hx with rfl | rfl | rfl <;> first | exact .inl ⟨_, rfl⟩ | exact .inr ⟨_, rfl⟩
      rcases hx' with ⟨z, rfl⟩ | ⟨i, rfl⟩
      · exact ⟨_, .str _, _, T.si, q⟩
      · exact ⟨_, .int _, _, T.ii, q⟩
    · simp!
      exact q
    · rw [List.map_id, pts_rows]
      exact k D hD
abbrev s_names_of_row : Stmt := top 5
theorem sc_names_of_row : FnScope ["row", "names", "word", "free", "part"] ["row", "names"] (defScope s_names_of_row) := ⟨rfl, rfl, rfl, by decide +kernel, rfl, by decide +kernel, by decide +kernel⟩
theorem ok_names_of_row {f fp ab : Addr} {fd fdp : FuncData} (F : Fun K "names_of_row" "names_of_row" s_names_of_row f fd) (T : TNR K mg fp ab) (F_parts_of : Fun K "parts_of" "parts_of" s_parts_of fp fdp) (b_parts_of : Binds K fdp ["row"] [])
    (G_parts_of : FnOk P w K mg base CX0 1 fp fdp ["row"] spParts) : FnOk P w K mg base CX0 2 f fd ["row", "names"] spNR := by
  refine F.ok sc_names_of_row (fun vs H Q E h => ?_) (fun cdv A outer s H vs Q E hr h => ?_)
  · obtain ⟨a, n, r, ys, G, rs, zs, rfl, _⟩ := h
    rfl
  · obtain ⟨a, n, r, ys, G, rs, zs, rfl, ha, hn, nt, cf, ok, hz, k⟩ := h
    have hu := hr.units
    have hsz : sizeLine = 16777216 := PySem.sizeLine_eq
    have fl := fm_len cf hz r
    have hlen := cf.len
    refine ⟨_, (QSs.h (qpss_cons (qps_set (i := 2) sc_names_of_row.nd rfl (by first | exact Or.inl rfl | exact Or.inr rfl) (qpe_ix ix_U (qpv 0) qpe_int (fun _ _ => rfl)))
    (qpss_mid (qps_if (qpt_cmpR (op_eqU hu) (qpv 2) qpe_str (nomark _)) (qpss_one (qps_ret (qpe_tupF (qpa_cons (qpe_ix ix_U (qpv 0) qpe_int (fun _ _ => rfl)) qpa_nil)))) qpss_nil)
    (qpss_mid (qps_if (qpt_cmpR (op_eqU hu) (qpv 2) qpe_str (nomark _)) (qpss_one (qps_ret (qpe_callTy call_tupleF (by rfl) T.n_tuple bt_tuple (qpa_cons (qpe_sortedSet rfl rfl T.n_sorted rfl T.n_set (qpe_slice (sl_UK (K := K) rfl) (qpv 0) (qpo_some qpe_int) qpo_none)) qpa_nil)))) qpss_nil)
    (qpss_cons (qps_set (i := 3) sc_names_of_row.nd rfl (by first | exact Or.inl rfl | exact Or.inr rfl) (qpe_lst qpa_nil))
    (qpss_cons (qps_for PassesOwn.never rfl (qpi_any (K := K) (qpe_call G_parts_of (hr.mono (by decide)) rfl T.m_parts_of F_parts_of.kp b_parts_of .nil pass0 (qpa_cons (qpv 0) qpa_nil)) rfl) (qpg_name (i := 4) sc_names_of_row.nd rfl (by first | exact Or.inl rfl | exact Or.inr rfl)) (qpss_one (qps_expr (qpe_bmL PySem.F.slot_list_extend PySem.F.type_list_extend mt_extendF (qpv 3) (qpa_cons (qpe_ix ix_U (qpv 1) (qpv 4) (fun _ _ => rfl)) qpa_nil) mono_var))))
    (qpss_mid (qps_if (qpt_cmpR (op_inU (K := K) rfl) (qpv 2) (qpe_glob (v := .ref _) rfl T.m_BINDING rfl) (by with_unfolding_all rfl)) (qpss_one (qps_setcIf (i := 3) sc_names_of_row.nd rfl (by first | exact Or.inl rfl | exact Or.inr rfl) rfl (compOk_of (sc := defScope s_names_of_row) (N := ["row", "names", "word", "free", "part"]) (Nc := ["name", "row"]) (js := [none, some 0]) (by decide +kernel)) (qpi_any (K := K) (qpv 3) rfl) (fun _ _ _ _ => (qpg_name (i := 0) (show List.Nodup [("name" : Str), ("row" : Str)] from by decide +kernel) rfl (by first | exact Or.inl rfl | exact Or.inr rfl))) (fun _ _ _ _ => (qpt_cmpR (op_neU hu) (qpv 0) (qpe_ix ix_U (qpv 1) qpe_int (fun _ _ => rfl)) (nomark _))) (fun _ _ _ _ => (qpv 0)))) qpss_nil)
    (qpss_one (qps_ret (qpe_callTy call_tupleF (by rfl) T.n_tuple bt_tuple (qpa_cons (qpe_sortedSet rfl rfl T.n_sorted rfl T.n_set (qpv 3)) qpa_nil))))))))))), ?_⟩
    simp! [ha]
    refine ⟨_, hd_at r, ?_⟩
    refine ⟨fun σ H' => [some (.ref a), some (.ref n), some (.str (hd r)), none, none] = σ ∧ H = H' ∧ hd r ≠ Str.ofString "is", ?_, ?_⟩
    · simp! [ha]
      refine ite2 (fun e => ?_) (fun e => e)
      obtain ⟨x, c, rfl⟩ := hd_is e
      exact ⟨_, atI_of (by decide) rfl, by omega, fun q H' hq f k' => k q [x] _ k' f (sorted1 x)⟩
    rintro _ _ ⟨rfl, rfl, h1⟩
    refine ⟨fun σ H' => [some (.ref a), some (.ref n), some (.str (hd r)), none, none] = σ ∧ H = H' ∧ hd r ≠ Str.ofString "ahead", ?_, ?_⟩
    · simp! [ha]
      refine ite2 (fun e => ?_) (fun e => e)
      obtain ⟨x, y, rfl⟩ := hd_ahead e
      refine rSlU.tup ha (fun h => absurd h.1 (show ¬ HT.sIx 3 0 (some 1) = 0 by decide)) fun q hq => ?_
      rw [show cutV (rowV (.ahead x y)) (some 1) none = [x, y].map V.str from rfl]
      refine ⟨[x, y], by rw [upd_same]; rfl, by simp, fun p ss hp so nd me => ?_⟩
      exact ⟨p, ss.map V.str, rfl, upd_same, fun l H' hl f k' => k l ss _ ((((Kp.refl [] H).new hq).new hp).trans k') f ⟨so, nd, me⟩⟩
    rintro _ _ ⟨rfl, rfl, h2⟩
    simp! [ha]
    refine ⟨by omega, fun fr hfr => ⟨a, r, rfl, by rw [upd_ne (ne_of_none ha hfr)]; exact ha, fun pl hpl => ?_⟩⟩
    have k1 : Kp [] H (upd (upd H fr (.lst [])) pl (.lst ((pts r).map fun i : Nat => V.int (i : Int)))) := ((Kp.refl [] H).new hfr).new hpl
    have nfp : fr ≠ pl := ne_of_none upd_same hpl
    have ef : upd (upd H fr (.lst [])) pl (.lst ((pts r).map fun i : Nat => V.int (i : Int))) fr = some (.lst []) := by rw [upd_ne nfp, upd_same]
    have el : upd (upd H fr (.lst [])) pl (.lst ((pts r).map fun i : Nat => V.int (i : Int))) pl = some (.lst ((pts r).map fun i : Nat => V.int (i : Int))) := upd_same
    generalize upd (upd H fr (.lst [])) pl (.lst ((pts r).map fun i : Nat => V.int (i : Int))) = H1 at k1 ef el
    simp only [el]
    have pl2 := pts_len r
    refine loop_list (xs := (pts r).map fun i : Nat => V.int (i : Int)) (fun i σ H' => ∃ v : Option V, σ = [some (.ref a), some (.ref n), some (.str (hd r)), some (.ref fr), v] ∧ Kp [] H H' ∧ H' pl = some (.lst ((pts r).map fun i : Nat => V.int (i : Int))) ∧ H' fr = some (.lst ((rb G ((pts r).take i)).map V.str))) ?_ ?_ ?_ ?_
    · exact ⟨none, rfl, k1, el, ef⟩
    · rintro i σ H' _ ⟨v, rfl, _, e, _⟩
      exact e
    · rintro i x σ H2 hx ⟨v, rfl, k2, el2, ef2⟩
      rw [List.getElem?_map] at hx
      obtain ⟨j, hj, rfl⟩ : ∃ j : Nat, (pts r)[i]? = some j ∧ x = .int (j : Int) := by
        cases e : (pts r)[i]? with
        | none => rw [e] at hx; cases hx
        | some j => rw [e] at hx; exact ⟨j, rfl, (Option.some.inj hx).symm⟩
      have hjk : j < G.length := by rw [hlen]; exact pts_lt ok j (List.mem_of_getElem? hj)
      obtain ⟨q, hq1, hq2⟩ := nt.get hjk
      have hn2 := k2.old _ _ hn List.not_mem_nil
      have hil : i < (pts r).length := (List.getElem?_eq_some_iff.mp hj).1
      simp! [hn2, ef2]
      refine ⟨_, atI_nat hq1, ?_⟩
      have hq3 := hq2.kp0 k2
      have rl := rb_len cf hz ((pts r).take i) (by rw [List.length_take]; omega)
      have gl := cf.le j
      refine ⟨fr, q, _, _, rfl, rfl, ef2, hq3, by rw [List.length_map, List.length_map]; omega, k2.set ef2 (.inr hfr), by rw [upd_ne nfp.symm]; exact el2, ?_⟩
      rw [upd_same, List.take_succ, hj, ← List.map_append]
      show some (HO.lst ((rb G ((pts r).take i) ++ G.getD j []).map V.str)) = some (.lst ((rb G ((pts r).take i ++ [j])).map V.str))
      rw [rb_snoc]
    · rintro σ H2 ⟨v, rfl, k2, el2, ef2⟩
      rw [List.length_map, List.take_length] at ef2
      refine ⟨fun σ H' => ∃ (q : Addr) (v : Option V), σ = [some (.ref a), some (.ref n), some (.str (hd r)), some (.ref q), v] ∧ Kp [] H H' ∧ H' q = some (.lst ((fm G r).map V.str)), ?_, ?_⟩
      · simp!
        refine rInU.tupS (T.bn H2) rfl rfl ⟨_, rfl, ?_⟩
        rw [show (if false = true then !inV (.str (hd r)) BN else inV (.str (hd r)) BN) = inV (.str (hd r)) BN from rfl]
        refine ite2 (fun e => ?_) (fun e => ⟨fr, v, ⟨rfl, rfl⟩, k2, by rw [rb_fm h1 h2 e]; exact ef2⟩)
        obtain ⟨bb, x, i, rfl⟩ := hd_in e
        simp only [ef2]
        intro D hD
        have ha2 := k2.tup _ _ ha
        have ad : a ≠ D := ne_of_none ha2 hD
        have rl := rb_len cf hz [i] (by simp)
        refine compIf_list (fun v => match v with | .str y => !decide (y = x) | _ => false) id ef2 hD (by rw [List.length_map]; show (rb G [i]).length ≤ _; omega) (fun u hu l Q' q => ?_) (fun u hu _ l Q' q => ?_) fun v' => ?_
        · obtain ⟨y, hy, rfl⟩ := List.mem_map.mp hu
          have ha3 : upd H2 D (.lst l) a = some (.tup (rowV (.qn bb x i))) := by rw [upd_ne ad]; exact ha2
          simp! [ha3]
          exact ⟨_, atI_of (by decide) rfl, _, rfl, q⟩
        · simp!
          exact q
        · refine ⟨D, v, ⟨rfl, rfl⟩, k2.new hD, ?_⟩
          rw [upd_same, List.map_id, List.filter_map]
          show some (HO.lst (((rb G [i]).filter fun y => !decide (y = x)).map V.str)) = _
          simp [rb, fm]
      rintro _ H3 ⟨q, v, rfl, k3, e3⟩
      simp! [e3]
      refine ⟨fm G r, rfl, by omega, fun p ss hp so nd me => ?_⟩
      exact ⟨p, ss.map V.str, rfl, upd_same, fun l H' hl f k' => k l ss _ ((k3.new hp).trans k') f ⟨so, nd, me⟩⟩
end
def spNRS : Sp := fun vs H Q _ => ∃ (a : Addr) (us : List V) (rs : List RS) (zs : List Str), vs = [.ref a] ∧ H a = some (.tup us) ∧ RowsAt H us rs ∧ okR zs rs ∧ zs.length ≤ 26 ∧ rs.length ≤ 100 ∧
  ∀ p ys F H', Kp [] H H' → H' p = some (.lst ys) → NT H' ys F → CF zs F rs → Q (.ref p) H'
structure TNRS (mg : Str → Option Value) (fr : Addr) : Prop where
  m_names_of_row : mg "names_of_row" = some (.ref fr)
theorem take_snoc {α : Type} {l : List α} {i : Nat} {x : α} (h : l[i]? = some x) : l.take (i + 1) = l.take i ++ [x] := by rw [List.take_succ, h]; rfl
theorem NT.len {H : Hp} {ys : List V} {F : List (List Str)} (h : NT H ys F) : ys.length = F.length := Paired.length h
section
variable {P : Program} {w : World} {K : PySem.W.Frag} {mg : Str → Option Value} {base : Heap}
abbrev s_names_of_rows : Stmt := top 4
theorem sc_names_of_rows : FnScope ["saying", "names", "row"] ["saying"] (defScope s_names_of_rows) := ⟨rfl, rfl, rfl, by decide +kernel, rfl, by decide +kernel, by decide +kernel⟩
theorem ok_names_of_rows {f fr : Addr} {fd fdr : FuncData} (F : Fun K "names_of_rows" "names_of_rows" s_names_of_rows f fd) (T : TNRS mg fr) (F_names_of_row : Fun K "names_of_row" "names_of_row" s_names_of_row fr fdr) (b_names_of_row : Binds K fdr ["row", "names"] [])
    (G_names_of_row : FnOk P w K mg base CX0 2 fr fdr ["row", "names"] spNR) : FnOk P w K mg base CX0 3 f fd ["saying"] spNRS := by
  refine F.ok sc_names_of_rows (fun vs H Q E h => ?_) (fun cdv A outer s H vs Q E hr h => ?_)
  · obtain ⟨a, us, rs, zs, rfl, _⟩ := h
    rfl
  · obtain ⟨a, us, rs, zs, rfl, ha, ra, ok, hz, hl, k⟩ := h
    have hu := hr.units
    have hsz : sizeLine = 16777216 := PySem.sizeLine_eq
    have hul : us.length = rs.length := Paired.length ra
    refine ⟨_, (QSs.h (qpss_cons (qps_set (i := 1) sc_names_of_rows.nd rfl (by first | exact Or.inl rfl | exact Or.inr rfl) (qpe_lst qpa_nil))
    (qpss_cons (qps_for PassesOwn.never rfl (qpi_any (K := K) (qpv 0) rfl) (qpg_name (i := 2) sc_names_of_rows.nd rfl (by first | exact Or.inl rfl | exact Or.inr rfl)) (qpss_one (qps_expr (qpe_bmL PySem.F.slot_list_append PySem.F.type_list_append mt_appendU (qpv 1) (qpa_cons (qpe_call G_names_of_row (hr.mono (by decide)) rfl T.m_names_of_row F_names_of_row.kp b_names_of_row .nil pass0 (qpa_cons (qpv 2) (qpa_cons (qpv 1) qpa_nil))) qpa_nil) mono_var))))
    (qpss_one (qps_ret (qpv 1)))))), ?_⟩
    simp!
    refine ⟨by omega, fun nm hnm => ?_⟩
    have a0 : upd H nm (.lst []) a = some (.tup us) := by rw [upd_ne (ne_of_none ha hnm)]; exact ha
    simp only [a0]
    refine loop_tup (xs := us) (fun i σ H' => ∃ (v : Option V) (ys : List V) (G : List (List Str)), σ = [some (.ref a), some (.ref nm), v] ∧ Kp [] H H' ∧ H' nm = some (.lst ys) ∧ NT H' ys G ∧ CF zs G (rs.take i)) ?_ ?_ ?_ ?_
    · exact ⟨none, [], [], rfl, (Kp.refl [] H).new hnm, upd_same, .nil, CF.nil zs⟩
    · rintro i σ H' _ ⟨v, ys, G, rfl, kp, _⟩
      exact kp.tup _ _ ha
    · rintro i x σ H1 hx ⟨v, ys, G, rfl, k1, e1, nt, cf⟩
      obtain ⟨r, c, hri, rfl, hc⟩ := ra.get hx
      have hi : i < rs.length := (List.getElem?_eq_some_iff.mp hri).1
      have hl1 : (rs.take i).length = i := by rw [List.length_take]; omega
      have okr := ok i r hri
      have hyl := nt.len
      have hG := cf.len
      simp!
      refine ⟨by rw [e1]; rfl, c, nm, r, ys, G, rs.take i, zs, rfl, k1.tup _ _ hc, e1, nt, cf, by rw [hl1]; exact okr, hz, fun q l H2 k2 e2 cn => ?_⟩
      have e12 := k2.old _ _ e1 List.not_mem_nil
      have kL : Kp [nm] H2 (upd H2 nm (.lst (ys ++ [.ref q]))) := (Kp.refl [nm] H2).set e12 (.inl (.head _))
      refine ⟨ys, by rw [e12]; rfl, by omega, (k1.trans k2).set e12 (.inr hnm), G ++ [l], ?_, ?_⟩
      · have hS : ∀ b ∈ [nm], ∃ o, H2 b = some o ∧ ∀ ob u, o ≠ .frz ob u := fun b hb => by rw [List.mem_singleton.mp hb]; exact ⟨_, e12, fun _ _ z => by cases z⟩
        exact Paired.snoc ((nt.kp0 k2).kp kL hS) ⟨q, rfl, e2.stay kL hS⟩
      · rw [take_snoc hri]
        exact cf.snoc (ok.take i) (by rw [hl1]; exact okr) cn
    · rintro σ H1 ⟨v, ys, G, rfl, k1, e1, nt, cf⟩
      rw [hul, List.take_length] at cf
      simp!
      exact k nm ys G H1 k1 e1 nt cf
end
def iV (c : List Nat) : List V := c.map fun p : Nat => V.int (p : Int)
def CL (H : Hp) (us : List V) (cs : List (List Nat)) : Prop := Paired (fun v c => ∃ a, v = .ref a ∧ H a = some (.tup (iV c))) us cs
theorem CL.kp {S : List Addr} {H H' : Hp} {us : List V} {cs : List (List Nat)} (k : Kp S H H') (h : CL H us cs) : CL H' us cs := Paired.mapP h fun _ _ ⟨a, e, h⟩ => ⟨a, e, k.tup _ _ h⟩
theorem pair_at {α β : Type} {F : α → β → Prop} : ∀ {l : List α} {m : List β} {k : Nat} {v : α}, Paired F l m → l[k]? = some v → ∃ r, m[k]? = some r ∧ F v r
  | _, _, k, v, .nil, e => by simp at e
  | _, _, 0, v, .cons (b := b) h _, e => by simp at e; subst e; exact ⟨b, rfl, h⟩
  | _, _, k + 1, v, .cons _ t, e => by simp at e; obtain ⟨r, h⟩ := pair_at t e; exact ⟨r, by simpa using h.1, h.2⟩
def spOne : Sp := fun vs H Q _ => ∃ (a : Addr) (m : Nat) (us : List V) (cs : List (List Nat)), vs = [.ref a, .int (m : Int)] ∧ H a = some (.lst us) ∧ CL H us cs ∧ cs.length * m ≤ 1000000 ∧ m ≤ 1000000 ∧ (∀ c ∈ cs, c.length ≤ 100) ∧
  ∀ p us' H', H p = none → H' p = some (.lst us') → CL H' us' (cs.flatMap fun c => (List.range m).map fun p => c ++ [p]) → Kp [] H H' → Q (.ref p) H'
structure TOne (mg : Str → Option Value) : Prop where
  n_range : mg "range" = none
section
variable {P : Program} {w : World} {K : PySem.W.Frag} {mg : Str → Option Value} {base : Heap}
abbrev s_one_place_more : Stmt := top 13
theorem sc_one_place_more : FnScope ["chosen", "many", "longer", "choice", "place"] ["chosen", "many"] (defScope s_one_place_more) := ⟨rfl, rfl, rfl, by decide +kernel, rfl, by decide +kernel, by decide +kernel⟩
theorem ok_one_place_more {f : Addr} {fd : FuncData} (F : Fun K "one_place_more" "one_place_more" s_one_place_more f fd) (T : TOne mg) : FnOk P w K mg base CX0 1 f fd ["chosen", "many"] spOne := by
  refine F.ok sc_one_place_more (fun vs H Q E h => ?_) (fun cdv A outer s H vs Q E hr h => ?_)
  · obtain ⟨a, m, us, cs, rfl, _⟩ := h
    rfl
  · obtain ⟨a, m, us, cs, rfl, ha, cl, hm, hm2, hc, k⟩ := h
    have hu := hr.units
    have hsz : sizeLine = 16777216 := PySem.sizeLine_eq
    have ul : us.length = cs.length := Paired.length cl
    refine exQ (qpss_cons (qps_set (i := 2) sc_one_place_more.nd rfl (by first | exact Or.inl rfl | exact Or.inr rfl) (qpe_lst qpa_nil))
    (qpss_cons (qps_for PassesOwn.never rfl (qpi_any (K := K) (qpv 0) rfl) (qpg_name (i := 3) sc_one_place_more.nd rfl (by first | exact Or.inl rfl | exact Or.inr rfl)) (qpss_one (qps_for PassesOwn.never rfl (qpi_range1 rfl T.n_range (qpa_cons (qpv 1) qpa_nil)) (qpg_name (i := 4) sc_one_place_more.nd rfl (by first | exact Or.inl rfl | exact Or.inr rfl)) (qpss_one (qps_expr (qpe_bmL PySem.F.slot_list_append PySem.F.type_list_append mt_appendU (qpv 2) (qpa_cons (qpe_op op_addX (qpv 3) (qpe_tup (qpa_cons (qpv 4) qpa_nil))) qpa_nil) mono_var))))))
    (qpss_one (qps_ret (qpv 2))))) ?_
    simp!
    refine ⟨by omega, fun q hq => ?_⟩
    have haq : ∀ o, upd H q o a = some (.lst us) := fun o => by rw [upd_ne (ne_of_none ha hq)]; exact ha
    simp only [haq]
    refine loop_list (xs := us) (fun i σ H' => ∃ (v1 v2 : Option V) (vs : List V), σ = [some (.ref a), some (.int (m : Int)), some (.ref q), v1, v2] ∧ H' q = some (.lst vs) ∧ CL H' vs ((cs.take i).flatMap fun c => (List.range m).map fun p => c ++ [p]) ∧ Kp [] H H') ?_ ?_ ?_ ?_
    · exact ⟨none, none, [], rfl, upd_same, .nil, (Kp.refl [] H).new hq⟩
    · rintro i σ H' _ ⟨v1, v2, vs, rfl, _, _, kp⟩
      exact kp.old _ _ ha List.not_mem_nil
    · rintro i x σ H1 hx ⟨v1, v2, vs, rfl, hq1, cl1, kp⟩
      obtain ⟨c, hci, t, rfl, ht⟩ := pair_at cl hx
      have hil : i < cs.length := (List.getElem?_eq_some_iff.mp hci).1
      have hcl := hc c (List.mem_of_getElem? hci)
      have lb : ((cs.take i).flatMap fun c => (List.range m).map fun p => c ++ [p]).length = i * m := by
        rw [flat_len _ m _ fun x _ => by simp, List.length_take, Nat.min_eq_left (by omega)]
      have vl : vs.length = i * m := (Paired.length cl1).trans lb
      have b1 : i * m + m ≤ cs.length * m := by
        have : (i + 1) * m ≤ cs.length * m := Nat.mul_le_mul_right m hil
        rwa [Nat.succ_mul] at this
      have ht1 := kp.tup _ _ ht
      simp!
      refine ⟨by omega, by omega, ?_⟩
      rw [Int.toNat_natCast]
      refine loop_range (fun j σ H' => ∃ (v2 : Option V) (vs' : List V), σ = [some (.ref a), some (.int (m : Int)), some (.ref q), some (.ref t), v2] ∧ H' q = some (.lst vs') ∧ CL H' vs' (((cs.take i).flatMap fun c => (List.range m).map fun p => c ++ [p]) ++ (List.range j).map fun p => c ++ [p]) ∧ Kp [] H H') ?_ ?_ ?_
      · exact ⟨v2, vs, rfl, hq1, by simpa using cl1, kp⟩
      · rintro j σ H2 hj ⟨v2, vs', rfl, hq2, cl2, kp2⟩
        have vl2 : vs'.length = i * m + j := by rw [Paired.length cl2, List.length_append, lb]; simp
        simp! [hq2]
        refine ⟨by omega, fun t1 ht1' => ⟨t, t1, iV c, [.int (0 + (j : Int))], rfl, rfl, by rw [upd_ne (ne_of_none (kp2.tup _ _ ht) ht1')]; exact kp2.tup _ _ ht, upd_same, by simp [iV]; omega, fun p H3 k3 hp => ?_⟩⟩
        have k23 : Kp [] H2 H3 := ((Kp.refl [] H2).new ht1').trans k3
        have hq3 := k23.old _ _ hq2 List.not_mem_nil
        refine ⟨_, by rw [hq3]; rfl, by omega, ?_, (kp2.trans k23).set hq3 (.inr hq)⟩
        have k4 : Kp [q] H3 (upd H3 q (.lst (vs' ++ [.ref p]))) := (Kp.refl [q] H3).set hq3 (.inl (.head _))
        rw [List.range_succ, List.map_append, ← List.append_assoc]
        refine Paired.snoc ((cl2.kp k23).kp k4) ⟨p, rfl, k4.tup _ _ ?_⟩
        rw [hp]; simp [iV]
      · rintro σ H2 ⟨v2, vs', rfl, hq2, cl2, kp2⟩
        refine ⟨_, _, rfl, vs', hq2, ?_, kp2⟩
        rw [take_snoc hci, List.flatMap_append]
        simpa using cl2
    · rintro σ H1 ⟨v1, v2, vs, rfl, hq1, cl1, kp⟩
      rw [ul, List.take_length] at cl1
      simp!
      exact k q vs H1 hq hq1 cl1 kp
end
def methN (st : Stmt) (i : Nat) : Stmt := match st with
  | .ClassDef _ _ _ b _ _ _ _ _ _ _ => b.getD i (.Pass ⟨0, 0, 0, 0⟩)
  | s => s
def kS (F : List Str) : List L2.Key := F.map Sum.inr
theorem kS_map (F : List Str) : (kS F).map kV = F.map V.str := by simp [kS, kV]
theorem kS_inj {F G : List Str} (h : kS F = kS G) : F = G := by
  unfold kS at h
  exact List.map_inj_right (f := (Sum.inr : Str → L2.Key)) (fun a b e => Sum.inr.inj e) |>.mp h
def CS (m : Nat) (pk : Addr) : List (Str × V) := [("many", .int (m : Int)), ("known", .ref pk)]
structure CK (K : PySem.W.Frag) (C : Addr) : Prop where
  cls : Cls K C
  many : NoAttr K C "many"
  known : NoAttr K C "known"
structure CH (P : Program) (w : World) (H0 H : Hp) (x C dx pk : Addr) (m n : Nat) : Prop where
  hx : H x = some (.ins C dx (CS m pk))
  dp : ∃ G, DP (PKd.tt P w) H pk G n ∧ ∀ F M v, G (kS F, kS M) = some v → ∃ p, v = .ref p ∧ H0 p = none ∧ H p = some (.lst (iV (nums m F M)))
  dom : ∀ a o, H0 a = some o → ∃ o', H a = some o'
theorem CH.keep {P : Program} {w : World} {H0 H H' : Hp} {x C dx pk : Addr} {m n : Nat} {S : List Addr} (c : CH P w H0 H x C dx pk m n) (k : Kp S H H') (hS : ∀ b ∈ S, (∃ o, H0 b = some o) ∧ (∃ o, H b = some o ∧ ∀ ob u, o ≠ .frz ob u) ∧ b ≠ x ∧ b ≠ pk) : CH P w H0 H' x C dx pk m n := by
  obtain ⟨G, dp, g⟩ := c.dp
  refine ⟨k.old _ _ c.hx fun z => (hS _ z).2.2.1 rfl, ⟨G, dp.keep k (fun z => (hS _ z).2.2.2 rfl) fun b hb => (hS b hb).2.1, fun F M v e => ?_⟩, fun a o e => ?_⟩
  · obtain ⟨p, h1, h2, h3⟩ := g F M v e
    refine ⟨p, h1, h2, k.old _ _ h3 fun z => ?_⟩
    obtain ⟨o, ho⟩ := (hS p z).1
    rw [h2] at ho; cases ho
  · obtain ⟨o', e'⟩ := c.dom a o e
    exact k.dom a o' e'
theorem CH.keep0 {P : Program} {w : World} {H0 H H' : Hp} {x C dx pk : Addr} {m n : Nat} (c : CH P w H0 H x C dx pk m n) (k : Kp [] H H') : CH P w H0 H' x C dx pk m n := c.keep k (by simp)
theorem CH.free {P : Program} {w : World} {H0 H : Hp} {x C dx pk : Addr} {m n : Nat} (c : CH P w H0 H x C dx pk m n) {p : Addr} (h : H p = none) : H0 p = none := by
  cases e : H0 p with
  | none => rfl
  | some o => obtain ⟨o', e'⟩ := c.dom p o e; rw [h] at e'; cases e'
theorem fld0 {K : PySem.W.Frag} {H : Hp} {x C dx : Addr} {σ : L2.St} {i : Nat} {Q : VK} {fs : List (Str × V)} {f : Str} {v : V} (e : σ[i]? = some (some (.ref x))) (hx : H x = some (.ins C dx fs)) (c : Cls K C) (n : NoAttr K C f) (l : fs.lookup f = some v) (q : Q v H) : tFld K (tVar i) f σ H Q := ⟨.ref x, e, x, C, dx, fs, v, rfl, hx, c, n, l, q⟩
theorem set_kp {H : Hp} {x C dx : Addr} {fs fs' : List (Str × V)} {S : List Addr} (e : H x = some (.ins C dx fs)) (m : x ∈ S) : Kp S H (upd H x (.ins C dx fs')) := by
  refine ⟨fun b v e' n => ?_, fun b xs e' => ?_, fun b v e' => ?_⟩
  · rw [upd_ne fun z => n (by rw [z]; exact m)]; exact e'
  · rw [upd_ne fun z => by rw [z, e] at e'; cases e']; exact e'
  · by_cases z : b = x
    · rw [z, upd_same]; exact ⟨_, rfl⟩
    · rw [upd_ne z]; exact ⟨v, e'⟩
def spInit (P : Program) (w : World) (C : Addr) : Sp := fun vs H Q _ => ∃ (x dx : Addr) (m : Nat), vs = [.ref x, .int (m : Int)] ∧ H x = some (.ins C dx []) ∧
  ∀ H' pk, H' x = some (.ins C dx (CS m pk)) → DP (PKd.tt P w) H' pk (fun _ => none) 0 → H pk = none → Kp [x] H H' → Q .non H'
section
variable {P : Program} {w : World} {K : PySem.W.Frag} {mg : Str → Option Value} {base : Heap}
abbrev s_Rd_init : Stmt := methN (top 12) 0
theorem sc_Rd_init : FnScope ["self", "many"] ["self", "many"] (defScope s_Rd_init) := ⟨rfl, rfl, rfl, by decide +kernel, rfl, by decide +kernel, by decide +kernel⟩
theorem ok_init {f C : Addr} {fd : FuncData} (F : Fun K "__init__" "Choices.__init__" s_Rd_init f fd) (rc : CK K C) : FnOk P w K mg base CX0 1 f fd ["self", "many"] (spInit P w C) := by
  refine F.ok sc_Rd_init (fun vs H Q E h => ?_) (fun cdv A outer s H vs Q E hr h => ?_)
  · obtain ⟨x, dx, m, rfl, _⟩ := h
    rfl
  · obtain ⟨x, dx, m, rfl, hx, k⟩ := h
    have hu := hr.units
    have hsz : sizeLine = 16777216 := PySem.sizeLine_eq
    refine exQ (qpss_cons (qps_fld (K := K) rfl (qpv 0) (qpv 1))
    (qpss_one (qps_fld (K := K) rfl (qpv 0) (qpe_pnew (κ := PKd.tt P w) rfl rfl)))) ?_
    simp!
    refine ⟨.int (m : Int), rfl, .ref x, rfl, x, C, dx, [], rfl, hx, rc.cls, rc.many, by simp, ?_⟩
    have k1 := set_kp (S := [x]) (fs' := putF "many" (.int (m : Int)) []) hx (.head _)
    have x1 : upd H x (.ins C dx (putF "many" (.int (m : Int)) [])) x = _ := upd_same
    generalize upd H x (.ins C dx (putF "many" (.int (m : Int)) [])) = H1 at k1 x1 ⊢
    intro pk φ hpk dp
    have nx : x ≠ pk := ne_of_none x1 hpk
    have k2 : Kp [x] H1 (upd H1 pk (.ext φ)) := (Kp.refl [x] H1).new hpk
    have x2 : upd H1 pk (.ext φ) x = _ := (upd_ne nx).trans x1
    generalize upd H1 pk (.ext φ) = H2 at k2 x2 dp ⊢
    refine ⟨.ref x, rfl, x, C, dx, _, rfl, x2, rc.cls, rc.known, Nat.lt_of_le_of_lt (Nat.le_of_eq (rfl : List.length _ = 1)) (by decide), ?_⟩
    have k3 := set_kp (S := [x]) (fs' := CS m pk) x2 (.head _)
    refine k _ pk upd_same (dp.keep k3 (by simpa using nx.symm) fun b hb => ?_) (k1.free hpk) ((k1.trans k2).trans k3)
    rw [List.mem_singleton.mp hb]
    exact ⟨_, x2, fun _ _ z => by cases z⟩
def spAll (C : Addr) : Sp := fun vs H Q _ => ∃ (x dx pk : Addr) (m n : Nat), vs = [.ref x, .int (n : Int)] ∧ H x = some (.ins C dx (CS m pk)) ∧ (∀ j, j ≤ n → m ^ j ≤ 1000000) ∧ m ≤ 1000000 ∧ n ≤ 99 ∧
  ∀ p us H', H p = none → H' p = some (.lst us) → CL H' us (allC m n) → Kp [] H H' → Q (.ref p) H'
structure TAll (K : PySem.W.Frag) (mg : Str → Option Value) (C fo : Addr) : Prop where
  n_range : mg "range" = none
  rc : CK K C
  m_one_place_more : mg "one_place_more" = some (.ref fo)
abbrev s_Rd_all_of : Stmt := methN (top 12) 1
theorem sc_Rd_all_of : FnScope ["self", "names", "chosen", "name"] ["self", "names"] (defScope s_Rd_all_of) := ⟨rfl, rfl, rfl, by decide +kernel, rfl, by decide +kernel, by decide +kernel⟩
theorem ok_all_of {f C fo : Addr} {fd fdo : FuncData} (F : Fun K "all_of" "Choices.all_of" s_Rd_all_of f fd) (T : TAll K mg C fo) (F_one_place_more : Fun K "one_place_more" "one_place_more" s_one_place_more fo fdo) (b_one_place_more : Binds K fdo ["chosen", "many"] [])
    (G_one_place_more : FnOk P w K mg base CX0 1 fo fdo ["chosen", "many"] spOne) : FnOk P w K mg base CX0 2 f fd ["self", "names"] (spAll C) := by
  refine F.ok sc_Rd_all_of (fun vs H Q E h => ?_) (fun cdv A outer s H vs Q E hr h => ?_)
  · obtain ⟨x, dx, pk, m, n, rfl, _⟩ := h
    rfl
  · obtain ⟨x, dx, pk, m, n, rfl, hx, hj, hm, hn, k⟩ := h
    have hu := hr.units
    have hsz : sizeLine = 16777216 := PySem.sizeLine_eq
    refine exQ (qpss_cons (qps_set (i := 2) sc_Rd_all_of.nd rfl (by first | exact Or.inl rfl | exact Or.inr rfl) (qpe_lst (qpa_cons (qpe_tup qpa_nil) qpa_nil)))
    (qpss_cons (qps_for PassesOwn.never rfl (qpi_range1 rfl T.n_range (qpa_cons (qpv 1) qpa_nil)) (qpg_name (i := 3) sc_Rd_all_of.nd rfl (by first | exact Or.inl rfl | exact Or.inr rfl)) (qpss_one (qps_set (i := 2) sc_Rd_all_of.nd rfl (by first | exact Or.inl rfl | exact Or.inr rfl) (qpe_call G_one_place_more (hr.mono (by decide)) rfl T.m_one_place_more F_one_place_more.kp b_one_place_more .nil pass0 (qpa_cons (qpv 2) (qpa_cons (qpe_fldK (K := K) rfl (qpv 0)) qpa_nil))))))
    (qpss_one (qps_ret (qpv 2))))) ?_
    simp!
    refine ⟨by omega, fun t ht => ⟨by omega, fun q hq => ⟨by omega, by omega, ?_⟩⟩⟩
    rw [Int.toNat_natCast]
    refine loop_range (fun j σ H' => ∃ (v : Option V) (q : Addr) (us : List V), σ = [some (.ref x), some (.int (n : Int)), some (.ref q), v] ∧ H' q = some (.lst us) ∧ CL H' us (allC m j) ∧ H q = none ∧ Kp [] H H') ?_ ?_ ?_
    · have k1 := ((Kp.refl [] H).new (o := .tup []) ht).new (o := .lst [V.ref t]) hq
      exact ⟨none, q, [.ref t], rfl, upd_same, .cons ⟨t, rfl, by rw [upd_ne (ne_of_none upd_same hq), upd_same]; rfl⟩ .nil, ((Kp.refl [] H).new (o := .tup []) ht).free hq, k1⟩
    · rintro j σ H1 hj1 ⟨v, q, us, rfl, hq1, cl, hq0, kp⟩
      have b1 := hj (j + 1) (by omega)
      rw [Nat.pow_succ] at b1
      simp!
      refine fld0 rfl (kp.old _ _ hx List.not_mem_nil) T.rc.cls T.rc.many rfl ?_
      refine ⟨q, m, us, allC m j, rfl, hq1, cl, by rw [allC_len]; exact b1, hm, fun c hc => by rw [(allC_mem hc).1]; omega, fun p us' H2 hp hp2 cl2 k2 => ?_⟩
      exact ⟨_, p, ⟨rfl, rfl⟩, us', hp2, cl2, kp.free hp, kp.trans k2⟩
    · rintro σ H1 ⟨v, q, us, rfl, hq1, cl, hq0, kp⟩
      simp!
      exact k q us H1 hq0 hq1 cl kp
def spNum (C : Addr) : Sp := fun vs H Q _ => ∃ (x dx pk c : Addr) (m : Nat) (cs : List Nat), vs = [.ref x, .ref c] ∧ H x = some (.ins C dx (CS m pk)) ∧ H c = some (.lst (iV cs)) ∧ (∀ p ∈ cs, p < m) ∧ (∀ j, j ≤ cs.length → m ^ j ≤ 1000000) ∧ m ≤ 1000000 ∧ Q (.int (num m cs : Nat)) H
abbrev s_Rd_number_of : Stmt := methN (top 12) 2
theorem sc_Rd_number_of : FnScope ["self", "choice", "number", "place"] ["self", "choice"] (defScope s_Rd_number_of) := ⟨rfl, rfl, rfl, by decide +kernel, rfl, by decide +kernel, by decide +kernel⟩
theorem ok_number_of {f C : Addr} {fd : FuncData} (F : Fun K "number_of" "Choices.number_of" s_Rd_number_of f fd) (rc : CK K C) : FnOk P w K mg base CX0 1 f fd ["self", "choice"] (spNum C) := by
  refine F.ok sc_Rd_number_of (fun vs H Q E h => ?_) (fun cdv A outer s H vs Q E hr h => ?_)
  · obtain ⟨x, dx, pk, c, m, cs, rfl, _⟩ := h
    rfl
  · obtain ⟨x, dx, pk, c, m, cs, rfl, hx, hc, hp, hj, hm, k⟩ := h
    have hu := hr.units
    have hsz : sizeLine = 16777216 := PySem.sizeLine_eq
    refine exQ (qpss_cons (qps_set (i := 2) sc_Rd_number_of.nd rfl (by first | exact Or.inl rfl | exact Or.inr rfl) qpe_int)
    (qpss_cons (qps_for PassesOwn.never rfl (qpi_any (K := K) (qpv 1) rfl) (qpg_name (i := 3) sc_Rd_number_of.nd rfl (by first | exact Or.inl rfl | exact Or.inr rfl)) (qpss_one (qps_set (i := 2) sc_Rd_number_of.nd rfl (by first | exact Or.inl rfl | exact Or.inr rfl) (qpe_op op_addW (qpe_op op_mulW (qpv 2) (qpe_fldK (K := K) rfl (qpv 0))) (qpv 3)))))
    (qpss_one (qps_ret (qpv 2))))) ?_
    simp! [hc]
    refine loop_list (xs := iV cs) (fun i σ H' => H' = H ∧ ∃ v : Option V, σ = [some (.ref x), some (.ref c), some (.int (num m (cs.take i) : Nat)), v]) ?_ ?_ ?_ ?_
    · exact ⟨rfl, none, rfl⟩
    · rintro i σ H' _ ⟨rfl, _⟩
      exact hc
    · rintro i y σ H' hy ⟨rfl, v, rfl⟩
      rw [iV, List.getElem?_map] at hy
      obtain ⟨p, hpi, rfl⟩ : ∃ p : Nat, cs[i]? = some p ∧ y = .int (p : Int) := by
        cases e : cs[i]? with
        | none => rw [e] at hy; cases hy
        | some j => rw [e] at hy; exact ⟨j, rfl, (Option.some.inj hy).symm⟩
      have hil : i < cs.length := (List.getElem?_eq_some_iff.mp hpi).1
      have b1 := num_lt m (cs.take i) fun q hq => hp q (List.mem_of_mem_take hq)
      rw [List.length_take, Nat.min_eq_left (by omega)] at b1
      have b2 := hj i (by omega)
      simp!
      refine fld0 rfl hx rc.cls rc.many rfl ?_
      refine ⟨.inl ⟨by omega, by omega⟩, rfl, ?_⟩
      refine ⟨?_, _, rfl⟩
      rw [take_snoc hpi, num_snoc, Int.natCast_add, Int.natCast_mul]
    · rintro σ H' ⟨rfl, v, rfl⟩
      rw [iV, List.length_map, List.take_length]
      simp!
      exact k
end
def OkS (M : List Str) : Prop := ∀ y ∈ M, PyData.strOk y = true
theorem canStrs : ∀ l : List Str, OkS l → PyData.canLayAll0 (l.map PyData.str) = true
  | [], _ => rfl
  | x :: l, h => by simp [PyData.canLayAll0, PyData.canLay0, canStrs l fun y hy => h y (.tail _ hy), h x (.head _)]
theorem depStrs : ∀ l : List Str, PyData.depthAll (l.map PyData.str) ≤ 1
  | [] => Nat.zero_le _
  | x :: l => by simp only [List.map_cons, PyData.depthAll, PyData.depth]; have := depStrs l; omega
theorem eqvS (x y : Str) : PyData.eqv (.str x) (.str y) = decide (x = y) := by rw [Bool.eq_iff_iff]; simp [PyData.eqv]
theorem idxS {l : List Str} {y : Str} (h : y ∈ l) : l[l.idxOf y]? = some y ∧ ∀ m x, m < l.idxOf y → l[m]? = some x → ¬ x = y := by
  refine ⟨by rw [List.getElem?_eq_getElem (List.idxOf_lt_length_of_mem h), List.getElem_idxOf], ?_⟩
  clear h
  induction l with
  | nil => intro m x hm; simp at hm
  | cons z l ih =>
    intro m x hm hx e
    by_cases hz : z = y
    · rw [hz] at hm; simp at hm
    · have : (z :: l).idxOf y = l.idxOf y + 1 := by rw [List.idxOf_cons, beq_false_of_ne hz]; rfl
      cases m with
      | zero => simp at hx; exact hz (hx.trans e)
      | succ m => simp at hx; exact ih m x (by omega) hx e
theorem index_strs {H : Hp} {l : Addr} {M : List Str} {y : Str} {Q : VK} (e : FzT H l (M.map V.str)) (ok : OkS M) (hy : y ∈ M) (q : Q (.int (M.idxOf y : Nat)) H) : rTIndexD (.ref l) [.str y] H Q := by
  obtain ⟨h1, h2⟩ := idxS hy
  refine ⟨M.map V.str, M.map PyData.str, .str y, M.idxOf y, e, Reps.strs _ M, by simp [Rep], canStrs M ok, by simp [PyData.canLay0, ok y hy], Nat.le_trans (depStrs M) (by decide), ⟨.str y, by rw [List.getElem?_map, h1]; rfl, by rw [eqvS]; simp⟩, fun m d hm hd => ?_, q⟩
  rw [List.getElem?_map] at hd
  obtain ⟨x, hx, rfl⟩ := Option.map_eq_some_iff.mp hd
  rw [eqvS]
  exact decide_eq_false (h2 m x hm hx)
theorem kp_drop {S : List Addr} {H H1 H2 : Hp} (k : Kp [] H H1) (k2 : Kp S H1 H2) (hS : ∀ b ∈ S, H b = none) : Kp [] H H2 := ⟨fun a o e _ => k2.old a o (k.old a o e (by simp)) (fun m => by rw [hS a m] at e; cases e), fun a xs e => k2.tup _ _ (k.tup _ _ e), fun a o e => let ⟨o', e'⟩ := k.dom a o e; k2.dom a o' e'⟩
theorem CH.le {P : Program} {w : World} {H0 H : Hp} {x C dx pk : Addr} {m n n' : Nat} (c : CH P w H0 H x C dx pk m n) (h : n ≤ n') : CH P w H0 H x C dx pk m n' := let ⟨G, dp, g⟩ := c.dp; ⟨c.hx, ⟨G, dp.le h, g⟩, c.dom⟩
theorem at_iV {c : List Nat} {i : Nat} (h : i < c.length) : atI (iV c) (i : Int) = some (.int (c.getD i 0 : Nat)) := atI_nat (by rw [iV, List.getElem?_map, List.getD_eq_getElem?_getD, List.getElem?_eq_getElem h]; rfl)
def LL (H0 H : Hp) (us : List V) (cs : List (List Nat)) : Prop := Paired (fun v c => ∃ p, v = .ref p ∧ H0 p = none ∧ H p = some (.lst (iV c))) us cs
theorem LL.kp {S : List Addr} {H0 H H' : Hp} {us : List V} {cs : List (List Nat)} (h : LL H0 H us cs) (k : Kp S H H') (hS : ∀ b ∈ S, ∃ o, H0 b = some o) : LL H0 H' us cs := Paired.mapP h fun _ _ ⟨p, e, n, g⟩ => ⟨p, e, n, k.old _ _ g fun z => by obtain ⟨o, q⟩ := hS p z; rw [n] at q; cases q⟩
def spNW (P : Program) (w : World) (C : Addr) : Sp := fun vs H Q _ => ∃ (x dx pk a b : Addr) (m n : Nat) (H0 : Hp) (F M : List Str), vs = [.ref x, .ref a, .ref b] ∧ CH P w H0 H x C dx pk m n ∧ FzT H a (F.map V.str) ∧ FzT H b (M.map V.str) ∧ (∀ y ∈ F, y ∈ M) ∧ OkS M ∧ F.length ≤ 99 ∧ (∀ j, j ≤ max M.length F.length → m ^ j ≤ 1000000) ∧ m ≤ 1000000 ∧ M.length ≤ 99 ∧ n < 1000000 ∧ (∃ o, H0 pk = some o) ∧
  ∀ p H', CH P w H0 H' x C dx pk m (n + 1) → H0 p = none → H' p = some (.lst (iV (nums m F M))) → Kp [pk] H H' → Q (.ref p) H'
structure TNW (K : PySem.W.Frag) (mg : Str → Option Value) (C fa fn : Addr) : Prop where
  n_len : mg "len" = none
  rc : CK K C
  cls : Cls K C
  d_all_of : Meth K C "all_of" fa
  d_number_of : Meth K C "number_of" fn
section
variable {P : Program} {w : World} {K : PySem.W.Frag} {mg : Str → Option Value} {base : Heap}
abbrev s_Rd_numbers_within : Stmt := methN (top 12) 3
theorem sc_Rd_numbers_within : FnScope ["self", "names", "more", "spots", "chosen"] ["self", "names", "more"] (defScope s_Rd_numbers_within) := ⟨rfl, rfl, rfl, by decide +kernel, rfl, by decide +kernel, by decide +kernel⟩
theorem ok_numbers_within {f C fa fn : Addr} {fd fda fdn : FuncData} (F : Fun K "numbers_within" "Choices.numbers_within" s_Rd_numbers_within f fd) (T : TNW K mg C fa fn) (b_all_of : Binds K fda ["self", "names"] []) (G_all_of : FnOk P w K mg base CX0 2 fa fda ["self", "names"] (spAll C))
    (b_number_of : Binds K fdn ["self", "choice"] []) (G_number_of : FnOk P w K mg base CX0 1 fn fdn ["self", "choice"] (spNum C)) : FnOk P w K mg base CX0 3 f fd ["self", "names", "more"] (spNW P w C) := by
  refine F.ok sc_Rd_numbers_within (fun vs H Q E h => ?_) (fun cdv A outer s H vs Q E hr h => ?_)
  · obtain ⟨x, dx, pk, a, b, m, n, H0, F, M, rfl, _⟩ := h
    rfl
  · obtain ⟨x, dx, pk, a, b, m, n, H0, F, M, rfl, ch, ha, hb, hs, okM, hF, hj, hm, hM, hn, h0, k⟩ := h
    have hu := hr.units
    have hsz : sizeLine = 16777216 := PySem.sizeLine_eq
    have hu2 : (A.deeper (PyProof.Rows.envOfC (Str.ofString "Choices.numbers_within") (defScope s_Rd_numbers_within) s.heap.objs.size f cdv)).units + 2 < cLine := by omega
    refine exQ (qpss_mid (qps_if (qpt_cmp (qpc_pnotin (κ := PKd.tt P w) rfl rfl hu2 (qpe_tup (qpa_cons (qpv 1) (qpa_cons (qpv 2) qpa_nil))) (qpe_fldK (K := K) rfl (qpv 0))) (by with_unfolding_all rfl)) (qpss_cons (qps_set (i := 3) sc_Rd_numbers_within.nd rfl (by first | exact Or.inl rfl | exact Or.inr rfl) (qpe_comp rfl (compOk_of (sc := defScope s_Rd_numbers_within) (N := ["self", "names", "more", "spots", "chosen"]) (Nc := ["name", "more"]) (js := [none, some 2]) (by decide +kernel)) (qpi_tup (K := K) (qpv 1) rfl) (fun _ _ _ _ => (qpg_name (i := 0) (show List.Nodup [("name" : Str), ("more" : Str)] from by decide +kernel) rfl (by first | exact Or.inl rfl | exact Or.inr rfl))) (fun _ _ _ _ => (qpe_bmTu PySem.F.slot_tuple_index PySem.F.type_tuple_index (mt_tindexD hu) (qpv 1) (qpa_cons (qpv 0) qpa_nil)))))
    (qpss_cons (qps_setcC (i := 4) sc_Rd_numbers_within.nd rfl (by first | exact Or.inl rfl | exact Or.inr rfl) rfl (compOkC_of (sc := defScope s_Rd_numbers_within) (N := ["self", "names", "more", "spots", "chosen"]) (Nc := ["choice", "spots"]) (js := [none, some 3]) (by decide +kernel)) (qpi_any (K := K) (qpe_meth (qpv 0) T.cls T.d_all_of G_all_of (hr.mono (by decide)) b_all_of .nil pass0 (qpa_cons (qpe_callB call_len_seq (by rfl) T.n_len bt_len (qpa_cons (qpv 2) qpa_nil)) qpa_nil)) rfl) (fun _ _ _ _ => (qpg_name (i := 0) (show List.Nodup [("choice" : Str), ("spots" : Str)] from by decide +kernel) rfl (by first | exact Or.inl rfl | exact Or.inr rfl))) (fun _ _ _ _ => (qpe_comp rfl (compOk_of (sc := relabel0 { kind := .function, names := [(".0", .local), ("choice", .cell), ("spots", .free)], isGenerator := false, isCoroutine := false } (defScope s_Rd_numbers_within)) (N := ["choice", "spots"]) (Nc := ["spot", "choice"]) (js := [none, some 0]) (by decide +kernel)) (qpi_any (K := K) (qpv 1) rfl) (fun _ _ _ _ => (qpg_name (i := 0) (show List.Nodup [("spot" : Str), ("choice" : Str)] from by decide +kernel) rfl (by first | exact Or.inl rfl | exact Or.inr rfl))) (fun _ _ _ _ => (qpe_ix ix_U (qpv 1) (qpv 0) (fun _ _ => rfl))))))
    (qpss_one (qps_pput (κ := PKd.tt P w) rfl rfl hu2 (qpe_fldK (K := K) rfl (qpv 0)) (qpe_tup (qpa_cons (qpv 1) (qpa_cons (qpv 2) qpa_nil))) (qpe_comp rfl (compOk_of (sc := defScope s_Rd_numbers_within) (N := ["self", "names", "more", "spots", "chosen"]) (Nc := ["choice", "self"]) (js := [none, some 0]) (by decide +kernel)) (qpi_any (K := K) (qpv 4) rfl) (fun _ _ _ _ => (qpg_name (i := 0) (show List.Nodup [("choice" : Str), ("self" : Str)] from by decide +kernel) rfl (by first | exact Or.inl rfl | exact Or.inr rfl))) (fun _ _ _ _ => (qpe_meth (qpv 1) T.cls T.d_number_of G_number_of (hr.mono (by decide)) b_number_of .nil pass0 (qpa_cons (qpv 0) qpa_nil)))) rfl)))) qpss_nil)
    (qpss_one (qps_ret (qpe_pget (κ := PKd.tt P w) rfl rfl hu2 (qpe_fldK (K := K) rfl (qpv 0)) (qpe_tup (qpa_cons (qpv 1) (qpa_cons (qpv 2) qpa_nil))) (fun _ _ => rfl))))) ?_
    refine ⟨fun σ H' => ∃ v3 v4 : Option V, σ = [some (.ref x), some (.ref a), some (.ref b), v3, v4] ∧ Kp [pk] H H' ∧ CH P w H0 H' x C dx pk m (n + 1) ∧ ∃ G, DP (PKd.tt P w) H' pk G (n + 1) ∧ ∃ p, G (kS F, kS M) = some (.ref p) ∧ H0 p = none ∧ H' p = some (.lst (iV (nums m F M))), ?_, ?_⟩
    · simp!
      refine ⟨by omega, fun t ht => ?_⟩
      have k1 : Kp [] H (upd H t (.tup [.ref a, .ref b])) := (Kp.refl _ H).new ht
      have et : upd H t (.tup [.ref a, .ref b]) t = _ := upd_same
      generalize upd H t (.tup [.ref a, .ref b]) = H1 at k1 et ⊢
      have ch1 := ch.keep0 k1
      have ha1 := ha.kp0 k1
      have hb1 := hb.kp0 k1
      refine fld0 rfl ch1.hx T.rc.cls T.rc.known rfl ?_
      obtain ⟨G, dp, g⟩ := ch1.dp
      have ka : ∀ {H' : Hp} {t : Addr}, H' t = some (.tup [.ref a, .ref b]) → FzT H' a (F.map V.str) → FzT H' b (M.map V.str) → KA (PKd.tt P w) H' (kS F, kS M) t := fun e1 e2 e3 => ⟨.ref a, .ref b, e1, ⟨a, rfl, by rw [kS_map]; exact e2⟩, ⟨b, rfl, by rw [kS_map]; exact e3⟩⟩
      refine ⟨pk, rfl, G, n, dp, (kS F, kS M), ka et ha1 hb1, ?_⟩
      cases e : G (kS F, kS M) with
      | some v =>
        obtain ⟨p, rfl, hp0, hp⟩ := g F M v e
        rw [if_neg fun h => by simp at h]
        exact ⟨none, none, ⟨rfl, rfl⟩, k1.mono (by simp), ch1.le (by omega), G, dp.le (by omega), p, e, hp0, hp⟩
      | none =>
        rw [if_pos (show (!(none : Option V).isSome) = true from rfl)]
        refine ⟨⟨_, ha1.sq⟩, fun D hD => comp_tups (fun v => match v with | .str y => .int (M.idxOf y : Nat) | _ => .non) ha1 hD (by rw [List.length_map]; omega) (fun u hu l Q' q => ?_) fun v3 => ?_⟩
        · obtain ⟨y, hy, rfl⟩ := List.mem_map.mp hu
          have hb2 : FzT (upd H1 D (.lst l)) b (M.map V.str) := hb1.kp0 ((Kp.refl [] H1).new hD)
          refine ⟨_, rfl, ⟨b, _, rfl, hb2⟩, _, rfl, ?_⟩
          exact index_strs hb2 okM (hs y hy) q
        have k2 : Kp [] H1 (upd H1 D (.lst ((F.map V.str).map fun v => match v with | .str y => .int (M.idxOf y : Nat) | _ => .non))) := (Kp.refl [] H1).new hD
        have eD : upd H1 D (.lst ((F.map V.str).map fun v => match v with | .str y => .int (M.idxOf y : Nat) | _ => .non)) D = some (.lst (iV (F.map fun y => M.idxOf y))) := by rw [upd_same, iV, List.map_map, List.map_map]; rfl
        generalize upd H1 D (.lst ((F.map V.str).map fun v => match v with | .str y => .int (M.idxOf y : Nat) | _ => .non)) = H2 at k2 eD ⊢
        have ch2 := ch1.keep0 k2
        have hb2 := hb1.kp0 k2
        refine ⟨dx, _, ch2.hx, rfl, M.map V.str, .inr hb2.sq, ?_⟩
        rw [List.length_map]
        refine ⟨x, dx, pk, m, M.length, rfl, ch2.hx, fun j hj1 => hj j (by omega), hm, hM, fun q us H3 hq hq3 cl k3 => ?_⟩
        simp! [hq3]
        intro D1 hD1
        have ul : us.length = (allC m M.length).length := Paired.length cl
        have cb : (allC m M.length).length ≤ 1000000 := by rw [allC_len]; exact hj _ (by omega)
        have nq : q ≠ D1 := ne_of_none hq3 hD1
        have nD : D ≠ D1 := ne_of_none (k3.old _ _ eD List.not_mem_nil) hD1
        obtain ⟨H4, e4⟩ : ∃ H4, H4 = upd H3 D1 (.lst []) := ⟨_, rfl⟩
        have k4 : Kp [] H3 H4 := by rw [e4]; exact (Kp.refl [] H3).new hD1
        have eD1 : H4 D1 = some (.lst []) := by rw [e4, upd_same]
        rw [← e4]
        have eD4 := k4.old _ _ (k3.old _ _ eD List.not_mem_nil) (by simp)
        have k13 : Kp [] H H4 := ((k1.trans k2).trans k3).trans k4
        refine loop_list (xs := us) (fun i σ H' => ∃ (v : Option V) (ws : List V), σ = [v, some (.ref D)] ∧ H' D1 = some (.lst ws) ∧ LL H4 H' ws (((allC m M.length).take i).map fun c => F.map (asg M c)) ∧ Kp [D1] H4 H') ?_ ?_ ?_ ?_
        · exact ⟨none, [], rfl, eD1, .nil, Kp.refl _ _⟩
        · rintro i σ H' _ ⟨v, ws, rfl, _, _, kp⟩
          exact kp.old _ _ (k4.old _ _ hq3 List.not_mem_nil) (by simpa using nq)
        · rintro i y σ H5 hy ⟨v, ws, rfl, hD5, ll, kp⟩
          obtain ⟨c, hci, t1, rfl, ht1⟩ := pair_at cl hy
          have ht5 := kp.tup _ _ (k4.tup _ _ ht1)
          have eD5 := kp.old _ _ eD4 (by simpa using nD)
          have hcm := allC_mem (List.mem_of_getElem? hci)
          have hil : i < (allC m M.length).length := (List.getElem?_eq_some_iff.mp hci).1
          have wl : ws.length = i := by rw [Paired.length ll, List.length_map, List.length_take]; omega
          unfold tEmit
          simp! [eD5]
          intro D2 hD2
          refine comp_list (fun v => match v with | .int j => .int (c.getD j.toNat 0 : Nat) | _ => .non) eD5 hD2 (by simp [iV]; omega) (fun u hu l Q' q' => ?_) fun v' => ?_
          · obtain ⟨j, hj', rfl⟩ := List.mem_map.mp hu
            obtain ⟨y, hy, rfl⟩ := List.mem_map.mp hj'
            have hyl := List.idxOf_lt_length_of_mem (hs y hy)
            have ht6 : upd H5 D2 (.lst l) t1 = some (.tup (iV c)) := by rw [upd_ne (ne_of_none ht5 hD2)]; exact ht5
            simp! [ht6]
            exact ⟨_, at_iV (by rw [hcm.1]; exact hyl), q'⟩
          have nD2 : D1 ≠ D2 := ne_of_none hD5 hD2
          have k6 : Kp [D1] H5 (upd H5 D2 (.lst ((iV (F.map fun y => M.idxOf y)).map fun v => match v with | .int j => .int (c.getD j.toNat 0 : Nat) | _ => .non))) := (Kp.refl [D1] H5).new hD2
          have e6 : upd H5 D2 (.lst ((iV (F.map fun y => M.idxOf y)).map fun v => match v with | .int j => .int (c.getD j.toNat 0 : Nat) | _ => .non)) D2 = some (.lst (iV (F.map (asg M c)))) := by
            rw [upd_same, iV, iV, List.map_map, List.map_map, List.map_map]; rfl
          have hD6 : upd H5 D2 (.lst ((iV (F.map fun y => M.idxOf y)).map fun v => match v with | .int j => .int (c.getD j.toNat 0 : Nat) | _ => .non)) D1 = some (.lst ws) := by rw [upd_ne nD2]; exact hD5
          generalize upd H5 D2 (.lst ((iV (F.map fun y => M.idxOf y)).map fun v => match v with | .int j => .int (c.getD j.toNat 0 : Nat) | _ => .non)) = H6 at k6 e6 hD6 ⊢
          have hS : ∀ b ∈ [D1], ∃ o, H4 b = some o := fun b hb => by rw [List.mem_singleton.mp hb]; exact ⟨_, eD1⟩
          have k7 : Kp [D1] H6 (upd H6 D1 (.lst (ws ++ [.ref D2]))) := (Kp.refl _ H6).set hD6 (.inl (.head _))
          refine ⟨ws, by rw [hD6]; rfl, by omega, ?_, (kp.trans k6).trans k7⟩
          rw [take_snoc hci, List.map_append]
          exact Paired.snoc ((ll.kp k6 hS).kp k7 hS) ⟨D2, rfl, kp.free hD2, by rw [upd_ne nD2.symm]; exact e6⟩
        rintro σ H5 ⟨v, ws, rfl, hD5, ll, kp⟩
        rw [ul, List.take_length] at ll
        have k35 : Kp [] H3 H5 := kp_drop k4 kp fun b hb => by rw [List.mem_singleton.mp hb]; exact hD1
        have ch5 := (ch2.keep0 k3).keep0 k35
        have wl : ws.length = (allC m M.length).length := by rw [Paired.length ll, List.length_map]
        simp! [hD5]
        intro D3 hD3
        have n13 : D1 ≠ D3 := ne_of_none hD5 hD3
        refine loop_list (xs := ws) (fun i σ H' => ∃ v : Option V, σ = [v, some (.ref x)] ∧ H' = upd H5 D3 (.lst (iV (((allC m M.length).take i).map fun c => num m (F.map (asg M c)))))) ?_ ?_ ?_ ?_
        · exact ⟨none, rfl, rfl⟩
        · rintro i σ H' _ ⟨v, rfl, rfl⟩
          rw [upd_ne n13]; exact hD5
        · rintro i y σ H' hy ⟨v, rfl, rfl⟩
          obtain ⟨c', hci', p, rfl, hp4, hp5⟩ := pair_at ll hy
          rw [List.getElem?_map] at hci'
          obtain ⟨c, hci, rfl⟩ := Option.map_eq_some_iff.mp hci'
          have hcm := allC_mem (List.mem_of_getElem? hci)
          have hil : i < (allC m M.length).length := (List.getElem?_eq_some_iff.mp hci).1
          unfold tEmit
          simp!
          have hx6 : ∀ o, upd H5 D3 o x = some (.ins C dx (CS m pk)) := fun o => by rw [upd_ne (ne_of_none ch5.hx hD3)]; exact ch5.hx
          refine ⟨dx, _, hx6 _, rfl, x, dx, pk, p, m, F.map (asg M c), rfl, hx6 _, by rw [upd_ne (ne_of_none hp5 hD3)]; exact hp5, fun q hq => ?_, fun j hj1 => hj j (by rw [List.length_map] at hj1; omega), hm, ?_⟩
          · obtain ⟨y, hy, rfl⟩ := List.mem_map.mp hq
            exact asg_lt hcm.1 hcm.2 (hs y hy)
          · refine ⟨_, by rw [upd_same]; rfl, by simp [iV]; omega, ?_⟩
            rw [upd_upd, take_snoc hci]
            simp [iV]
        rintro σ H' ⟨v, rfl, rfl⟩
        rw [wl, List.take_length]
        have k6 : Kp [] H5 (upd H5 D3 (.lst (iV ((allC m M.length).map fun c => num m (F.map (asg M c)))))) := (Kp.refl [] H5).new hD3
        have e6 : upd H5 D3 (.lst (iV ((allC m M.length).map fun c => num m (F.map (asg M c))))) D3 = some (.lst (iV (nums m F M))) := upd_same
        generalize upd H5 D3 (.lst (iV ((allC m M.length).map fun c => num m (F.map (asg M c))))) = H6 at k6 e6 ⊢
        have k16 : Kp [] H1 H6 := ((k2.trans k3).trans k35).trans k6
        have ch6 := ch5.keep0 k6
        have hD0 : H0 D3 = none := ch5.free hD3
        dsimp only
        refine fld0 rfl ch6.hx T.rc.cls T.rc.known rfl ⟨by omega, fun t2 ht2 => ?_⟩
        have k7 : Kp [] H6 (upd H6 t2 (.tup [.ref a, .ref b])) := (Kp.refl _ H6).new ht2
        have et2 : upd H6 t2 (.tup [.ref a, .ref b]) t2 = _ := upd_same
        generalize upd H6 t2 (.tup [.ref a, .ref b]) = H7 at k7 et2 ⊢
        have k17 := k16.trans k7
        have ch7 := ch6.keep0 k7
        have dp7 := dp.keep k17 (by simp) (by simp)
        obtain ⟨φ0, epk⟩ := dp7.ext
        refine ⟨pk, rfl, G, n, dp7, by omega, (kS F, kS M), ka et2 (ha1.kp0 k17) (hb1.kp0 k17), fun φ dpφ => ?_⟩
        have nl : ∀ {p : Addr} {xs : List V}, H7 p = some (.lst xs) → p ≠ pk := fun e z => by rw [z, epk] at e; cases e
        have k8 : Kp [pk] H7 (upd H7 pk (.ext φ)) := by
          refine ⟨fun c v e' n => ?_, fun c xs e' => ?_, fun c v e' => ?_⟩
          · rw [upd_ne fun z => n (by rw [z]; simp)]; exact e'
          · rw [upd_ne fun z => by rw [z, epk] at e'; cases e']; exact e'
          · by_cases z : c = pk
            · rw [z, upd_same]; exact ⟨_, rfl⟩
            · rw [upd_ne z]; exact ⟨v, e'⟩
        have e7 := k7.old _ _ e6 List.not_mem_nil
        have e8 : upd H7 pk (.ext φ) D3 = some (.lst (iV (nums m F M))) := by rw [upd_ne (nl e7)]; exact e7
        refine ⟨_, _, ⟨rfl, rfl⟩, ((k1.trans k17).mono (by simp)).trans k8, ⟨?_, ⟨_, dpφ, fun F' M' v' e' => ?_⟩, fun c o e' => ?_⟩, _, dpφ, D3, if_pos rfl, hD0, e8⟩
        · rw [upd_ne fun z => by have := ch7.hx; rw [z, epk] at this; cases this]; exact ch7.hx
        · by_cases z : (kS F', kS M') = (kS F, kS M)
          · rw [if_pos z] at e'
            cases e'
            rw [kS_inj (Prod.mk.inj z).1, kS_inj (Prod.mk.inj z).2]
            exact ⟨D3, rfl, hD0, e8⟩
          · rw [if_neg z] at e'
            obtain ⟨p, h1, h2, h3⟩ := g F' M' v' e'
            have h4 := k17.old _ _ h3 List.not_mem_nil
            exact ⟨p, h1, h2, by rw [upd_ne (nl h4)]; exact h4⟩
        · obtain ⟨o', e2⟩ := ch7.dom c o e'
          exact k8.dom c o' e2
    rintro _ H1 ⟨v3, v4, rfl, kp, ch1, G, dp, p, gp, hp0, hp⟩
    simp!
    refine fld0 rfl ch1.hx T.rc.cls T.rc.known rfl ⟨by omega, fun t ht => ?_⟩
    have k1 : Kp [] H1 (upd H1 t (.tup [.ref a, .ref b])) := (Kp.refl _ H1).new ht
    have et : upd H1 t (.tup [.ref a, .ref b]) t = _ := upd_same
    generalize upd H1 t (.tup [.ref a, .ref b]) = H2 at k1 et ⊢
    have hS : ∀ c ∈ [pk], ∃ o, H c = some o ∧ ∀ ob u, o ≠ .frz ob u := fun c hc => by
      obtain ⟨G, dp, _⟩ := ch.dp
      obtain ⟨φ, e⟩ := dp.ext
      rw [List.mem_singleton.mp hc]
      exact ⟨_, e, fun _ _ z => by cases z⟩
    refine ⟨pk, rfl, G, n + 1, dp.keep k1 (by simp) (by simp), (kS F, kS M), ⟨.ref a, .ref b, et, ⟨a, rfl, by rw [kS_map]; exact (ha.stay kp hS).kp0 k1⟩, ⟨b, rfl, by rw [kS_map]; exact (hb.stay kp hS).kp0 k1⟩⟩, _, gp, ?_⟩
    exact k p H2 (ch1.keep0 k1) hp0 (k1.old _ _ hp List.not_mem_nil) (kp.trans (k1.mono (by simp)))
end
abbrev Sm := (Str → Nat) → Bool
def sAt (S : List Sm) (i : Nat) : Sm := S.getD i fun _ => false
def sm (t : List Nat) (S : List Sm) : RS → Sm
  | .yes => fun _ => true
  | .is x a => fun ρ => decide ((⟨#[t.getD (ρ x) 0]⟩ : Str) = a)
  | .ahead x y => fun ρ => decide (ρ x < ρ y)
  | .no i => fun ρ => !sAt S i ρ
  | .bin true i j => fun ρ => sAt S i ρ && sAt S j ρ
  | .bin false i j => fun ρ => sAt S i ρ || sAt S j ρ
  | .qn true x i => fun ρ => ((List.range t.length).map fun p => sAt S i (up ρ x p)).any id
  | .qn false x i => fun ρ => ((List.range t.length).map fun p => sAt S i (up ρ x p)).all id
def sms (t : List Nat) (rs : List RS) : List Sm := rs.foldl (fun S r => S ++ [sm t S r]) []
theorem sms_snoc (t : List Nat) (rs : List RS) (r : RS) : sms t (rs ++ [r]) = sms t rs ++ [sm t (sms t rs) r] := by simp [sms, List.foldl_append]
theorem sms_len (t : List Nat) : ∀ rs : List RS, (sms t rs).length = rs.length := snocI rfl fun l x ih => by rw [sms_snoc, List.length_append, List.length_append, ih]; rfl
theorem sAt_snoc {S : List Sm} {f : Sm} {i : Nat} (h : i < S.length) : sAt (S ++ [f]) i = sAt S i := getD_snoc h
theorem sAt_last {S : List Sm} {f : Sm} : sAt (S ++ [f]) S.length = f := getD_last
theorem up_dep {f : Sm} {F G : List Str} {x : Str} (h : Dep f F) (hs : ∀ y ∈ F, y ≠ x → y ∈ G) {ρ ρ' : Str → Nat} (e : ∀ y ∈ G, ρ y = ρ' y) (p : Nat) : f (up ρ x p) = f (up ρ' x p) := h _ _ fun y hy => by
  unfold up
  by_cases z : y = x
  · rw [if_pos z, if_pos z]
  · rw [if_neg z, if_neg z]; exact e y (hs y hy z)
theorem sm_dep {t : List Nat} {S : List Sm} {F : List (List Str)} {l : List Str} {r : RS} {zs : List Str} {k : Nat} (ok : r.ok zs k) (hS : ∀ i, i < k → Dep (sAt S i) (F.getD i [])) (cn : Cn l (fm F r)) : Dep (sm t S r) l := by
  intro ρ ρ' e
  have e' : ∀ x ∈ fm F r, ρ x = ρ' x := fun x hx => e x ((cn.me x).mpr hx)
  cases r with
  | yes => rfl
  | is x a => simp only [sm]; rw [e' x (by simp [fm])]
  | ahead x y => simp only [sm]; rw [e' x (by simp [fm]), e' y (by simp [fm])]
  | no i => simp only [sm]; rw [hS i ok ρ ρ' e']
  | bin b i j =>
    have h1 := hS i ok.1 ρ ρ' fun x hx => e' x (List.mem_append_left _ hx)
    have h2 := hS j ok.2 ρ ρ' fun x hx => e' x (List.mem_append_right _ hx)
    cases b <;> (simp only [sm]; rw [h1, h2])
  | qn b x i =>
    have h1 := fun p => up_dep (x := x) (hS i ok.2) (G := fm F (.qn b x i)) (fun y hy hn => List.mem_filter.mpr ⟨hy, by simp [hn]⟩) e' p
    cases b <;> (simp only [sm]; rw [List.map_congr_left fun p _ => h1 p])
theorem sms_depT {t : List Nat} {zs : List Str} {F : List (List Str)} {rs : List RS} (ok : okR zs rs) (cf : CF zs F rs) : ∀ n, n ≤ rs.length → ∀ k, k < n → Dep (sAt (sms t (rs.take n)) k) (F.getD k []) := by
  intro n
  induction n with
  | zero => intro _ k hk; omega
  | succ n ih =>
    intro hn k hk
    have er := List.getElem?_eq_getElem (show n < rs.length by omega)
    have hl : (sms t (rs.take n)).length = n := by rw [sms_len, List.length_take]; omega
    rw [take_snoc er, sms_snoc]
    by_cases h : k < n
    · rw [sAt_snoc (by omega)]; exact ih (by omega) k h
    · have : k = (sms t (rs.take n)).length := by omega
      rw [this, sAt_last, hl]
      exact sm_dep (ok n _ er) (fun i hi => ih (by omega) i hi) (cf.at_ n _ er)
theorem sms_dep {t : List Nat} {zs : List Str} {F : List (List Str)} {rs : List RS} (ok : okR zs rs) (cf : CF zs F rs) (k : Nat) (hk : k < rs.length) : Dep (sAt (sms t rs) k) (F.getD k []) := by
  have := sms_depT (t := t) ok cf rs.length (Nat.le_refl _) k hk
  rwa [List.take_length] at this
theorem tab_yes {t : List Nat} {S : List Sm} {l : List Str} (cn : Cn l []) : tab t.length l (sm t S .yes) = [true] := by
  have : l = [] := List.eq_nil_iff_forall_not_mem.mpr fun x hx => by have := (cn.me x).mp hx; cases this
  subst this
  rfl
theorem allC_one (m : Nat) : allC m 1 = (List.range m).map fun p => [p] := by simp [allC]
theorem tab_is {t : List Nat} {S : List Sm} {l : List Str} {x a : Str} (cn : Cn l [x]) : tab t.length l (sm t S (.is x a)) = t.map fun c => decide ((⟨#[c]⟩ : Str) = a) := by
  have : l = [x] := cn.one (sorted1 x) fun _ => Iff.rfl
  subst this
  unfold tab
  rw [show ([x] : List Str).length = 1 from rfl, allC_one, List.map_map]
  refine List.ext_getElem (by simp) fun i h1 h2 => ?_
  have hi : i < t.length := by simpa using h2
  have e0 : asg [x] [i] x = i := by simp [asg]
  have e1 : t.getD i 0 = t[i] := by rw [List.getD_eq_getElem?_getD, List.getElem?_eq_getElem hi]; rfl
  simp only [List.getElem_map, List.getElem_range, Function.comp, sm, e0, e1]
theorem tab_not {t : List Nat} {S : List Sm} {F : List (List Str)} {l : List Str} {i : Nat} (cn : Cn l (F.getD i [])) (ci : ∃ raw, Cn (F.getD i []) raw) : l = F.getD i [] ∧ tab t.length l (sm t S (.no i)) = (tab t.length (F.getD i []) (sAt S i)).map (!·) := by
  obtain ⟨raw, ci⟩ := ci
  have e : l = F.getD i [] := cn.one ci fun x => ⟨fun h => (ci.me x).mp h, fun h => (ci.me x).mpr h⟩
  subst e
  exact ⟨rfl, by unfold tab; rw [List.map_map]; rfl⟩
theorem tab_zip {m : Nat} {l : List Str} (f g : Sm) (h : Bool → Bool → Bool) : List.zipWith h (tab m l f) (tab m l g) = tab m l fun ρ => h (f ρ) (g ρ) := by
  unfold tab
  generalize allC m l.length = cs
  induction cs with
  | nil => rfl
  | cons c cs ih => simp [ih]
def bV (l : List Bool) : List V := l.map V.bl
section
variable {D : Addr} {te : TE} {r : L2.St} {E : Ends} {H : Hp}
theorem comp_pair {K : PySem.W.Frag} {a : Addr} {α : Type} {us : List V} {R : V → α → Prop} {cs : List α} (f : α → V) (ha : H a = some (.lst us)) (pr : Paired R us cs) (hD : H D = none) (hz : us.length ≤ sizeLine)
    (he : ∀ u c, R u c → c ∈ cs → ∀ l Q, Q (f c) (upd H D (.lst l)) → te (some u :: r) (upd H D (.lst l)) Q) (hn : ∀ v, E.nx (v :: r) (upd H D (.lst (cs.map f)))) : LoopR (Itl K a) (gName 0) (tEmit D te) E (none :: r) (upd H D (.lst [])) := by
  have ne : a ≠ D := ne_of_none ha hD
  refine loop_list (xs := us) (fun i σ H' => ∃ v : Option V, σ = v :: r ∧ H' = upd H D (.lst ((cs.take i).map f))) ⟨none, rfl, rfl⟩ ?_ ?_ ?_
  · rintro i σ H' _ ⟨v, _, rfl⟩
    rw [upd_ne ne]; exact ha
  · rintro i x σ H' hx ⟨v, rfl, rfl⟩
    have hl : i < us.length := (List.getElem?_eq_some_iff.mp hx).1
    obtain ⟨c, hc, rc⟩ := pair_at pr hx
    refine he x c rc (List.mem_of_getElem? hc) _ _ ⟨_, by rw [upd_same]; rfl, by simp; omega, some x, rfl, ?_⟩
    rw [upd_upd, take_snoc hc, List.map_append]
    rfl
  · rintro σ H' ⟨v, rfl, rfl⟩
    rw [Paired.length pr, List.take_length]
    exact hn v
end
def spAh : Sp := fun vs H Q _ => ∃ (a : Addr) (us : List V) (cs : List (List Nat)) (i j n : Nat), vs = [.int (i : Int), .int (j : Int), .ref a] ∧ H a = some (.lst us) ∧ CL H us cs ∧ (∀ c ∈ cs, c.length = n) ∧ i < n ∧ j < n ∧ cs.length ≤ 1000000 ∧
  ∀ p H', H p = none → H' p = some (.lst (bV (cs.map fun c => decide (c.getD i 0 < c.getD j 0)))) → Kp [] H H' → Q (.ref p) H'
section
variable {P : Program} {w : World} {K : PySem.W.Frag} {mg : Str → Option Value} {base : Heap}
abbrev s_ahead_truths : Stmt := top 9
theorem sc_ahead_truths : FnScope ["one", "other", "chosen"] ["one", "other", "chosen"] (defScope s_ahead_truths) := ⟨rfl, rfl, rfl, by decide +kernel, rfl, by decide +kernel, by decide +kernel⟩
theorem ok_ahead_truths {f : Addr} {fd : FuncData} (F : Fun K "ahead_truths" "ahead_truths" s_ahead_truths f fd) : FnOk P w K mg base CX0 1 f fd ["one", "other", "chosen"] spAh := by
  refine F.ok sc_ahead_truths (fun vs H Q E h => ?_) (fun cdv A outer s H vs Q E hr h => ?_)
  · obtain ⟨a, us, cs, i, j, n, rfl, _⟩ := h
    rfl
  · obtain ⟨a, us, cs, i, j, n, rfl, ha, cl, hn, hi, hj, hc, k⟩ := h
    have hu := hr.units
    have hsz : sizeLine = 16777216 := PySem.sizeLine_eq
    refine exQ (qpss_one (qps_ret (qpe_comp rfl (compOk_of (sc := defScope s_ahead_truths) (N := ["one", "other", "chosen"]) (Nc := ["choice", "one", "other"]) (js := [none, some 0, some 1]) (by decide +kernel)) (qpi_any (K := K) (qpv 2) rfl) (fun _ _ _ _ => (qpg_name (i := 0) (show List.Nodup [("choice" : Str), ("one" : Str), ("other" : Str)] from by decide +kernel) rfl (by first | exact Or.inl rfl | exact Or.inr rfl))) (fun _ _ _ _ => (qpe_cmpR op_ltU (qpe_ix ix_U (qpv 0) (qpv 1) (fun _ _ => rfl)) (qpe_ix ix_U (qpv 0) (qpv 2) (fun _ _ => rfl)) (nomark _)))))) ?_
    simp! [ha]
    intro D hD
    refine comp_pair (fun c => .bl (decide (c.getD i 0 < c.getD j 0))) ha cl hD (by rw [Paired.length cl]; omega) (fun u c hr hm l Q' q => ?_) fun v => ?_
    · obtain ⟨t, rfl, ht⟩ := hr
      have cn := hn c hm
      have ht2 : upd H D (.lst l) t = some (.tup (iV c)) := by rw [upd_ne (ne_of_none ht hD)]; exact ht
      simp! [ht2]
      refine ⟨_, at_iV (by omega), _, at_iV (by omega), ?_⟩
      simp!
      rw [show decide ((c.getD i 0 : Int) < (c.getD j 0 : Int)) = decide (c.getD i 0 < c.getD j 0) from by rw [Bool.eq_iff_iff]; simp]
      exact q
    · exact k D _ hD (by rw [upd_same, bV, List.map_map]; rfl) ((Kp.refl [] H).new hD)
def spWi (P : Program) (w : World) (C : Addr) : Sp := fun vs H Q _ => ∃ (x dx pk t a b : Addr) (m n : Nat) (H0 : Hp) (F M : List Str) (g : Sm), vs = [.ref t, .ref a, .ref b, .ref x] ∧ CH P w H0 H x C dx pk m n ∧ H t = some (.lst (bV (tab m F g))) ∧ FzT H a (F.map V.str) ∧ FzT H b (M.map V.str) ∧ (∀ y ∈ F, y ∈ M) ∧ OkS M ∧ Dep g F ∧ F.length ≤ 99 ∧ (∀ j, j ≤ max M.length F.length → m ^ j ≤ 1000000) ∧ m ≤ 1000000 ∧ M.length ≤ 99 ∧ n < 1000000 ∧ (∃ o, H0 pk = some o) ∧
  ∀ p H', CH P w H0 H' x C dx pk m (n + 1) → H' p = some (.lst (bV (tab m M g))) → Kp [pk] H H' → Q (.ref p) H'
structure TWi (K : PySem.W.Frag) (C fw : Addr) : Prop where
  cls : Cls K C
  d_numbers_within : Meth K C "numbers_within" fw
theorem eqvAllS : ∀ (a b : List Str), PyData.eqvAll (a.map PyData.str) (b.map PyData.str) = decide (a = b)
  | [], [] => by simp [PyData.eqvAll]
  | [], _ :: _ => by simp [PyData.eqvAll]
  | _ :: _, [] => by simp [PyData.eqvAll]
  | x :: a, y :: b => by
    rw [List.map_cons, List.map_cons, PyData.eqvAll, eqvS, eqvAllS a b, Bool.eq_iff_iff]
    simp
theorem shapedS {l : List Str} (h : OkS l) : SeqAt.shaped (.tuple (l.map PyData.str)) = true := by
  have := depStrs l
  simp [SeqAt.shaped, PyData.canLay0, PyData.depth, canStrs l h]
  omega
abbrev s_widened : Stmt := top 10
theorem sc_widened : FnScope ["truths", "names", "more", "choices"] ["truths", "names", "more", "choices"] (defScope s_widened) := ⟨rfl, rfl, rfl, by decide +kernel, rfl, by decide +kernel, by decide +kernel⟩
theorem ok_widened {f C fw : Addr} {fd fdw : FuncData} (F : Fun K "widened" "widened" s_widened f fd) (T : TWi K C fw) (b_numbers_within : Binds K fdw ["self", "names", "more"] []) (G_numbers_within : FnOk P w K mg base CX0 3 fw fdw ["self", "names", "more"] (spNW P w C)) : FnOk P w K mg base CX0 4 f fd ["truths", "names", "more", "choices"] (spWi P w C) := by
  refine F.ok sc_widened (fun vs H Q E h => ?_) (fun cdv A outer s H vs Q E hr h => ?_)
  · obtain ⟨x, dx, pk, t, a, b, m, n, H0, F, M, g, rfl, _⟩ := h
    rfl
  · obtain ⟨x, dx, pk, t, a, b, m, n, H0, F, M, g, rfl, ch, ht, ha, hb, hs, okM, dg, hF, hj, hm, hM, hn, h0, k⟩ := h
    have hu := hr.units
    have hsz : sizeLine = 16777216 := PySem.sizeLine_eq
    refine exQ (qpss_mid (qps_if (qpt_cmpR (op_eqT (K := K) rfl hu) (qpv 1) (qpv 2) (nomark _)) (qpss_one (qps_ret (qpv 0))) qpss_nil)
    (qpss_one (qps_ret (qpe_comp rfl (compOk_of (sc := defScope s_widened) (N := ["truths", "names", "more", "choices"]) (Nc := ["number", "truths"]) (js := [none, some 0]) (by decide +kernel)) (qpi_any (K := K) (qpe_meth (qpv 3) T.cls T.d_numbers_within G_numbers_within (hr.mono (by decide)) b_numbers_within .nil pass0 (qpa_cons (qpv 1) (qpa_cons (qpv 2) qpa_nil))) rfl) (fun _ _ _ _ => (qpg_name (i := 0) (show List.Nodup [("number" : Str), ("truths" : Str)] from by decide +kernel) rfl (by first | exact Or.inl rfl | exact Or.inr rfl))) (fun _ _ _ _ => (qpe_ix ix_U (qpv 1) (qpv 0) (fun _ _ => rfl))))))) ?_
    refine ⟨fun σ H' => σ = [some (.ref t), some (.ref a), some (.ref b), some (.ref x)] ∧ H' = H, ?_, ?_⟩
    · simp!
      refine ⟨a, b, _, _, F.map PyData.str, M.map PyData.str, rfl, rfl, ha.sq, hb.sq, Reps.strs _ F, Reps.strs _ M, shapedS fun y hy => okM y (hs y hy), shapedS okM, _, rfl, ?_⟩
      rw [eqvAllS]
      refine ite2 (fun e => ?_) (fun e => ?_)
      · have e' : F = M := of_decide_eq_true e
        subst e'
        exact k t H (ch.le (by omega)) ht (Kp.refl _ _)
      · exact rfl
    rintro _ H' ⟨rfl, e⟩
    rw [e]
    simp!
    refine ⟨dx, _, ch.hx, rfl, x, dx, pk, a, b, m, n, H0, F, M, rfl, ch, ha, hb, hs, okM, hF, hj, hm, hM, hn, h0, fun p H1 ch1 hp0 hp k1 => ?_⟩
    simp! [hp]
    intro D hD
    have ht1 : H1 t = some (.lst (bV (tab m F g))) := k1.old _ _ ht fun z => by
      obtain ⟨G, dp, _⟩ := ch.dp
      obtain ⟨φ, e⟩ := dp.ext
      rw [List.mem_singleton.mp z, e] at ht; cases ht
    have pr : Paired (fun v (c : List Nat) => v = .int (num m (F.map (asg M c)) : Nat)) (iV (nums m F M)) (allC m M.length) := by
      unfold nums iV
      rw [List.map_map]
      generalize allC m M.length = cs
      induction cs with
      | nil => exact .nil
      | cons c cs ih => exact .cons rfl ih
    refine comp_pair (fun c => .bl (g (asg M c))) hp pr hD (by rw [Paired.length pr, allC_len]; have := hj M.length (by omega); omega) (fun u c hr' hmc l Q' q => ?_) fun v => ?_
    · subst hr'
      have ht2 : upd H1 D (.lst l) t = some (.lst (bV (tab m F g))) := by rw [upd_ne (ne_of_none ht1 hD)]; exact ht1
      simp! [ht2]
      exact ⟨_, atI_nat (by rw [bV, List.getElem?_map, tab_wide dg hs hmc]; rfl), q⟩
    · have kD : Kp [] H1 (upd H1 D (.lst ((allC m M.length).map fun c => .bl (g (asg M c))))) := (Kp.refl [] H1).new hD
      exact k D _ (ch1.keep0 kD) (by rw [upd_same, bV, tab, List.map_map]; rfl) (k1.trans (kD.mono (by simp)))
end
def bd (b : Bool) (l : List Bool) : Bool := if b then l.any id else l.all id
def LB (H0 H : Hp) (us : List V) (ls : List (List Bool)) : Prop := Paired (fun v l => ∃ p, v = .ref p ∧ H0 p = none ∧ H p = some (.lst (bV l))) us ls
theorem LB.kp {S : List Addr} {H0 H H' : Hp} {us : List V} {ls : List (List Bool)} (h : LB H0 H us ls) (k : Kp S H H') (hS : ∀ b ∈ S, ∃ o, H0 b = some o) : LB H0 H' us ls := Paired.mapP h fun _ _ ⟨p, e, n, g⟩ => ⟨p, e, n, k.old _ _ g fun z => by obtain ⟨o, q⟩ := hS p z; rw [n] at q; cases q⟩
def spBd : Sp := fun vs H Q _ => ∃ (t : Addr) (b : Bool) (l : List Bool) (g m : Nat), vs = [.str (qw b), .ref t, .int (g : Int), .int (m : Int)] ∧ H t = some (.lst (bV l)) ∧ l.length = g * m ∧ g ≤ 1000000 ∧ m ≤ 1000000 ∧ g * m ≤ 1000000 ∧
  ∀ p H', H p = none → H' p = some (.lst (bV ((List.range g).map fun q => bd b ((l.drop (q * m)).take m)))) → Kp [] H H' → Q (.ref p) H'
structure TBd (mg : Str → Option Value) : Prop where
  n_range : mg "range" = none
  n_any : mg "any" = none
  n_all : mg "all" = none
theorem cut_bV {l : List Bool} {q m : Nat} (h : (q + 1) * m ≤ l.length) : cutV (bV l) (some ((q : Int) * (m : Int))) (some (((q : Int) + 1) * (m : Int))) = bV ((l.drop (q * m)).take m) := by
  have e1 : ((q : Int) * (m : Int)) = ((q * m : Nat) : Int) := by rw [Int.natCast_mul]
  have e2 : (((q : Int) + 1) * (m : Int)) = (((q + 1) * m : Nat) : Int) := by rw [Int.natCast_mul]; rfl
  rw [e1, e2]
  have h1 : q * m ≤ l.length := by rw [Nat.succ_mul] at h; omega
  unfold cutV
  rw [HT.sIx_nat, HT.sIx_nat, bV, List.length_map, Nat.min_eq_left h1, Nat.min_eq_left h, Nat.succ_mul, Nat.add_sub_cancel_left, ← List.map_drop, ← List.map_take]
  rfl
section
variable {P : Program} {w : World} {K : PySem.W.Frag} {mg : Str → Option Value} {base : Heap}
abbrev s_bound_truths : Stmt := top 11
theorem sc_bound_truths : FnScope ["word", "inner", "groups", "many", "shares"] ["word", "inner", "groups", "many"] (defScope s_bound_truths) := ⟨rfl, rfl, rfl, by decide +kernel, rfl, by decide +kernel, by decide +kernel⟩
theorem ok_bound_truths {f : Addr} {fd : FuncData} (F : Fun K "bound_truths" "bound_truths" s_bound_truths f fd) (T : TBd mg) : FnOk P w K mg base CX0 1 f fd ["word", "inner", "groups", "many"] spBd := by
  refine F.ok sc_bound_truths (fun vs H Q E h => ?_) (fun cdv A outer s H vs Q E hr h => ?_)
  · obtain ⟨t, b, l, g, m, rfl, _⟩ := h
    rfl
  · obtain ⟨t, b, l, g, m, rfl, ht, hl, hg, hm, hgm, k⟩ := h
    have hu := hr.units
    have hsz : sizeLine = 16777216 := PySem.sizeLine_eq
    refine exQ (qpss_cons (qps_setc (i := 4) sc_bound_truths.nd rfl (by first | exact Or.inl rfl | exact Or.inr rfl) rfl (compOk_of (sc := defScope s_bound_truths) (N := ["word", "inner", "groups", "many", "shares"]) (Nc := ["group", "inner", "many"]) (js := [none, some 1, some 3]) (by decide +kernel)) (qpi_range1 rfl T.n_range (qpa_cons (qpv 2) qpa_nil)) (fun _ _ _ _ => (qpg_name (i := 0) (show List.Nodup [("group" : Str), ("inner" : Str), ("many" : Str)] from by decide +kernel) rfl (by first | exact Or.inl rfl | exact Or.inr rfl))) (fun _ _ _ _ => (qpe_slice (sl_UK (K := K) rfl) (qpv 1) (qpo_some (qpe_op op_mulW (qpv 0) (qpv 2))) (qpo_some (qpe_op op_mulW (qpe_op op_addW (qpv 0) qpe_int) (qpv 2))))))
    (qpss_mid (qps_if (qpt_cmpR (op_eqU hu) (qpv 0) qpe_str (nomark _)) (qpss_one (qps_ret (qpe_comp rfl (compOk_of (sc := defScope s_bound_truths) (N := ["word", "inner", "groups", "many", "shares"]) (Nc := ["share"]) (js := [none]) (by decide +kernel)) (qpi_any (K := K) (qpv 4) rfl) (fun _ _ _ _ => (qpg_name (i := 0) (show List.Nodup [("share" : Str)] from by decide +kernel) rfl (by first | exact Or.inl rfl | exact Or.inr rfl))) (fun _ _ _ _ => (qpe_callB (call_anyU rfl) (by rfl) T.n_any bt_any (qpa_cons (qpv 0) qpa_nil)))))) qpss_nil)
    (qpss_one (qps_ret (qpe_comp rfl (compOk_of (sc := defScope s_bound_truths) (N := ["word", "inner", "groups", "many", "shares"]) (Nc := ["share"]) (js := [none]) (by decide +kernel)) (qpi_any (K := K) (qpv 4) rfl) (fun _ _ _ _ => (qpg_name (i := 0) (show List.Nodup [("share" : Str)] from by decide +kernel) rfl (by first | exact Or.inl rfl | exact Or.inr rfl))) (fun _ _ _ _ => (qpe_callB (call_allU rfl) (by rfl) T.n_all bt_all (qpa_cons (qpv 0) qpa_nil)))))))) ?_
    simp!
    refine ⟨by omega, by omega, ?_⟩
    rw [Int.toNat_natCast]
    intro D hD
    obtain ⟨H1, e1⟩ : ∃ H1, H1 = upd H D (.lst []) := ⟨_, rfl⟩
    have k1 : Kp [] H H1 := by rw [e1]; exact (Kp.refl [] H).new hD
    have eD : H1 D = some (.lst []) := by rw [e1, upd_same]
    rw [← e1]
    have hS : ∀ b ∈ [D], ∃ o, H1 b = some o := fun b hb => by rw [List.mem_singleton.mp hb]; exact ⟨_, eD⟩
    refine loop_range (fun i σ H' => ∃ (v : Option V) (us : List V), σ = [v, some (.ref t), some (.int (m : Int))] ∧ H' D = some (.lst us) ∧ LB H1 H' us ((List.range i).map fun q => (l.drop (q * m)).take m) ∧ Kp [D] H1 H') ?_ ?_ ?_
    · exact ⟨none, [], rfl, eD, .nil, Kp.refl _ _⟩
    · rintro i σ H2 hi ⟨v, us, rfl, hD2, lb, kp⟩
      have ul : us.length = i := by rw [Paired.length lb]; simp
      have ht2 : H2 t = some (.lst (bV l)) := kp.old _ _ (k1.old _ _ ht List.not_mem_nil) (by simpa using ne_of_none ht hD)
      have hb : (i + 1) * m ≤ g * m := Nat.mul_le_mul_right m hi
      have hb2 : i * m ≤ g * m := Nat.mul_le_mul_right m (by omega)
      unfold tEmit
      simp!
      rw [Int.zero_add]
      refine ⟨.inl ⟨by omega, by omega⟩, .inl ⟨by omega, by omega⟩, rSlU.lst ht2 fun p hp => ?_⟩
      rw [cut_bV (by omega)]
      have np : D ≠ p := ne_of_none hD2 hp
      have k3 : Kp [D] H2 (upd H2 p (.lst (bV ((l.drop (i * m)).take m)))) := (Kp.refl _ H2).new hp
      have e3 : upd H2 p (.lst (bV ((l.drop (i * m)).take m))) p = _ := upd_same
      have eD3 : upd H2 p (.lst (bV ((l.drop (i * m)).take m))) D = some (.lst us) := by rw [upd_ne np]; exact hD2
      generalize upd H2 p (.lst (bV ((l.drop (i * m)).take m))) = H3 at k3 e3 eD3 ⊢
      have k4 : Kp [D] H3 (upd H3 D (.lst (us ++ [.ref p]))) := (Kp.refl _ H3).set eD3 (.inl (.head _))
      refine ⟨us, by rw [eD3]; rfl, by omega, ?_, (kp.trans k3).trans k4⟩
      rw [List.range_succ, List.map_append]
      exact Paired.snoc ((lb.kp k3 hS).kp k4 hS) ⟨p, rfl, kp.free hp, by rw [upd_ne np.symm]; exact e3⟩
    · rintro σ H2 ⟨v, us, rfl, hD2, lb, kp⟩
      have k2 : Kp [] H H2 := kp_drop k1 kp fun b hb => by rw [List.mem_singleton.mp hb]; exact hD
      have ul : us.length = g := by rw [Paired.length lb]; simp
      have fin : ∀ (fb : List Bool → Bool) (te : TE), (∀ (v : V) (bs : List Bool) (H' : Hp) (Q' : VK), (∃ p, v = .ref p ∧ H' p = some (.lst (bV bs))) → Q' (.bl (fb bs)) H' → te [some v] H' Q') → (∀ q, fb q = bd b q) →
          ∀ D2, H2 D2 = none → LoopR (Itl K D) (gName 0) (tEmit D2 te) { nx := fun _ H' => Q (.ref D2) H', rt := fun _ _ => False } [none] (upd H2 D2 (.lst [])) := by
        intro fb te he hb D2 hD2'
        refine comp_pair (fun bs => .bl (fb bs)) hD2 lb hD2' (by omega) (fun u bs hr' _ l' Q' q => ?_) fun v => ?_
        · obtain ⟨p, rfl, _, hp⟩ := hr'
          exact he _ bs _ _ ⟨p, rfl, by rw [upd_ne (ne_of_none hp hD2')]; exact hp⟩ q
        · refine k D2 _ (k2.free hD2') ?_ (k2.new hD2')
          rw [upd_same, bV, List.map_map, List.map_map]
          exact congrArg (fun z => some (HO.lst z)) (List.map_congr_left fun q _ => congrArg V.bl (hb _))
      refine ⟨fun σ' H' => b = false ∧ σ' = [some (.str (qw b)), some (.ref t), some (.int (g : Int)), some (.int (m : Int)), some (.ref D)] ∧ H' = H2, ?_, ?_⟩
      · simp! [hD2]
        refine ite2 (fun e => ?_) (fun e => ?_)
        · have hb : b = true := by cases b with | true => rfl | false => exact absurd e (by decide +kernel)
          refine fin (fun q => q.any id) _ (fun v bs H' Q' ⟨p, e1, e2⟩ q => ?_) fun q => by rw [hb]; rfl
          subst e1
          simp!
          exact ⟨bs, e2, q⟩
        · cases b with
          | true => exact absurd rfl e
          | false => rfl
      rintro _ H' ⟨hb, rfl, e⟩
      rw [e]
      simp! [hD2]
      refine fin (fun q => q.all id) _ (fun v bs H' Q' ⟨p, e1, e2⟩ q => ?_) fun q => by rw [hb]; rfl
      subst e1
      simp!
      exact ⟨bs, e2, q⟩
end
def Bdm (m n : Nat) : Prop := n ≤ 98 ∧ ∀ j, j ≤ n + 1 → m ^ j ≤ 1000000
def TTb (H : Hp) (m : Nat) (F : List (List Str)) (S : List Sm) (us : List V) : Prop := us.length = S.length ∧ ∀ i, i < S.length → ∃ p, us[i]? = some (.ref p) ∧ H p = some (.lst (bV (tab m (F.getD i []) (sAt S i))))
structure RTi (P : Program) (w : World) (H0 H : Hp) (c o nm tr x C dx pk : Addr) (z : Str) (n : Nat) (F : List (List Str)) (S : List Sm) (r : RS) (l zs : List Str) : Prop where
  ch : CH P w H0 H x C dx pk z.length n
  hc : H c = some (.tup (rowV r))
  ho : FzT H o (l.map V.str)
  hn : ∃ ys, H nm = some (.lst ys) ∧ NT H ys F
  ht : ∃ us, H tr = some (.lst us) ∧ TTb H z.length F S us
theorem CH.pkE {P : Program} {w : World} {H0 H : Hp} {x C dx pk : Addr} {m n : Nat} (c : CH P w H0 H x C dx pk m n) : ∃ φ, H pk = some (.ext φ) := let ⟨_, dp, _⟩ := c.dp; dp.ext
theorem RTi.keep {P : Program} {w : World} {H0 H H' : Hp} {c o nm tr x C dx pk : Addr} {z : Str} {n n' : Nat} {F : List (List Str)} {S : List Sm} {r : RS} {l zs : List Str} (I : RTi P w H0 H c o nm tr x C dx pk z n F S r l zs) (k : Kp [pk] H H') (ch : CH P w H0 H' x C dx pk z.length n') : RTi P w H0 H' c o nm tr x C dx pk z n' F S r l zs := by
  obtain ⟨φ, e⟩ := I.ch.pkE
  obtain ⟨ys, h1, h2⟩ := I.hn
  obtain ⟨us, h3, h4⟩ := I.ht
  have hS : ∀ b ∈ [pk], ∃ o, H b = some o ∧ ∀ ob u, o ≠ .frz ob u := fun b hb => by rw [List.mem_singleton.mp hb]; exact ⟨_, e, fun _ _ z => by cases z⟩
  have nl : ∀ {b : Addr} {xs : List V}, H b = some (.lst xs) → b ∉ [pk] := fun e' z => by rw [List.mem_singleton.mp z, e] at e'; cases e'
  refine ⟨ch, k.tup _ _ I.hc, I.ho.stay k hS, ⟨ys, k.old _ _ h1 (nl h1), h2.kp k hS⟩, ⟨us, k.old _ _ h3 (nl h3), h4.1, fun i hi => ?_⟩⟩
  obtain ⟨p, e1, e2⟩ := h4.2 i hi
  exact ⟨p, e1, k.old _ _ e2 (nl e2)⟩
theorem RTi.keep0 {P : Program} {w : World} {H0 H H' : Hp} {c o nm tr x C dx pk : Addr} {z : Str} {n : Nat} {F : List (List Str)} {S : List Sm} {r : RS} {l zs : List Str} (I : RTi P w H0 H c o nm tr x C dx pk z n F S r l zs) (k : Kp [] H H') : RTi P w H0 H' c o nm tr x C dx pk z n F S r l zs := I.keep (k.mono (by simp)) (I.ch.keep0 k)
def spRT (P : Program) (w : World) (C : Addr) : Sp := fun vs H Q _ => ∃ (c o nm tr x dx pk : Addr) (z : Str) (n : Nat) (H0 : Hp) (F : List (List Str)) (S : List Sm) (r : RS) (l zs : List Str), vs = [.ref c, .ref o, .ref nm, .ref tr, .str z, .ref x] ∧ RTi P w H0 H c o nm tr x C dx pk z n F S r l zs ∧
  r.ok zs S.length ∧ S.length ≤ F.length ∧ Cn l (fm F r) ∧ (∀ i, i < S.length → Dep (sAt S i) (F.getD i []) ∧ (∃ raw, Cn (F.getD i []) raw) ∧ Bdm z.length (F.getD i []).length ∧ OkS (F.getD i [])) ∧ OkS zs ∧ OkS l ∧ Bdm z.length l.length ∧ z.length ≤ 1000000 ∧ n + 2 < 1000000 ∧ (∃ o, H0 pk = some o) ∧
  ∀ p H', H p = none → CH P w H0 H' x C dx pk z.length (n + 2) → H' p = some (.lst (bV (tab z.length l (sm z.cps.toList S r)))) → Kp [pk] H H' → Q (.ref p) H'
structure TRT (K : PySem.W.Frag) (mg : Str → Option Value) (C fa fb fw fl : Addr) : Prop where
  n_len : mg "len" = none
  n_zip : mg "zip" = none
  cls : Cls K C
  rc : CK K C
  d_all_of : Meth K C "all_of" fl
  m_ahead_truths : mg "ahead_truths" = some (.ref fa)
  m_bound_truths : mg "bound_truths" = some (.ref fb)
  m_widened : mg "widened" = some (.ref fw)
theorem ixL {H : Hp} {q : Addr} {fs : List V} {j : Nat} {v : V} {Q : VK} (e : H q = some (.lst fs)) (a : fs[j]? = some v) (k : Q v H) : rIxU (.ref q) (.int (j : Int)) H Q := ⟨fs, by rw [e]; rfl, v, atI_of (by omega) (by simpa using a), k⟩
theorem tab_bd {m : Nat} {l : List Str} {y : Str} {f : Sm} (b : Bool) (hf : Dep f (l ++ [y])) (hy : y ∉ l) : (List.range (m ^ l.length)).map (fun q => bd b (((tab m (l ++ [y]) f).drop (q * m)).take m)) = tab m l fun ρ => bd b ((List.range m).map fun p => f (up ρ y p)) := by
  refine List.ext_getElem (by rw [tab_len]; simp) fun i h1 h2 => ?_
  have hi : i < (allC m l.length).length := by rw [allC_len]; simpa using h1
  simp only [List.getElem_map, List.getElem_range, tab]
  have := tab_cut (m := m) hf hy (List.getElem?_eq_getElem hi)
  rw [show List.map (fun c => f (asg (l ++ [y]) c)) (allC m (l ++ [y]).length) = tab m (l ++ [y]) f from rfl, this]
theorem sm_qn (t : List Nat) (S : List Sm) (b : Bool) (y : Str) (i : Nat) : sm t S (.qn b y i) = fun ρ => bd b ((List.range t.length).map fun p => sAt S i (up ρ y p)) := by cases b <;> rfl
theorem bV_len (l : List Bool) : (bV l).length = l.length := List.length_map ..
theorem hdX : ∀ t u : Fin 8, hdw t = hdw u → t = u := by decide +kernel
theorem hd_yes {r : RS} (e : hd r = Str.ofString "yes") : r = .yes := by
  have q := hdX _ 0 e
  cases r with
  | yes => rfl
  | bin b => cases b <;> cases q
  | qn b => cases b <;> cases q
  | _ => cases q
theorem hd_not {r : RS} (e : hd r = Str.ofString "not") : ∃ i, r = .no i := by
  have q := hdX _ 3 e
  cases r with
  | no i => exact ⟨i, rfl⟩
  | bin b => cases b <;> cases q
  | qn b => cases b <;> cases q
  | _ => cases q
theorem hd_bin {r : RS} (e0 : hd r ≠ Str.ofString "yes") (e1 : hd r ≠ Str.ofString "is") (e2 : hd r ≠ Str.ofString "ahead") (e3 : hd r ≠ Str.ofString "not") (e4 : inV (.str (hd r)) BN ≠ true) : ∃ b i j, r = .bin b i j := by
  cases r with
  | bin b i j => exact ⟨b, i, j, rfl⟩
  | yes => exact absurd rfl e0
  | is => exact absurd rfl e1
  | ahead => exact absurd rfl e2
  | no => exact absurd rfl e3
  | qn b x i => exact absurd (qn_in b x i) e4
section
variable {P : Program} {w : World} {K : PySem.W.Frag} {mg : Str → Option Value} {base : Heap}
abbrev s_row_truths : Stmt := top 8
theorem sc_row_truths : FnScope ["row", "own", "names", "truths", "text", "choices", "word", "inner", "left", "right"] ["row", "own", "names", "truths", "text", "choices"] (defScope s_row_truths) := ⟨rfl, rfl, rfl, by decide +kernel, rfl, by decide +kernel, by decide +kernel⟩
theorem ok_row_truths {f C fa fb fw fl : Addr} {fd fda fdb fdw fdl : FuncData} (F0 : Fun K "row_truths" "row_truths" s_row_truths f fd) (T : TRT K mg C fa fb fw fl) (F_ahead_truths : Fun K "ahead_truths" "ahead_truths" s_ahead_truths fa fda) (b_ahead_truths : Binds K fda ["one", "other", "chosen"] []) (G_ahead_truths : FnOk P w K mg base CX0 1 fa fda ["one", "other", "chosen"] spAh)
    (F_bound_truths : Fun K "bound_truths" "bound_truths" s_bound_truths fb fdb) (b_bound_truths : Binds K fdb ["word", "inner", "groups", "many"] []) (G_bound_truths : FnOk P w K mg base CX0 1 fb fdb ["word", "inner", "groups", "many"] spBd) (F_widened : Fun K "widened" "widened" s_widened fw fdw) (b_widened : Binds K fdw ["truths", "names", "more", "choices"] []) (G_widened : FnOk P w K mg base CX0 4 fw fdw ["truths", "names", "more", "choices"] (spWi P w C))
    (b_all_of : Binds K fdl ["self", "names"] []) (G_all_of : FnOk P w K mg base CX0 2 fl fdl ["self", "names"] (spAll C)) : FnOk P w K mg base CX0 5 f fd ["row", "own", "names", "truths", "text", "choices"] (spRT P w C) := by
  refine F0.ok sc_row_truths (fun vs H Q E h => ?_) (fun cdv A outer s H vs Q E hr h => ?_)
  · obtain ⟨c, o, nm, tr, x, dx, pk, z, n, H0, F, S, r, l, zs, rfl, _⟩ := h
    rfl
  · obtain ⟨c, o, nm, tr, x, dx, pk, z, n, H0, F, S, r, l, zs, rfl, I, ok, hSF, cn, hS, okz, okl, bl, hz, hn, h0, k⟩ := h
    have hu := hr.units
    have hsz : sizeLine = 16777216 := PySem.sizeLine_eq
    have hzl : z.cps.toList.length = z.length := by simp [Str.length]
    obtain ⟨σ0, hσ⟩ : ∃ σ0 : L2.St, σ0 = [some (.ref c), some (.ref o), some (.ref nm), some (.ref tr), some (.str z), some (.ref x), some (.str (hd r)), none, none, none] := ⟨_, rfl⟩
    refine exQ (qpss_cons (qps_set (i := 6) sc_row_truths.nd rfl (by first | exact Or.inl rfl | exact Or.inr rfl) (qpe_ix ix_U (qpv 0) qpe_int (fun _ _ => rfl)))
    (qpss_mid (qps_if (qpt_cmpR (op_eqU hu) (qpv 6) qpe_str (nomark _)) (qpss_one (qps_ret (qpe_lst (qpa_cons qpe_bl qpa_nil)))) qpss_nil)
    (qpss_mid (qps_if (qpt_cmpR (op_eqU hu) (qpv 6) qpe_str (nomark _)) (qpss_one (qps_ret (qpe_comp rfl (compOk_of (sc := defScope s_row_truths) (N := ["row", "own", "names", "truths", "text", "choices", "word", "inner", "left", "right"]) (Nc := ["sign", "row"]) (js := [none, some 0]) (by decide +kernel)) (qpi_any (K := K) (qpv 4) rfl) (fun _ _ _ _ => (qpg_name (i := 0) (show List.Nodup [("sign" : Str), ("row" : Str)] from by decide +kernel) rfl (by first | exact Or.inl rfl | exact Or.inr rfl))) (fun _ _ _ _ => (qpe_cmpR (op_eqU hu) (qpv 0) (qpe_ix ix_U (qpv 1) qpe_int (fun _ _ => rfl)) (nomark _)))))) qpss_nil)
    (qpss_mid (qps_if (qpt_cmpR (op_eqU hu) (qpv 6) qpe_str (nomark _)) (qpss_one (qps_ret (qpe_call G_ahead_truths (hr.mono (by decide)) rfl T.m_ahead_truths F_ahead_truths.kp b_ahead_truths .nil pass0 (qpa_cons (qpe_bmTu PySem.F.slot_tuple_index PySem.F.type_tuple_index (mt_tindexD hu) (qpv 1) (qpa_cons (qpe_ix ix_U (qpv 0) qpe_int (fun _ _ => rfl)) qpa_nil)) (qpa_cons (qpe_bmTu PySem.F.slot_tuple_index PySem.F.type_tuple_index (mt_tindexD hu) (qpv 1) (qpa_cons (qpe_ix ix_U (qpv 0) qpe_int (fun _ _ => rfl)) qpa_nil)) (qpa_cons (qpe_meth (qpv 5) T.cls T.d_all_of G_all_of (hr.mono (by decide)) b_all_of .nil pass0 (qpa_cons (qpe_callB call_len_seq (by rfl) T.n_len bt_len (qpa_cons (qpv 1) qpa_nil)) qpa_nil)) qpa_nil)))))) qpss_nil)
    (qpss_mid (qps_if (qpt_cmpR (op_eqU hu) (qpv 6) qpe_str (nomark _)) (qpss_one (qps_ret (qpe_comp rfl (compOk_of (sc := defScope s_row_truths) (N := ["row", "own", "names", "truths", "text", "choices", "word", "inner", "left", "right"]) (Nc := ["truth"]) (js := [none]) (by decide +kernel)) (qpi_any (K := K) (qpe_ix ix_U (qpv 3) (qpe_ix ix_U (qpv 0) qpe_int (fun _ _ => rfl)) (fun _ _ => rfl)) rfl) (fun _ _ _ _ => (qpg_name (i := 0) (show List.Nodup [("truth" : Str)] from by decide +kernel) rfl (by first | exact Or.inl rfl | exact Or.inr rfl))) (fun _ _ _ _ => (qpe_not (qpv 0)))))) qpss_nil)
    (qpss_mid (qps_if (qpt_cmpR (op_inU (K := K) rfl) (qpv 6) (qpe_tup (qpa_cons qpe_str (qpa_cons qpe_str qpa_nil))) (by with_unfolding_all rfl)) (qpss_cons (qps_set (i := 7) sc_row_truths.nd rfl (by first | exact Or.inl rfl | exact Or.inr rfl) (qpe_call G_widened (hr.mono (by decide)) rfl T.m_widened F_widened.kp b_widened .nil pass0 (qpa_cons (qpe_ix ix_U (qpv 3) (qpe_ix ix_U (qpv 0) qpe_int (fun _ _ => rfl)) (fun _ _ => rfl)) (qpa_cons (qpe_ix ix_U (qpv 2) (qpe_ix ix_U (qpv 0) qpe_int (fun _ _ => rfl)) (fun _ _ => rfl)) (qpa_cons (qpe_op op_addF (qpv 1) (qpe_tupF (qpa_cons (qpe_ix ix_U (qpv 0) qpe_int (fun _ _ => rfl)) qpa_nil))) (qpa_cons (qpv 5) qpa_nil))))))
    (qpss_one (qps_ret (qpe_call G_bound_truths (hr.mono (by decide)) rfl T.m_bound_truths F_bound_truths.kp b_bound_truths .nil pass0 (qpa_cons (qpv 6) (qpa_cons (qpv 7) (qpa_cons (qpe_callB call_lenU (by rfl) T.n_len bt_len (qpa_cons (qpe_meth (qpv 5) T.cls T.d_all_of G_all_of (hr.mono (by decide)) b_all_of .nil pass0 (qpa_cons (qpe_callB call_len_seq (by rfl) T.n_len bt_len (qpa_cons (qpv 1) qpa_nil)) qpa_nil)) qpa_nil)) (qpa_cons (qpe_fldK (K := K) rfl (qpv 5)) qpa_nil)))))))) qpss_nil)
    (qpss_cons (qps_set (i := 8) sc_row_truths.nd rfl (by first | exact Or.inl rfl | exact Or.inr rfl) (qpe_call G_widened (hr.mono (by decide)) rfl T.m_widened F_widened.kp b_widened .nil pass0 (qpa_cons (qpe_ix ix_U (qpv 3) (qpe_ix ix_U (qpv 0) qpe_int (fun _ _ => rfl)) (fun _ _ => rfl)) (qpa_cons (qpe_ix ix_U (qpv 2) (qpe_ix ix_U (qpv 0) qpe_int (fun _ _ => rfl)) (fun _ _ => rfl)) (qpa_cons (qpv 1) (qpa_cons (qpv 5) qpa_nil))))))
    (qpss_cons (qps_set (i := 9) sc_row_truths.nd rfl (by first | exact Or.inl rfl | exact Or.inr rfl) (qpe_call G_widened (hr.mono (by decide)) rfl T.m_widened F_widened.kp b_widened .nil pass0 (qpa_cons (qpe_ix ix_U (qpv 3) (qpe_ix ix_U (qpv 0) qpe_int (fun _ _ => rfl)) (fun _ _ => rfl)) (qpa_cons (qpe_ix ix_U (qpv 2) (qpe_ix ix_U (qpv 0) qpe_int (fun _ _ => rfl)) (fun _ _ => rfl)) (qpa_cons (qpv 1) (qpa_cons (qpv 5) qpa_nil))))))
    (qpss_mid (qps_if (qpt_cmpR (op_eqU hu) (qpv 6) qpe_str (nomark _)) (qpss_one (qps_ret (qpe_comp rfl (compOk_of (sc := defScope s_row_truths) (N := ["row", "own", "names", "truths", "text", "choices", "word", "inner", "left", "right"]) (Nc := ["one", "other"]) (js := [none, none]) (by decide +kernel)) (qpi_zipL rfl T.n_zip (qpa_cons (qpv 8) (qpa_cons (qpv 9) qpa_nil))) (fun _ _ _ _ => (qpg_tup (n := 2) rfl (qpgs_cons (qpg_name (i := 0) (show List.Nodup [("one" : Str), ("other" : Str)] from by decide +kernel) rfl (by first | exact Or.inl rfl | exact Or.inr rfl)) (qpgs_cons (qpg_name (i := 1) (show List.Nodup [("one" : Str), ("other" : Str)] from by decide +kernel) rfl (by first | exact Or.inl rfl | exact Or.inr rfl)) qpgs_nil)) (K := K) rfl)) (fun _ _ _ _ => (qpe_and (qpv 0) (qpe_one (qpv 1))))))) qpss_nil)
    (qpss_one (qps_ret (qpe_comp rfl (compOk_of (sc := defScope s_row_truths) (N := ["row", "own", "names", "truths", "text", "choices", "word", "inner", "left", "right"]) (Nc := ["one", "other"]) (js := [none, none]) (by decide +kernel)) (qpi_zipL rfl T.n_zip (qpa_cons (qpv 8) (qpa_cons (qpv 9) qpa_nil))) (fun _ _ _ _ => (qpg_tup (n := 2) rfl (qpgs_cons (qpg_name (i := 0) (show List.Nodup [("one" : Str), ("other" : Str)] from by decide +kernel) rfl (by first | exact Or.inl rfl | exact Or.inr rfl)) (qpgs_cons (qpg_name (i := 1) (show List.Nodup [("one" : Str), ("other" : Str)] from by decide +kernel) rfl (by first | exact Or.inl rfl | exact Or.inr rfl)) qpgs_nil)) (K := K) rfl)) (fun _ _ _ _ => (qpe_or (qpv 0) (qpe_one (qpv 1)))))))))))))))) ?_
    simp! [I.hc]
    refine ⟨_, hd_at r, ?_⟩
    rw [← hσ]
    refine ⟨fun σ' H' => σ' = σ0 ∧ H' = H ∧ hd r ≠ Str.ofString "yes", ?_, ?_⟩
    · rw [hσ]
      simp!
      refine ite2 (fun e => ?_) (fun e => e)
      have e0 := hd_yes e
      subst e0
      refine ⟨by omega, fun p hp => ?_⟩
      have k1 : Kp [] H (upd H p (.lst [.bl true])) := (Kp.refl [] H).new hp
      refine k p _ hp ((I.ch.keep0 k1).le (by omega)) ?_ (k1.mono (by simp))
      rw [upd_same, ← hzl, tab_yes cn]; rfl
    rintro σ' H' ⟨e1, e2, n0⟩
    rw [e1, e2]
    refine ⟨fun σ' H' => σ' = σ0 ∧ H' = H ∧ hd r ≠ Str.ofString "is", ?_, ?_⟩
    · rw [hσ]
      simp!
      refine ite2 (fun e => ?_) (fun e => e)
      obtain ⟨y, a, rfl⟩ := hd_is e
      intro D hD
      refine comp_str (fun cp => .bl (decide ((⟨#[cp]⟩ : Str) = a))) (by omega) (fun cp _ l' Q' q => ?_) fun v => ?_
      · have hc2 : upd H D (.lst l') c = some (.tup (rowV (.is y a))) := by rw [upd_ne (ne_of_none I.hc hD)]; exact I.hc
        simp! [hc2]
        exact ⟨_, atI_of (by decide) rfl, q⟩
      · have k1 : Kp [] H (upd H D (.lst (z.cps.toList.map fun cp => .bl (decide ((⟨#[cp]⟩ : Str) = a))))) := (Kp.refl [] H).new hD
        refine k D _ hD ((I.ch.keep0 k1).le (by omega)) ?_ (k1.mono (by simp))
        rw [upd_same, ← hzl, tab_is cn, bV, List.map_map]; rfl
    rintro σ' H' ⟨e1, e2, n1⟩
    rw [e1, e2]
    refine ⟨fun σ' H' => σ' = σ0 ∧ H' = H ∧ hd r ≠ Str.ofString "ahead", ?_, ?_⟩
    · rw [hσ]
      simp! [I.hc]
      refine ite2 (fun e => ?_) (fun e => e)
      obtain ⟨y, a, rfl⟩ := hd_ahead e
      have my : y ∈ l := (cn.me y).mpr (by simp [fm])
      have ma : a ∈ l := (cn.me a).mpr (by simp [fm])
      refine ⟨⟨o, _, rfl, I.ho⟩, _, atI_of (by decide) rfl, index_strs I.ho okl my ⟨⟨o, _, rfl, I.ho⟩, _, by rw [I.hc]; rfl, _, atI_of (by decide) rfl, index_strs I.ho okl ma ⟨dx, _, I.ch.hx, rfl, l.map V.str, .inr I.ho.sq, ?_⟩⟩⟩
      rw [List.length_map]
      refine ⟨x, dx, pk, z.length, l.length, rfl, I.ch.hx, fun j hj => bl.2 j (by omega), hz, by have := bl.1; omega, fun q us H1 hq hq1 cl k1 => ?_⟩
      refine ⟨q, us, allC z.length l.length, l.idxOf y, l.idxOf a, l.length, rfl, hq1, cl, fun c hc => (allC_mem hc).1, List.idxOf_lt_length_of_mem my, List.idxOf_lt_length_of_mem ma, by rw [allC_len]; exact bl.2 _ (by omega), fun p H2 hp hp2 k2 => ?_⟩
      exact k p H2 (k1.free hp) (((I.ch.keep0 k1).keep0 k2).le (by omega)) hp2 ((k1.trans k2).mono (by simp))
    rintro σ' H' ⟨e1, e2, n2⟩
    rw [e1, e2]
    refine ⟨fun σ' H' => σ' = σ0 ∧ H' = H ∧ hd r ≠ Str.ofString "not", ?_, ?_⟩
    · rw [hσ]
      simp! [I.hc]
      refine ite2 (fun e => ?_) (fun e => e)
      obtain ⟨i, rfl⟩ := hd_not e
      obtain ⟨us, htr, tt⟩ := I.ht
      obtain ⟨p, e1, e2⟩ := tt.2 i ok
      have bi := (hS i ok).2.2.1
      refine ⟨_, atI_of (by decide) rfl, ixL htr e1 ?_⟩
      simp! [e2]
      intro D hD
      refine comp_list (fun v => match v with | .bl q => .bl (!q) | _ => .non) e2 hD (by rw [bV_len, tab_len]; have := bi.2 (F.getD i []).length (by omega); omega) (fun u hu l' Q' q => ?_) fun v => ?_
      · obtain ⟨bb, hb, rfl⟩ := List.mem_map.mp hu
        simp!
        exact q
      · have k1 : Kp [] H (upd H D (.lst ((bV (tab z.length (F.getD i []) (sAt S i))).map fun v => match v with | .bl q => .bl (!q) | _ => .non))) := (Kp.refl [] H).new hD
        refine k D _ hD ((I.ch.keep0 k1).le (by omega)) ?_ (k1.mono (by simp))
        obtain ⟨el, et⟩ := tab_not (t := z.cps.toList) (S := S) cn (hS i ok).2.1
        rw [hzl] at et
        rw [upd_same, et, bV, bV, List.map_map, List.map_map]; rfl
    rintro σ' H' ⟨e1, e2, n3⟩
    rw [e1, e2]
    refine ⟨fun σ' H' => σ' = σ0 ∧ Kp [] H H' ∧ inV (.str (hd r)) BN ≠ true, ?_, ?_⟩
    · rw [hσ]
      simp!
      refine ⟨by omega, fun p hp => rInU.tupS (xs := BN) (SqT.of upd_same) rfl (by decide) ⟨_, rfl, ?_⟩⟩
      rw [show (if false = true then !inV (.str (hd r)) BN else inV (.str (hd r)) BN) = inV (.str (hd r)) BN from rfl]
      have k1 : Kp [] H (upd H p (.tup [V.str (Str.ofString "some"), V.str (Str.ofString "each")])) := (Kp.refl [] H).new hp
      generalize upd H p (.tup [V.str (Str.ofString "some"), V.str (Str.ofString "each")]) = H1 at k1 ⊢
      refine ite2 (fun e => ?_) (fun e => ⟨k1, e⟩)
      obtain ⟨b, y, i, rfl⟩ := hd_in e
      have I1 := I.keep0 k1
      have hi : i < S.length := ok.2
      obtain ⟨us, htr, tt⟩ := I1.ht
      obtain ⟨pt, e1, e2⟩ := tt.2 i hi
      obtain ⟨ys, hnm, nt⟩ := I1.hn
      obtain ⟨q, hq1, hq2⟩ := nt.get (i := i) (by omega)
      have bi := (hS i hi).2.2.1
      have yl : y ∉ l := fun h => by have := (cn.me y).mp h; simp [fm] at this
      have sub : ∀ v ∈ F.getD i [], v ∈ l ++ [y] := fun v hv => by
        by_cases ev : v = y
        · rw [ev]; simp
        · exact List.mem_append_left _ ((cn.me v).mpr (List.mem_filter.mpr ⟨hv, by simp [ev]⟩))
      refine ⟨_, by rw [I1.hc]; rfl, _, atI_of (by decide) rfl, ixL htr e1 ⟨_, by rw [I1.hc]; rfl, _, atI_of (by decide) rfl, ixL hnm hq1 ⟨_, by rw [I1.hc]; rfl, _, atI_of (by decide) rfl, by omega, fun p1 H2 hp1 f1 k2 => ?_⟩⟩⟩
      have I2 := I1.keep0 k2
      refine ⟨o, p1, l.map V.str, [.str y], rfl, rfl, I2.ho, f1, by have := bl.1; simp; omega, fun p2 H3 k3 f3 => ?_⟩
      have I3 := I2.keep0 k3
      have f3' : FzT H3 p2 ((l ++ [y]).map V.str) := by simpa using f3
      have k13 := k2.trans k3
      refine ⟨x, dx, pk, pt, q, p2, z.length, n, H0, F.getD i [], l ++ [y], sAt S i, rfl, I3.ch, k13.old _ _ e2 List.not_mem_nil, hq2.kp0 k13, f3', sub, fun v hv => ?_, (hS i hi).1, by have := bi.1; omega, fun j hj => ?_, hz, by have := bl.1; simp; omega, by omega, h0, fun p4 H4 ch4 hp4 k4 => ?_⟩
      · rcases List.mem_append.mp hv with h | h
        · exact okl v h
        · rw [List.mem_singleton.mp h]; exact okz y ok.1
      · rw [List.length_append] at hj
        by_cases hj2 : j ≤ l.length + 1
        · exact bl.2 j hj2
        · rw [List.length_singleton] at hj
          exact bi.2 j (by omega)
      refine ⟨dx, _, ch4.hx, rfl, l.map V.str, .inr (I3.keep k4 ch4).ho.sq, ?_⟩
      rw [List.length_map]
      refine ⟨x, dx, pk, z.length, l.length, rfl, ch4.hx, fun j hj => bl.2 j (by omega), hz, by have := bl.1; omega, fun q5 us5 H5 hq5 hq5' cl5 k5 => ?_⟩
      simp! [hq5']
      have ch5 := ch4.keep0 k5
      have k15 : Kp [pk] H H5 := (((k1.trans k13).mono (by simp)).trans k4).trans (k5.mono (by simp))
      have hp5 := k5.old _ _ hp4 List.not_mem_nil
      have ul : us5.length = z.length ^ l.length := (Paired.length cl5).trans (allC_len _ _)
      have b0 := bl.2 l.length (by omega)
      have b1 := bl.2 (l.length + 1) (by omega)
      rw [Nat.pow_succ] at b1
      refine fld0 rfl ch5.hx T.rc.cls T.rc.many rfl ⟨p4, b, tab z.length (l ++ [y]) (sAt S i), us5.length, z.length, by rw [show hd (.qn b y i) = qw b by cases b <;> rfl], hp5, ?_, by omega, hz, by rw [ul]; exact b1, fun p6 H6 hp6 e6 k6 => ?_⟩
      · rw [tab_len, List.length_append, ul, ← Nat.pow_succ]; rfl
      · refine k p6 H6 (k15.free hp6) ((ch5.keep0 k6).le (by omega)) ?_ (k15.trans (k6.mono (by simp)))
        rw [e6, ul, tab_bd b ((hS i hi).1.mono sub) yl, sm_qn, hzl]
    rintro σ' H1 ⟨e1, k1, n4⟩
    rw [e1, hσ]
    obtain ⟨b, i, j, rfl⟩ := hd_bin n0 n1 n2 n3 n4
    have I1 := I.keep0 k1
    simp! [I1.hc]
    obtain ⟨us, htr, tt⟩ := I1.ht
    obtain ⟨ys, hnm, nt⟩ := I1.hn
    obtain ⟨p1, e1, e2⟩ := tt.2 i ok.1
    obtain ⟨q1, hq1, hq2⟩ := nt.get (i := i) (by have := ok.1; omega)
    have bi := (hS i ok.1).2.2.1
    have bj := (hS j ok.2).2.2.1
    have bnd : ∀ {k : Nat}, Bdm z.length (F.getD k []).length → ∀ u, u ≤ max l.length (F.getD k []).length → z.length ^ u ≤ 1000000 := fun hb u hu' => by
      by_cases h : u ≤ l.length + 1
      · exact bl.2 u h
      · exact hb.2 u (by omega)
    refine ⟨_, atI_of (by decide) rfl, ixL htr e1 ⟨_, by rw [I1.hc]; rfl, _, atI_of (by decide) rfl, ixL hnm hq1 ?_⟩⟩
    refine ⟨x, dx, pk, p1, q1, o, z.length, n, H0, F.getD i [], l, sAt S i, rfl, I1.ch, e2, hq2, I1.ho, fun v hv => (cn.me v).mpr (List.mem_append_left _ hv), okl, (hS i ok.1).1, by have := bi.1; omega, bnd bi, hz, by have := bl.1; omega, by omega, h0, fun p2 H2 ch2 hp2 k2 => ?_⟩
    have I2 := I1.keep k2 ch2
    obtain ⟨us', htr', tt'⟩ := I2.ht
    obtain ⟨ys', hnm', nt'⟩ := I2.hn
    obtain ⟨p3, e3, e4⟩ := tt'.2 j ok.2
    obtain ⟨q3, hq3, hq4⟩ := nt'.get (i := j) (by have := ok.2; omega)
    refine ⟨_, by rw [I2.hc]; rfl, _, atI_of (by decide) rfl, ixL htr' e3 ⟨_, by rw [I2.hc]; rfl, _, atI_of (by decide) rfl, ixL hnm' hq3 ?_⟩⟩
    refine ⟨x, dx, pk, p3, q3, o, z.length, n + 1, H0, F.getD j [], l, sAt S j, rfl, ch2, e4, hq4, I2.ho, fun v hv => (cn.me v).mpr (List.mem_append_right _ hv), okl, (hS j ok.2).1, by have := bj.1; omega, bnd bj, hz, by have := bl.1; omega, by omega, h0, fun p4 H4 ch4 hp4 k4 => ?_⟩
    have hp24 : H4 p2 = some (.lst (bV (tab z.length l (sAt S i)))) := k4.old _ _ hp2 fun z' => by
      obtain ⟨φ, e⟩ := ch2.pkE
      rw [List.mem_singleton.mp z', e] at hp2; cases hp2
    have k14 : Kp [pk] H H4 := ((k1.mono (by simp)).trans k2).trans k4
    have tl : ∀ f : Sm, (bV (tab z.length l f)).length = z.length ^ l.length := fun f => by rw [bV_len, tab_len]
    have hl6 := bl.2 l.length (by omega)
    have fin : ∀ (op : Bool → Bool → Bool) (te : TE), (∀ (u v : Bool) (H' : Hp) (Q' : VK), Q' (.bl (op u v)) H' → te [some (.bl u), some (.bl v)] H' Q') → (∀ ρ, sm z.cps.toList S (.bin b i j) ρ = op (sAt S i ρ) (sAt S j ρ)) →
        ∀ D, H4 D = none → LoopR (ItZL p2 p4) (gTup K 2 (gCons (gName 0) (gCons (gName 1) gNil))) (tEmit D te) { nx := fun _ H' => Q (.ref D) H', rt := fun _ _ => False } [none, none] (upd H4 D (.lst [])) := by
      intro op te he hop D hD
      refine comp_ZL (fun u v => match u, v with | .bl u, .bl v => .bl (op u v) | _, _ => .non) hp24 hp4 (by rw [tl, tl]) hD (by rw [tl]; omega) (fun i' u v hu' hv' H' l' Q' hl' kD q => ?_) (fun v v' H' hD' kD => ?_) (fun T σ H' x' y' Q' hT ⟨v, v', e⟩ q => by subst e; exact ⟨T, [x', y'], rfl, SqT.of hT, rfl, ⟨_, _, rfl, ⟨_, _, rfl, rfl, q⟩⟩⟩)
      · obtain ⟨u1, _, rfl⟩ := List.mem_map.mp (List.mem_of_getElem? hu')
        obtain ⟨v1, _, rfl⟩ := List.mem_map.mp (List.mem_of_getElem? hv')
        exact he u1 v1 H' _ (q H' hl' kD)
      · have kN : Kp [] H4 H' := kp_drop ((Kp.refl [] H4).new hD) kD fun b' hb' => by rw [List.mem_singleton.mp hb']; exact hD
        refine k D H' (k14.free hD) ((ch4.keep0 kN).le (by omega)) ?_ (k14.trans (kN.mono (by simp)))
        rw [hD', show sm z.cps.toList S (.bin b i j) = fun ρ => op (sAt S i ρ) (sAt S j ρ) from funext hop, ← tab_zip]
        refine congrArg (fun w => some (HO.lst w)) ?_
        unfold bV
        rw [List.zipWith_map, List.map_zipWith]
    refine ⟨fun σ' H' => b = false ∧ σ' = [some (.ref c), some (.ref o), some (.ref nm), some (.ref tr), some (.str z), some (.ref x), some (.str (hd (.bin b i j))), none, some (.ref p2), some (.ref p4)] ∧ H' = H4, ?_, ?_⟩
    · simp!
      refine ite2 (fun e => ?_) (fun e => ?_)
      · have hb : b = true := by cases b with | true => rfl | false => exact absurd (hdX 5 4 e) (by decide)
        subst hb
        refine ⟨p2, p4, ⟨rfl, rfl⟩, _, hp24, _, hp4, fin (fun u v => u && v) _ (fun u v H' Q' q => ?_) fun ρ => rfl⟩
        refine ⟨_, rfl, u, rfl, ite2 (fun hu' => ⟨_, rfl, ?_⟩) (fun hu' => ?_)⟩
        · rw [hu'] at q; exact q
        · rw [Bool.eq_false_iff.mpr hu'] at q; exact q
      · cases b with
        | true => exact absurd rfl e
        | false => rfl
    rintro _ H' ⟨hb, rfl, e⟩
    rw [e]
    subst hb
    simp!
    refine ⟨p2, p4, ⟨rfl, rfl⟩, _, hp24, _, hp4, fin (fun u v => u || v) _ (fun u v H' Q' q => ?_) fun ρ => rfl⟩
    refine ⟨_, rfl, u, rfl, ite2 (fun hu' => ?_) (fun hu' => ⟨_, rfl, ?_⟩)⟩
    · rw [hu'] at q; exact q
    · rw [Bool.eq_false_iff.mpr hu'] at q; exact q
end
def spHo : Sp := fun vs H Q _ => ∃ (a pd : Addr) (z : Str) (us : List V) (rs : List RS) (zs : List Str) (kvs : List (L2.Key × V)) (ρ : Str → Nat), vs = [.ref a, .str z, .ref pd] ∧ H a = some (.tup us) ∧ RowsAt H us rs ∧ okR zs rs ∧ zs.length ≤ 26 ∧ 1 ≤ rs.length ∧ rs.length ≤ 100 ∧ OkS zs ∧ z.length ≤ 1000000 ∧ H pd = some (.dK kvs) ∧
  (∀ F, CF zs F rs → (∀ k, k < rs.length → Bdm z.length (F.getD k []).length) ∧ ∀ y ∈ F.getD (rs.length - 1) [], valV kvs (.inr y) = some (.int (ρ y : Nat)) ∧ ρ y < z.length) ∧
  ∀ H', Kp [] H H' → Q (.bl (sAt (sms z.cps.toList rs) (rs.length - 1) ρ)) H'
structure THo (K : PySem.W.Frag) (mg : Str → Option Value) (C fi fr ft fu : Addr) : Prop where
  n_len : mg "len" = none
  n_zip : mg "zip" = none
  cls : Cls K C
  rc : CK K C
  mkR : Mk K C fi
  m_Choices : mg "Choices" = some (.ref C)
  d_number_of : Meth K C "number_of" fu
  m_names_of_rows : mg "names_of_rows" = some (.ref fr)
  m_row_truths : mg "row_truths" = some (.ref ft)
section
variable {P : Program} {w : World} {K : PySem.W.Frag} {mg : Str → Option Value} {base : Heap}
abbrev s_holds : Stmt := top 7
theorem sc_holds : FnScope ["saying", "text", "places", "choices", "names", "truths", "row", "own"] ["saying", "text", "places"] (defScope s_holds) := ⟨rfl, rfl, rfl, by decide +kernel, rfl, by decide +kernel, by decide +kernel⟩
theorem ok_holds {f C fi fr ft fu : Addr} {fd fdi fdr fdt fdu : FuncData} (F0 : Fun K "holds" "holds" s_holds f fd) (T : THo K mg C fi fr ft fu) (b_init : Binds K fdi ["self", "many"] []) (G_init : FnOk P w K mg base CX0 1 fi fdi ["self", "many"] (spInit P w C))
    (F_names_of_rows : Fun K "names_of_rows" "names_of_rows" s_names_of_rows fr fdr) (b_names_of_rows : Binds K fdr ["saying"] []) (G_names_of_rows : FnOk P w K mg base CX0 3 fr fdr ["saying"] spNRS)
    (F_row_truths : Fun K "row_truths" "row_truths" s_row_truths ft fdt) (b_row_truths : Binds K fdt ["row", "own", "names", "truths", "text", "choices"] []) (G_row_truths : FnOk P w K mg base CX0 5 ft fdt ["row", "own", "names", "truths", "text", "choices"] (spRT P w C))
    (b_number_of : Binds K fdu ["self", "choice"] []) (G_number_of : FnOk P w K mg base CX0 1 fu fdu ["self", "choice"] (spNum C)) : FnOk P w K mg base CX0 6 f fd ["saying", "text", "places"] spHo := by
  refine F0.ok sc_holds (fun vs H Q E h => ?_) (fun cdv A outer s H vs Q E hr h => ?_)
  · obtain ⟨a, pd, z, us, rs, zs, kvs, ρ, rfl, _⟩ := h
    rfl
  · obtain ⟨a, pd, z, us, rs, zs, kvs, ρ, rfl, ha, ra, ok, z26, n1, n9, okz, hz, hpd, hF, k⟩ := h
    have hu := hr.units
    have hu1 : (A.deeper (PyProof.Rows.envOfC (Str.ofString "holds") (defScope s_holds) s.heap.objs.size f cdv)).units + 1 < cLine := by omega
    have hsz : sizeLine = 16777216 := PySem.sizeLine_eq
    have ul : us.length = rs.length := Paired.length ra
    refine exQ (qpss_cons (qps_set (i := 3) sc_holds.nd rfl (by first | exact Or.inl rfl | exact Or.inr rfl) (qpe_make T.mkR G_init (hr.mono (by decide)) rfl T.m_Choices b_init .nil pass0 (qpa_cons (qpe_callB call_lenU (by rfl) T.n_len bt_len (qpa_cons (qpv 1) qpa_nil)) qpa_nil)))
    (qpss_cons (qps_set (i := 4) sc_holds.nd rfl (by first | exact Or.inl rfl | exact Or.inr rfl) (qpe_call G_names_of_rows (hr.mono (by decide)) rfl T.m_names_of_rows F_names_of_rows.kp b_names_of_rows .nil pass0 (qpa_cons (qpv 0) qpa_nil)))
    (qpss_cons (qps_set (i := 5) sc_holds.nd rfl (by first | exact Or.inl rfl | exact Or.inr rfl) (qpe_lst qpa_nil))
    (qpss_cons (qps_for PassesOwn.never rfl (qpi_zipM (K := K) rfl rfl T.n_zip (qpa_cons (qpv 0) (qpa_cons (qpv 4) qpa_nil))) (qpg_tup (n := 2) rfl (qpgs_cons (qpg_name (i := 6) sc_holds.nd rfl (by first | exact Or.inl rfl | exact Or.inr rfl)) (qpgs_cons (qpg_name (i := 7) sc_holds.nd rfl (by first | exact Or.inl rfl | exact Or.inr rfl)) qpgs_nil)) (K := K) rfl) (qpss_one (qps_expr (qpe_bmL PySem.F.slot_list_append PySem.F.type_list_append mt_appendU (qpv 5) (qpa_cons (qpe_call G_row_truths (hr.mono (by decide)) rfl T.m_row_truths F_row_truths.kp b_row_truths .nil pass0 (qpa_cons (qpv 6) (qpa_cons (qpv 7) (qpa_cons (qpv 4) (qpa_cons (qpv 5) (qpa_cons (qpv 1) (qpa_cons (qpv 3) qpa_nil))))))) qpa_nil) mono_var))))
    (qpss_one (qps_ret (qpe_ix ix_U (qpe_ix ix_U (qpv 5) (qpe_un un_neg qpe_int) (fun _ _ => rfl)) (qpe_meth (qpv 3) T.cls T.d_number_of G_number_of (hr.mono (by decide)) b_number_of .nil pass0 (qpa_cons (qpe_comp rfl (compOk_of (sc := defScope s_holds) (N := ["saying", "text", "places", "choices", "names", "truths", "row", "own"]) (Nc := ["name", "places"]) (js := [none, some 2]) (by decide +kernel)) (qpi_tup (K := K) (qpe_ix ix_U (qpv 4) (qpe_un un_neg qpe_int) (fun _ _ => rfl)) rfl) (fun _ _ _ _ => (qpg_name (i := 0) (show List.Nodup [("name" : Str), ("places" : Str)] from by decide +kernel) rfl (by first | exact Or.inl rfl | exact Or.inr rfl))) (fun _ _ _ _ => (qpe_dget hu1 (qpv 1) (qpv 0) (fun _ _ => rfl)))) qpa_nil)) (fun _ _ => rfl)))))))) ?_
    simp!
    refine ⟨by omega, fun x dx hx hdx ne => ?_⟩
    have k1 : Kp [] H (upd (upd H dx (.own x)) x (.ins C dx [])) := ((Kp.refl [] H).new hdx).new (by rw [upd_ne ne.symm]; exact hx)
    have ex : upd (upd H dx (.own x)) x (.ins C dx []) x = _ := upd_same
    generalize upd (upd H dx (.own x)) x (.ins C dx []) = H1 at k1 ex ⊢
    refine ⟨x, dx, z.length, rfl, ex, fun H2 pk hx2 dp2 hpk k2 => ⟨rfl, ?_⟩⟩
    have k12 : Kp [] H H2 := kp_drop k1 k2 fun b hb => by rw [List.mem_singleton.mp hb]; exact hx
    refine ⟨a, us, rs, zs, rfl, k12.tup _ _ ha, ra.kp k12, ok, z26, n9, fun nm ys F H3 k3 hnm nt cf => ⟨by omega, fun tr htr => ?_⟩⟩
    have k13 := k12.trans k3
    obtain ⟨H4, e4⟩ : ∃ H4, H4 = upd H3 tr (.lst []) := ⟨_, rfl⟩
    have k34 : Kp [] H3 H4 := by rw [e4]; exact (Kp.refl [] H3).new htr
    have etr : H4 tr = some (.lst []) := by rw [e4, upd_same]
    rw [← e4]
    have k04 := k13.trans k34
    have k24 := k3.trans k34
    have hx4 := k24.old _ _ hx2 List.not_mem_nil
    have dp4 := dp2.keep k24 (by simp) (by simp)
    have ch4 : CH P w H4 H4 x C dx pk z.length 0 := ⟨hx4, ⟨_, dp4, fun _ _ _ e => by cases e⟩, fun a o e => ⟨o, e⟩⟩
    have nt4 := nt.kp0 k34
    have hnm4 := k34.old _ _ hnm List.not_mem_nil
    have ra4 := ra.kp k04
    obtain ⟨hB, hρ⟩ := hF F cf
    have fl := cf.len
    have yl : ys.length = rs.length := nt.len.trans fl
    have ha4 := k04.tup _ _ ha
    have dep := fun i hi => sms_dep (t := z.cps.toList) (rs := rs) ok cf i hi
    obtain ⟨φ4, epk⟩ := ch4.pkE
    have npt : pk ≠ tr := fun e => by rw [e, etr] at epk; cases epk
    have nxt : x ≠ tr := fun e => by rw [e, etr] at hx4; cases hx4
    have nxp : x ≠ pk := fun e => by rw [e, epk] at hx4; cases hx4
    refine ⟨a, nm, ⟨rfl, rfl⟩, us, SqT.of ha4, ys, hnm4, ?_⟩
    have nnt : nm ≠ tr := ne_of_none hnm htr
    have nnp : nm ≠ pk := fun e => by rw [e, epk] at hnm4; cases hnm4
    have hS4 : ∀ b ∈ [pk, tr], ∃ o, H4 b = some o ∧ ∀ ob u, o ≠ .frz ob u := fun b hb => by
      simp only [List.mem_cons, List.not_mem_nil, or_false] at hb
      rcases hb with e | e
      · rw [e]; exact ⟨_, epk, fun _ _ z => by cases z⟩
      · rw [e]; exact ⟨_, etr, fun _ _ z => by cases z⟩
    obtain ⟨W, hW⟩ : ∃ W : Nat → L2.St → Hp → Prop, W = fun i σ H' => ∃ (v6 v7 : Option V) (ts : List V), σ = [some (.ref a), some (.str z), some (.ref pd), some (.ref x), some (.ref nm), some (.ref tr), v6, v7] ∧ CH P w H4 H' x C dx pk z.length (2 * i) ∧ H' tr = some (.lst ts) ∧ TTb H' z.length F (sms z.cps.toList (rs.take i)) ts ∧ (∀ (j : Nat) (p : Addr), ts[j]? = some (.ref p) → H4 p = none) ∧ Kp [pk, tr] H4 H' := ⟨_, rfl⟩
    refine loop_ZM (xs := us) (ys := ys) W ?_ (by omega) ?_ ?_ ?_
    · rw [hW]
      exact ⟨none, none, [], rfl, ch4, etr, ⟨rfl, fun j hj => by simp [sms] at hj⟩, fun j p e => by simp at e, Kp.refl _ _⟩
    · intro i σ H' _ h
      rw [hW] at h
      obtain ⟨v6, v7, ts, rfl, ch, htr', tt, fr, kp⟩ := h
      exact ⟨SqT.of (kp.tup _ _ ha4), kp.old _ _ hnm4 (by simp [nnp, nnt])⟩
    · intro i u v σ H' Tt hu' hv h hT
      rw [hW] at h
      obtain ⟨v6, v7, ts, rfl, ch, htr', tt, fr, kp⟩ := h
      obtain ⟨r, c, hri, rfl, hc⟩ := ra4.get hu'
      have hi : i < rs.length := (List.getElem?_eq_some_iff.mp hri).1
      obtain ⟨q, hq1, hq2⟩ := nt4.get (i := i) (by omega)
      rw [hq1] at hv
      cases hv
      have sl : (sms z.cps.toList (rs.take i)).length = i := by rw [sms_len, List.length_take]; omega
      have tl : ts.length = i := tt.1.trans sl
      refine ⟨Tt, [.ref c, .ref q], rfl, SqT.of upd_same, rfl, ⟨_, _, rfl, ⟨_, _, rfl, rfl, ?_⟩⟩⟩
      have kT : Kp [] H' (upd H' Tt (.tup [.ref c, .ref q])) := (Kp.refl [] H').new hT
      generalize upd H' Tt (.tup [.ref c, .ref q]) = H5 at kT ⊢
      have htr5 := kT.old _ _ htr' List.not_mem_nil
      simp!
      refine ⟨by rw [htr5]; rfl, c, q, nm, tr, x, dx, pk, z, 2 * i, H4, F, sms z.cps.toList (rs.take i), r, F.getD i [], zs, rfl, ⟨ch.keep0 kT, kT.tup _ _ (kp.tup _ _ hc), (hq2.stay kp hS4).kp0 kT, ⟨ys, kT.old _ _ (kp.old _ _ hnm4 (by simp [nnp, nnt])) (by simp), (nt4.kp kp hS4).kp0 kT⟩, ⟨ts, htr5, tt.1, fun j hj => ?_⟩⟩,
        by rw [sl]; exact ok i r hri, by rw [sl]; omega, cf.at_ i r hri, fun j hj => ?_, okz, fun y hy => okz y (cf.sub i y hy), hB i hi, hz, by omega, ⟨_, epk⟩, fun p H6 hp ch6 hp6 k6 => ?_⟩
      · obtain ⟨p, e, g⟩ := tt.2 j hj
        exact ⟨p, e, kT.old _ _ g List.not_mem_nil⟩
      · rw [sl] at hj
        exact ⟨sms_depT ok cf i (by omega) j hj, ⟨_, cf.at_ j _ (List.getElem?_eq_getElem (show j < rs.length by omega))⟩, hB j (by omega), fun y hy => okz y (cf.sub j y hy)⟩
      have htr6 := k6.old _ _ htr5 (by simpa using npt.symm)
      have k7 : Kp [tr] H6 (upd H6 tr (.lst (ts ++ [.ref p]))) := (Kp.refl _ H6).set htr6 (.inl (.head _))
      have hp4 : H4 p = none := kp.free (kT.free hp)
      have npr : p ≠ tr := fun e => by rw [e, etr] at hp4; cases hp4
      refine ⟨ts, by rw [htr6]; rfl, by omega, ?_⟩
      rw [hW]
      refine ⟨_, _, ts ++ [.ref p], rfl, ch6.keep k7 (fun b hb => ?_), upd_same, ⟨?_, fun j hj => ?_⟩, fun j p' e => ?_, ((kp.trans (kT.mono (by simp))).trans (k6.mono (by simp))).trans (k7.mono (by simp))⟩
      · rw [List.mem_singleton.mp hb]
        exact ⟨⟨_, etr⟩, ⟨_, htr6, fun _ _ z => by cases z⟩, nxt.symm, npt.symm⟩
      · rw [take_snoc hri, sms_snoc, List.length_append, List.length_append, tl, sl]; rfl
      · rw [take_snoc hri, sms_snoc] at hj ⊢
        rw [List.length_append, sl] at hj
        by_cases hji : j < i
        · obtain ⟨p', e, g⟩ := tt.2 j (by omega)
          have f4 := fr j p' e
          refine ⟨p', by rw [List.getElem?_append_left (by omega)]; exact e, ?_⟩
          rw [sAt_snoc (by omega), upd_ne (fun e' => by rw [e', etr] at f4; cases f4)]
          exact k6.old _ _ (kT.old _ _ g List.not_mem_nil) fun m => by rw [List.mem_singleton.mp m, epk] at f4; cases f4
        · have : j = i := by simp at hj; omega
          subst this
          refine ⟨p, by rw [List.getElem?_append_right (by omega), tl]; simp, ?_⟩
          rw [upd_ne npr, hp6]
          have := sAt_last (S := sms z.cps.toList (rs.take j)) (f := sm z.cps.toList (sms z.cps.toList (rs.take j)) r)
          rw [sl] at this
          rw [this]
      · by_cases hj : j < ts.length
        · rw [List.getElem?_append_left hj] at e; exact fr j p' e
        · rw [List.getElem?_append_right (by omega)] at e
          cases hq : j - ts.length with
          | zero => rw [hq] at e; cases e; exact hp4
          | succ n => rw [hq] at e; simp at e
    · intro σ H5 h
      rw [hW] at h
      obtain ⟨v6, v7, ts, rfl, ch, htr5, tt, fr, kp⟩ := h
      rw [ul, List.take_length] at tt
      have sl : (sms z.cps.toList rs).length = rs.length := sms_len _ _
      obtain ⟨pt, e1, e2⟩ := tt.2 (rs.length - 1) (by omega)
      obtain ⟨q, hq1, hq2⟩ := nt4.get (i := rs.length - 1) (by omega)
      have hnm5 := kp.old _ _ hnm4 (by simp [nnp, nnt])
      have hq5 := hq2.stay kp hS4
      have k05 : Kp [] H H5 := kp_drop k04 kp fun b hb => by
        simp only [List.mem_cons, List.not_mem_nil, or_false] at hb
        rcases hb with e | e
        · rw [e]; exact k1.free hpk
        · rw [e]; exact k13.free htr
      have hpd5 := k05.old _ _ hpd List.not_mem_nil
      have tl : ts.length = rs.length := tt.1.trans sl
      have bL := hB (rs.length - 1) (by omega)
      simp! [htr5, hnm5]
      refine ⟨_, atI_m1 (by rw [tl]; exact e1), dx, _, ch.hx, rfl, _, atI_m1 (by rw [yl]; exact hq1), q, rfl, ⟨_, hq5.sq⟩, fun D hD => comp_tups (fun v => match v with | .str y => .int (ρ y : Nat) | _ => .non) hq5 hD (by rw [List.length_map]; have := bL.1; omega) (fun u hu' l' Q' q' => ?_) fun v => ?_⟩
      · obtain ⟨y, hy, rfl⟩ := List.mem_map.mp hu'
        exact ⟨_, rfl, _, rfl, pd, .int (ρ y : Nat), rfl, .inl ⟨kvs, .inr y, .inl (by rw [upd_ne (ne_of_none hpd5 hD)]; exact hpd5), rfl, (hρ y hy).1.symm⟩, q'⟩
      · have k6 : Kp [] H5 (upd H5 D (.lst (((F.getD (rs.length - 1) []).map V.str).map fun v => match v with | .str y => .int (ρ y : Nat) | _ => .non))) := (Kp.refl [] H5).new hD
        have e6 : upd H5 D (.lst (((F.getD (rs.length - 1) []).map V.str).map fun v => match v with | .str y => .int (ρ y : Nat) | _ => .non)) D = some (.lst (iV ((F.getD (rs.length - 1) []).map ρ))) := by rw [upd_same, iV, List.map_map, List.map_map]; rfl
        generalize upd H5 D (.lst (((F.getD (rs.length - 1) []).map V.str).map fun v => match v with | .str y => .int (ρ y : Nat) | _ => .non)) = H6 at k6 e6 ⊢
        refine ⟨x, dx, pk, D, z.length, (F.getD (rs.length - 1) []).map ρ, rfl, k6.old _ _ ch.hx (by simp), e6, fun p hp => ?_, fun j hj => bL.2 j (by rw [List.length_map] at hj; omega), hz, ?_⟩
        · obtain ⟨y, hy, rfl⟩ := List.mem_map.mp hp
          exact (hρ y hy).2
        · exact ixL (k6.old _ _ e2 List.not_mem_nil) (by rw [bV, List.getElem?_map, tab_at ρ (dep (rs.length - 1) (by omega)) fun y hy => (hρ y hy).2]; rfl) (k H6 (k05.trans k6))
end
def lowS (z : Str) : Prop := ∀ c ∈ sg z, c ≤ 122
theorem lowS.app {x y : Str} (h1 : lowS x) (h2 : lowS y) : lowS (x ++ y) := fun c hc => by
  rw [sg_app] at hc
  rcases List.mem_append.mp hc with h | h
  · exact h1 c h
  · exact h2 c h
theorem lowS.one {c : Nat} (h : c ≤ 122) : lowS ⟨#[c]⟩ := fun d hd => by
  have : d = c := by simpa [sg] using hd
  rw [this]; exact h
theorem lowS.join {l : List Str} (h : ∀ z ∈ l, lowS z) : lowS (Txt.join (Str.ofString "") l) := fun c hc => by
  rw [joinT] at hc
  obtain ⟨m, hm, hc⟩ := List.mem_flatten.mp hc
  obtain ⟨z, hz, rfl⟩ := List.mem_map.mp hm
  exact h z hz c hc
theorem ones_low : ∀ {xs : List V}, (∀ x ∈ xs, ∃ c : Nat, x = .str ⟨#[c]⟩ ∧ c ≤ 122) → ∃ ys : List Str, xs = ys.map V.str ∧ ys.length = xs.length ∧ ∀ y ∈ ys, y.length = 1 ∧ lowS y
  | [], _ => ⟨[], rfl, rfl, fun _ h => nomatch h⟩
  | x :: xs, h => by
    obtain ⟨c, rfl, hc⟩ := h x (.head _)
    obtain ⟨ys, rfl, hl, hy⟩ := ones_low fun y hy => h y (.tail _ hy)
    refine ⟨⟨#[c]⟩ :: ys, rfl, by simp, fun y hy' => ?_⟩
    rcases List.mem_cons.mp hy' with rfl | h
    · exact ⟨rfl, lowS.one hc⟩
    · exact hy y h
def KWs : List (List Nat) := [sg "yes", sg "is", sg "not", sg "and", sg "or"]
def KWV : List V := [.str "yes", .str "is", .str "not", .str "and", .str "or"]
theorem kw_noq : ∀ w ∈ KWs, 113 ∉ w ∧ 2 ≤ w.length := by decide +kernel
def fixN (n : Str) (c : Nat) : Str := if inV (.str n) KWV = true then Str.ofString "qq" ++ ⟨#[c]⟩ else n
theorem kw_in {n : Str} (h : inV (.str n) KWV = true) : sg n ∈ KWs := by
  simp only [inV, KWV, List.any_cons, List.any_nil, Bool.or_false, Bool.or_eq_true] at h
  rcases h with h | h | h | h | h <;> (have h' := of_decide_eq_true h; rw [← h']; simp [KWs])
theorem sg_qq (c : Nat) : sg (Str.ofString "qq" ++ (⟨#[c]⟩ : Str)) = [113, 113, c] := by
  rw [sg_app, show sg (Str.ofString "qq") = [113, 113] from by decide +kernel]; rfl
theorem kw_far {w A B : List Nat} {c : Nat} (hw : w ∈ KWs) (e : w = A ++ c :: B) (c' d : Nat) (s : List Nat) : A ++ c' :: (B ++ s) ≠ [113, 113, d] := by
  obtain ⟨nq, len⟩ := kw_noq w hw
  intro q
  cases A with
  | cons a A =>
    have : a = 113 := by simp at q; exact q.1
    exact nq (by rw [e, this]; simp)
  | nil =>
    cases B with
    | nil => rw [e] at len; simp at len
    | cons b B =>
      have : b = 113 := by simp at q; exact q.2.1
      exact nq (by rw [e, this]; simp)
theorem fix_ne {t1 t2 s : Str} {c0 c1 : Nat} (h : c0 ≠ c1) : fixN (t1 ++ (⟨#[c0]⟩ : Str) ++ t2) c0 ≠ fixN (t1 ++ (⟨#[c1]⟩ : Str) ++ t2 ++ s) c1 := by
  have e0 : sg (t1 ++ (⟨#[c0]⟩ : Str) ++ t2) = sg t1 ++ c0 :: (sg t2 ++ []) := by rw [sg_app, sg_app, List.append_assoc, List.append_nil]; rfl
  have e1 : sg (t1 ++ (⟨#[c1]⟩ : Str) ++ t2 ++ s) = sg t1 ++ c1 :: (sg t2 ++ sg s) := by rw [sg_app, sg_app, sg_app, List.append_assoc, List.append_assoc]; rfl
  intro q
  have q := congrArg sg q
  unfold fixN at q
  split at q
  · rename_i h0
    split at q
    · rw [sg_qq, sg_qq] at q; simp at q; exact h q
    · rw [sg_qq, e1] at q
      exact kw_far (kw_in h0) (by rw [e0, List.append_nil]) c1 c0 (sg s) q.symm
  · split at q
    · rename_i h1
      have hk := kw_in h1
      have nq := (kw_noq _ hk).1
      rw [sg_qq, e0] at q
      rw [e1] at hk
      exact kw_far hk rfl c0 c1 [] (by
        cases es : sg s with
        | nil => rw [List.append_nil, List.append_nil]; rw [List.append_nil] at q; exact q
        | cons a r =>
          exfalso
          cases hA : sg t1 with
          | cons a' A => rw [hA] at q hk; simp at q; exact (kw_noq _ hk).1 (by rw [q.1]; simp)
          | nil =>
            cases hB : sg t2 with
            | nil => rw [hA, hB] at q; simp at q
            | cons b' B => rw [hA, hB] at q hk; simp at q; exact (kw_noq _ hk).1 (by rw [q.2.1]; simp))
    · rw [e0, e1] at q
      have := List.append_cancel_left q
      simp at this
      exact h this.1
def chN (fi : Int) (k : Nat) : Nat := 97 + ((fi + 5 * (k : Int)) % 26).toNat
def FN (t1 t2 : Str) (fi : Int) (k : Nat) (z : Str) : Prop := ∃ s : Str, (s = ⟨#[]⟩ ∨ (k : Int) % 2 = 1) ∧ z = fixN (t1 ++ (⟨#[chN fi k]⟩ : Str) ++ t2 ++ s) (chN fi k)
theorem abc_at (i : Nat) (h : i < (Str.ofString "abcdefghijklmnopqrstuvwxyz").cps.toList.length) : (Str.ofString "abcdefghijklmnopqrstuvwxyz").cps.toList[i] = 97 + i := by
  have e : (Str.ofString "abcdefghijklmnopqrstuvwxyz").cps.toList = (List.range 26).map (97 + ·) := by decide +kernel
  simp only [e, List.getElem_map, List.getElem_range]
theorem FN.two {t1 t2 : Str} {fi : Int} {zs : List Str} (hl : zs.length = 2) (h : ∀ (k : Nat) (z : Str), zs[k]? = some z → FN t1 t2 fi k z) : zs.Nodup := by
  match zs, hl with
  | [a, b], _ =>
    obtain ⟨s0, h0, e0⟩ := h 0 a rfl
    obtain ⟨s1, h1, e1⟩ := h 1 b rfl
    have : s0 = ⟨#[]⟩ := h0.elim id fun z => by simp at z
    have hne : chN fi 0 ≠ chN fi 1 := by unfold chN; omega
    have ea : t1 ++ (⟨#[chN fi 0]⟩ : Str) ++ t2 ++ s0 = t1 ++ (⟨#[chN fi 0]⟩ : Str) ++ t2 := sg_inj (by rw [this, sg_app, sg_nil, List.append_nil])
    rw [ea] at e0
    simp only [List.nodup_cons, List.mem_singleton, List.not_mem_nil, not_false_eq_true, List.nodup_nil, and_true]
    rw [e0, e1]
    exact fix_ne hne
theorem two_set {zs : List Str} {od : Str} (hl : zs.length = 2) (nd : zs.Nodup) (ho : od ∉ zs) (i : Nat) : (zs.set i od).Nodup := by
  match zs, hl with
  | [a, b], _ =>
    simp at nd ho
    match i with
    | 0 => simp; exact ho.2
    | 1 => simp; exact fun e => ho.1 e.symm
    | i + 2 => simp; exact nd
theorem notin_of {od : Str} {zs : List Str} (h : ¬ inV (.str od) (zs.map V.str) = true) : od ∉ zs := fun m => h (by
  rw [inV, List.any_eq_true]
  exact ⟨.str od, List.mem_map.mpr ⟨od, m, rfl⟩, decide_eq_true rfl⟩)
def NmOk (z : Str) : Prop := z.length ≤ 3 ∧ lowS z
def spPN : Sp := fun vs H Q _ => ∃ (b : Addr) (m : Nat) (o : HO), vs = [.ref b, .int (m : Int)] ∧ H b = some o ∧ BoxO o ∧ 1 ≤ m ∧ m ≤ 26 ∧
  ∀ (p : Addr) (zs : List Str) (o' : HO) (H' : Hp), zs.length = m → (m = 2 → zs.Nodup) → (∀ z ∈ zs, NmOk z) → H p = none → H' p = some (.lst (zs.map V.str)) → BoxO o' → H' b = some o' → Kp [b] H H' → Q (.ref p) H'
theorem sap_len (x y : Str) : (x ++ y).length = x.length + y.length := by simp [Str.length, Str.cps_append]
theorem join_ones2 (l : List Str) (h : ∀ a ∈ l, a.length = 1) : (Txt.join (Str.ofString "") l).length = l.length := PySem.W.KT.join_ones l h
theorem cutV_strs (ys : List Str) (lo hi : Option Int) : cutV (ys.map V.str) lo hi = ((ys.drop (HT.sIx ys.length 0 lo)).take (HT.sIx ys.length ys.length hi - HT.sIx ys.length 0 lo)).map V.str := by
  simp only [cutV, List.length_map, List.map_take, List.map_drop]
def JN (H : Hp) (b D c : Addr) (m n : Nat) (sp fi : Int) (i ch : Nat) (v4 : Option V) (ys zs : List Str) (R : Str → Prop) : L2.St → Hp → Prop := fun σ H5 => ∃ (nm : Str) (o' : HO),
  σ = [some (.ref b), some (.int (m : Int)), some (.str "abcdefghijklmnopqrstuvwxyz"), some (.int (1 + (n : Int))), some (.ref D), some (.int sp), some (.int fi), some (.ref c), some (.int (0 + (i : Int))), some (.str ⟨#[ch]⟩), some (.str nm), v4] ∧
  (nm.length ≤ 3 ∧ lowS nm ∧ R nm) ∧ BoxO o' ∧ H5 b = some o' ∧ H5 c = some (.lst (zs.map V.str)) ∧ H5 D = some (.lst (ys.map V.str)) ∧ Kp [b] H H5
structure TPN (mg : Str → Option Value) (ft : Addr) : Prop where
  n_range : mg "range" = none
  m__law_take : mg "_law_take" = some (.ref ft)
section
variable {P : Program} {w : World} {K : PySem.W.Frag} {mg : Str → Option Value} {base : Heap}
abbrev s__law_place_names : Stmt := top 19
theorem sc__law_place_names : FnScope ["_law_box_here", "_law_many", "_law_letters_here", "_law_size", "_law_signs", "_law_spot", "_law_first", "_law_found", "_law_k", "_law_one", "_law_name", "_law_odd"] ["_law_box_here", "_law_many"] (defScope s__law_place_names) := ⟨rfl, rfl, rfl, by decide +kernel, rfl, by decide +kernel, by decide +kernel⟩
theorem ok__law_place_names {f ft : Addr} {fd fdt : FuncData} (F : Fun K "_law_place_names" "_law_place_names" s__law_place_names f fd) (T : TPN mg ft) (F__law_take : Fun K "_law_take" "_law_take" s__law_take ft fdt) (b__law_take : Binds K fdt ["_law_box_here", "_law_wide"] [])
    (G__law_take : FnOk P w K mg base CX0 1 ft fdt ["_law_box_here", "_law_wide"] spTake) : FnOk P w K mg base CX0 2 f fd ["_law_box_here", "_law_many"] spPN := by
  refine F.ok sc__law_place_names (fun vs H Q E h => ?_) (fun cdv A outer s H vs Q E hr h => ?_)
  · obtain ⟨b, m, o, rfl, _⟩ := h
    rfl
  · obtain ⟨b, m, o, rfl, hb, ho, m1, m2, k⟩ := h
    have hu := hr.units
    refine ⟨_, (QSs.h (qpss_cons (qps_set (i := 2) sc__law_place_names.nd rfl (by first | exact Or.inl rfl | exact Or.inr rfl) qpe_str)
    (qpss_cons (qps_set (i := 3) sc__law_place_names.nd rfl (by first | exact Or.inl rfl | exact Or.inr rfl) (qpe_op op_addW qpe_int (qpe_call G__law_take (hr.mono (by decide)) rfl T.m__law_take F__law_take.kp b__law_take .nil pass0 (qpa_cons (qpv 0) (qpa_cons qpe_int qpa_nil)))))
    (qpss_cons (qps_setc (i := 4) sc__law_place_names.nd rfl (by first | exact Or.inl rfl | exact Or.inr rfl) rfl (compOk_of (sc := defScope s__law_place_names) (N := ["_law_box_here", "_law_many", "_law_letters_here", "_law_size", "_law_signs", "_law_spot", "_law_first", "_law_found", "_law_k", "_law_one", "_law_name", "_law_odd"]) (Nc := ["_law_k", "_law_letters_here", "_law_box_here"]) (js := [none, some 2, some 0]) (by decide +kernel)) (qpi_range1 rfl T.n_range (qpa_cons (qpv 3) qpa_nil)) (fun _ _ _ _ => (qpg_name (i := 0) (show List.Nodup [("_law_k" : Str), ("_law_letters_here" : Str), ("_law_box_here" : Str)] from by decide +kernel) rfl (by first | exact Or.inl rfl | exact Or.inr rfl))) (fun _ _ _ _ => (qpe_ix ix_U (qpv 1) (qpe_call G__law_take (hr.mono (by decide)) rfl T.m__law_take F__law_take.kp b__law_take .nil pass0 (qpa_cons (qpv 2) (qpa_cons qpe_int qpa_nil))) (fun _ _ => rfl))))
    (qpss_cons (qps_set (i := 5) sc__law_place_names.nd rfl (by first | exact Or.inl rfl | exact Or.inr rfl) (qpe_call G__law_take (hr.mono (by decide)) rfl T.m__law_take F__law_take.kp b__law_take .nil pass0 (qpa_cons (qpv 0) (qpa_cons (qpv 3) qpa_nil))))
    (qpss_cons (qps_set (i := 6) sc__law_place_names.nd rfl (by first | exact Or.inl rfl | exact Or.inr rfl) (qpe_call G__law_take (hr.mono (by decide)) rfl T.m__law_take F__law_take.kp b__law_take .nil pass0 (qpa_cons (qpv 0) (qpa_cons qpe_int qpa_nil))))
    (qpss_cons (qps_set (i := 7) sc__law_place_names.nd rfl (by first | exact Or.inl rfl | exact Or.inr rfl) (qpe_lst qpa_nil))
    (qpss_cons (qps_for PassesOwn.never rfl (qpi_range1 rfl T.n_range (qpa_cons (qpv 1) qpa_nil)) (qpg_name (i := 8) sc__law_place_names.nd rfl (by first | exact Or.inl rfl | exact Or.inr rfl)) (qpss_cons (qps_set (i := 9) sc__law_place_names.nd rfl (by first | exact Or.inl rfl | exact Or.inr rfl) (qpe_ix ix_U (qpv 2) (qpe_op op_mod (qpe_op op_addW (qpv 6) (qpe_op op_mulW qpe_int (qpv 8))) qpe_int) (fun _ _ => rfl)))
    (qpss_cons (qps_set (i := 10) sc__law_place_names.nd rfl (by first | exact Or.inl rfl | exact Or.inr rfl) (qpe_op op_addW (qpe_op op_addW (qpe_bmS PySem.F.slot_str_join PySem.F.type_str_join mt_joinU qpe_str (qpa_cons (qpe_slice (sl_UK (K := K) rfl) (qpv 4) qpo_none (qpo_some (qpv 5))) qpa_nil) mono_c) (qpv 9)) (qpe_bmS PySem.F.slot_str_join PySem.F.type_str_join mt_joinU qpe_str (qpa_cons (qpe_slice (sl_UK (K := K) rfl) (qpv 4) (qpo_some (qpe_op op_addW (qpv 5) qpe_int)) qpo_none) qpa_nil) mono_c)))
    (qpss_mid (qps_if (QW.pt (qpw_and (qpt_cmpR (op_eqU hu) (qpe_op op_mod (qpv 8) qpe_int) qpe_int (nomark _)) (qpw_and (qpt_cmpR op_ltU (qpv 3) qpe_int (nomark _)) (qpw_and1 (qpt_cmpR (op_eqU hu) (qpe_call G__law_take (hr.mono (by decide)) rfl T.m__law_take F__law_take.kp b__law_take .nil pass0 (qpa_cons (qpv 0) (qpa_cons qpe_int qpa_nil))) qpe_int (nomark _)))))) (qpss_one (qps_set (i := 10) sc__law_place_names.nd rfl (by first | exact Or.inl rfl | exact Or.inr rfl) (qpe_op op_addW (qpv 10) qpe_str))) qpss_nil)
    (qpss_mid (qps_if (qpt_cmpR (op_inU (K := K) rfl) (qpv 10) (qpe_tup (qpa_cons qpe_str (qpa_cons qpe_str (qpa_cons qpe_str (qpa_cons qpe_str (qpa_cons qpe_str qpa_nil)))))) (by with_unfolding_all rfl)) (qpss_one (qps_set (i := 10) sc__law_place_names.nd rfl (by first | exact Or.inl rfl | exact Or.inr rfl) (qpe_op op_addW qpe_str (qpv 9)))) qpss_nil)
    (qpss_one (qps_expr (qpe_bmL PySem.F.slot_list_append PySem.F.type_list_append mt_appendU (qpv 7) (qpa_cons (qpv 10) qpa_nil) mono_var))))))))
    (qpss_mid (qps_if (qpt_cmpR (op_eqU hu) (qpe_call G__law_take (hr.mono (by decide)) rfl T.m__law_take F__law_take.kp b__law_take .nil pass0 (qpa_cons (qpv 0) (qpa_cons qpe_int qpa_nil))) qpe_int (nomark _)) (qpss_cons (qps_set (i := 11) sc__law_place_names.nd rfl (by first | exact Or.inl rfl | exact Or.inr rfl) (qpe_ix ix_U (qpe_lst (qpa_cons qpe_str (qpa_cons qpe_str (qpa_cons qpe_str (qpa_cons qpe_str (qpa_cons qpe_str (qpa_cons qpe_str (qpa_cons qpe_str (qpa_cons qpe_str qpa_nil))))))))) (qpe_call G__law_take (hr.mono (by decide)) rfl T.m__law_take F__law_take.kp b__law_take .nil pass0 (qpa_cons (qpv 0) (qpa_cons qpe_int qpa_nil))) (fun _ _ => rfl)))
    (qpss_one (qps_if (qpt_cmpR (op_notinU (K := K) rfl) (qpv 11) (qpv 7) (by with_unfolding_all rfl)) (qpss_one (qps_asg (qpv 11) (qpg_sub (qpv 7) (qpe_call G__law_take (hr.mono (by decide)) rfl T.m__law_take F__law_take.kp b__law_take .nil pass0 (qpa_cons (qpv 0) (qpa_cons (qpv 1) qpa_nil))) set_U))) qpss_nil))) qpss_nil)
    (qpss_one (qps_ret (qpv 7)))))))))))), ?_⟩
    have hsz : sizeLine = 16777216 := PySem.sizeLine_eq
    have la : (Str.ofString "abcdefghijklmnopqrstuvwxyz").length = 26 := by decide +kernel
    have l26 : (Str.ofString "abcdefghijklmnopqrstuvwxyz").cps.toList.length = 26 := by simpa [Str.length] using la
    have lq : (Str.ofString "q").length = 1 := by decide +kernel
    have hlq : lowS (Str.ofString "q") := by unfold lowS; decide +kernel
    have hlqq : lowS (Str.ofString "qq") := by unfold lowS; decide +kernel
    have hab : ∀ c ∈ (Str.ofString "abcdefghijklmnopqrstuvwxyz").cps.toList, c ≤ 122 := by decide +kernel
    have lqq : (Str.ofString "qq").length = 2 := by decide +kernel
    simp!
    refine ⟨b, 3, o, rfl, hb, ho, by omega, by omega, fun d o1 d0 d1 ho1 => ?_⟩
    obtain ⟨n, rfl⟩ : ∃ n : Nat, d = (n : Int) := ⟨d.toNat, by omega⟩
    have en : (1 + (n : Int)).toNat = n + 1 := by omega
    obtain ⟨xs0, rfl⟩ := ho.lst
    obtain ⟨xs1, rfl⟩ := id ho1.lst
    refine ⟨_, rfl, by omega, by omega, fun D hD => ?_⟩
    rw [en]
    have nbD : b ≠ D := ne_of_none upd_same hD
    have hD0 : H D = none := by rw [upd_ne nbD.symm] at hD; exact hD
    refine comp_box (fun x => ∃ c : Nat, x = .str ⟨#[c]⟩ ∧ c ≤ 122) upd_same ho1 hD (by omega) (fun x H' o' Q' hb' ho' hq => ?_) fun v xs o2 hl hP ho2 => ?_
    · simp!
      refine ⟨b, 26, _, rfl, hb', ho', by omega, by omega, fun e o5 e0 e1 ho5 => ?_⟩
      simp!
      refine ⟨by omega, (Str.ofString "abcdefghijklmnopqrstuvwxyz").cps.toList[e.toNat]'(by omega), atI_of e0 (by simp), hq _ _ ⟨_, rfl, hab _ (List.getElem_mem _)⟩ ho5⟩
    obtain ⟨ys, rfl, hy1, hy2'⟩ := ones_low hP
    have hy2 : ∀ y ∈ ys, y.length = 1 := fun y hy => (hy2' y hy).1
    rw [List.length_map] at hl
    obtain ⟨xs2, rfl⟩ := id ho2.lst
    have f1 : upd (upd (upd H b (.lst xs1)) b (.lst xs2)) D (.lst (ys.map V.str)) b = some (.lst xs2) := by rw [upd_ne nbD, upd_same]
    have f2 : upd (upd (upd H b (.lst xs1)) b (.lst xs2)) D (.lst (ys.map V.str)) D = some (.lst (ys.map V.str)) := upd_same
    have f3 : Kp [b] H (upd (upd (upd H b (.lst xs1)) b (.lst xs2)) D (.lst (ys.map V.str))) := (((Kp.refl [b] H).set hb (.inl (.head _))).set upd_same (.inl (.head _))).new (by rw [upd_ne nbD.symm]; exact hD)
    revert f1 f2 f3
    generalize upd (upd (upd H b (.lst xs1)) b (.lst xs2)) D (.lst (ys.map V.str)) = H2
    intro f1 f2 f3
    refine ⟨b, _, _, rfl, f1, ho2, by omega, by omega, fun sp o3 sp0 sp1 ho3 => ?_⟩
    obtain ⟨xs3, rfl⟩ := id ho3.lst
    refine ⟨b, _, _, rfl, upd_same, ho3, by omega, by omega, fun fi o4 fi0 fi1 ho4 => ?_⟩
    obtain ⟨xs4, rfl⟩ := id ho4.lst
    refine ⟨by omega, fun c hc => ?_⟩
    rw [upd_upd] at hc ⊢
    have g1 : upd H2 b (.lst xs4) D = some (.lst (ys.map V.str)) := by rw [upd_ne nbD.symm]; exact f2
    have g3 : Kp [b] H (upd H2 b (.lst xs4)) := f3.set f1 (.inl (.head _))
    have nbc : b ≠ c := ne_of_none upd_same hc
    have nDc : D ≠ c := ne_of_none g1 hc
    have hc0 : H c = none := g3.free hc
    refine ⟨by omega, by omega, ?_⟩
    rw [Int.toNat_natCast]
    refine loop_range (fun i σ H' => ∃ (zs : List Str) (o' : HO) (v1 v2 v3 v4 : Option V), σ = [some (.ref b), some (.int (m : Int)), some (.str "abcdefghijklmnopqrstuvwxyz"), some (.int (1 + (n : Int))), some (.ref D), some (.int sp), some (.int fi), some (.ref c), v1, v2, v3, v4] ∧
      zs.length = i ∧ (∀ z ∈ zs, NmOk z) ∧ (∀ (k : Nat) (z : Str), zs[k]? = some z → FN (Txt.join (Str.ofString "") ((ys.drop (HT.sIx ys.length 0 none)).take (HT.sIx ys.length ys.length (some sp) - HT.sIx ys.length 0 none))) (Txt.join (Str.ofString "") ((ys.drop (HT.sIx ys.length 0 (some (sp + 1)))).take (HT.sIx ys.length ys.length none - HT.sIx ys.length 0 (some (sp + 1))))) fi k z) ∧ H' c = some (.lst (zs.map V.str)) ∧ BoxO o' ∧ H' b = some o' ∧ H' D = some (.lst (ys.map V.str)) ∧ Kp [b] H H') ?_ ?_ ?_
    · exact ⟨[], _, none, none, none, none, rfl, rfl, (fun _ h => nomatch h), (fun k z e => by simp at e), upd_same, ho4, by rw [upd_ne nbc, upd_same], by rw [upd_ne nDc]; exact g1, g3.new hc⟩
    · rintro i σ H' hi ⟨zs, o', v1, v2, v3, v4, rfl, hz1, hz2, hz3, hc', ho', hb', hD', kp⟩
      simp!
      have q0 := Int.emod_nonneg (fi + 5 * (0 + (i : Int))) (show (26 : Int) ≠ 0 by decide)
      have q1 := Int.emod_lt_of_pos (fi + 5 * (0 + (i : Int))) (show (0 : Int) < 26 by decide)
      refine ⟨.inl ⟨by omega, by omega⟩, by decide, by omega, (Str.ofString "abcdefghijklmnopqrstuvwxyz").cps.toList[((fi + 5 * (0 + (i : Int))) % 26).toNat]'(by omega), atI_of q0 (by simp), ?_⟩
      have hch : (Str.ofString "abcdefghijklmnopqrstuvwxyz").cps.toList[((fi + 5 * (0 + (i : Int))) % 26).toNat]'(by omega) ≤ 122 := hab _ (List.getElem_mem _)
      have hce := abc_at ((fi + 5 * (0 + (i : Int))) % 26).toNat (by omega)
      rw [show (97 + ((fi + 5 * (0 + (i : Int))) % 26).toNat) = chN fi i by unfold chN; rw [Int.zero_add]] at hce
      generalize (Str.ofString "abcdefghijklmnopqrstuvwxyz").cps.toList[((fi + 5 * (0 + (i : Int))) % 26).toNat]'(by omega) = ch at hch hce
      have lch : (⟨#[ch]⟩ : Str).length = 1 := rfl
      refine rSlU.lst hD' fun s1 hs1 => ?_
      rw [cutV_strs]
      have a1 : HT.sIx ys.length 0 none = 0 := rfl
      have a2 : HT.sIx ys.length ys.length (some sp) = sp.toNat := by simp only [HT.sIx]; split <;> omega
      have a3 : HT.sIx ys.length 0 (some (sp + 1)) = sp.toNat + 1 := by simp only [HT.sIx]; split <;> omega
      have a4 : HT.sIx ys.length ys.length none = ys.length := rfl
      generalize hL1 : (ys.drop (HT.sIx ys.length 0 none)).take (HT.sIx ys.length ys.length (some sp) - HT.sIx ys.length 0 none) = La at hz3 ⊢
      have l1 : La.length = sp.toNat := by rw [← hL1, a1, a2, List.length_take, List.length_drop]; omega
      have o1 : ∀ z ∈ La, z.length = 1 := fun z hz => by rw [← hL1] at hz; exact hy2 z (List.mem_of_mem_drop (List.mem_of_mem_take hz))
      have sm : ∀ L : List Str, (∀ z ∈ L, z.length = 1) → (L.map (·.length)).sum = L.length := by
        intro L
        induction L with
        | nil => intro _; rfl
        | cons y L ih => intro h; simp [h y (.head _), ih fun z hz => h z (.tail _ hz)]; omega
      refine ⟨La, upd_same, by rw [sm La o1]; show La.length + La.length * 0 ≤ _; omega, ?_⟩
      have j1 := join_ones2 La o1
      have w1 : lowS (Txt.join (Str.ofString "") La) := lowS.join fun z hz => by rw [← hL1] at hz; exact (hy2' z (List.mem_of_mem_drop (List.mem_of_mem_take hz))).2
      generalize Txt.join (Str.ofString "") La = t1 at j1 w1 hz3 ⊢
      simp!
      refine ⟨by omega, ?_⟩
      have nDs : D ≠ s1 := ne_of_none hD' hs1
      have hD2 : ∀ o, upd H' s1 o D = some (.lst (ys.map V.str)) := fun o => by rw [upd_ne nDs]; exact hD'
      refine rSlU.lst (hD2 _) fun s2 hs2 => ?_
      rw [cutV_strs]
      generalize hL2 : (ys.drop (HT.sIx ys.length 0 (some (sp + 1)))).take (HT.sIx ys.length ys.length none - HT.sIx ys.length 0 (some (sp + 1))) = Lb at hz3 ⊢
      have l2 : Lb.length = n - sp.toNat := by rw [← hL2, a3, a4, List.length_take, List.length_drop]; omega
      have o2 : ∀ z ∈ Lb, z.length = 1 := fun z hz => by rw [← hL2] at hz; exact hy2 z (List.mem_of_mem_drop (List.mem_of_mem_take hz))
      refine ⟨Lb, upd_same, by rw [sm Lb o2]; show Lb.length + Lb.length * 0 ≤ _; omega, ?_⟩
      have j2 := join_ones2 Lb o2
      have w2 : lowS (Txt.join (Str.ofString "") Lb) := lowS.join fun z hz => by rw [← hL2] at hz; exact (hy2' z (List.mem_of_mem_drop (List.mem_of_mem_take hz))).2
      generalize Txt.join (Str.ofString "") Lb = t2 at j2 w2 hz3 ⊢
      simp!
      refine ⟨by rw [sap_len]; omega, ?_⟩
      have lnm : (t1 ++ (⟨#[ch]⟩ : Str) ++ t2).length = n + 1 := by rw [sap_len, sap_len]; omega
      have wnm : lowS (t1 ++ (⟨#[ch]⟩ : Str) ++ t2) := (w1.app (lowS.one hch)).app w2
      generalize enm : t1 ++ (⟨#[ch]⟩ : Str) ++ t2 = nm0 at lnm wnm ⊢
      have ap0 : nm0 = nm0 ++ (⟨#[]⟩ : Str) := (sg_inj (by rw [sg_app, sg_nil, List.append_nil])).symm
      have nbs1 : b ≠ s1 := ne_of_none hb' hs1
      have ncs1 : c ≠ s1 := ne_of_none hc' hs1
      have e1 : upd (upd H' s1 (.lst (La.map V.str))) s2 (.lst (Lb.map V.str)) b = some o' := by rw [upd_ne (ne_of_none (by rw [upd_ne nbs1]; exact hb') hs2), upd_ne nbs1]; exact hb'
      have e2 : upd (upd H' s1 (.lst (La.map V.str))) s2 (.lst (Lb.map V.str)) c = some (.lst (zs.map V.str)) := by rw [upd_ne (ne_of_none (by rw [upd_ne ncs1]; exact hc') hs2), upd_ne ncs1]; exact hc'
      have e3 : upd (upd H' s1 (.lst (La.map V.str))) s2 (.lst (Lb.map V.str)) D = some (.lst (ys.map V.str)) := by rw [upd_ne (ne_of_none (hD2 _) hs2)]; exact hD2 _
      have e4 : Kp [b] H (upd (upd H' s1 (.lst (La.map V.str))) s2 (.lst (Lb.map V.str))) := (kp.new hs1).new hs2
      revert e1 e2 e3 e4
      generalize upd (upd H' s1 (.lst (La.map V.str))) s2 (.lst (Lb.map V.str)) = H5
      intro e1 e2 e3 e4
      refine ⟨JN H b D c m n sp fi i ch v4 ys zs (fun nm => ∃ s : Str, (s = ⟨#[]⟩ ∨ (i : Int) % 2 = 1) ∧ nm = nm0 ++ s), ?_, ?_⟩
      · simp!
        refine ⟨by decide, ite2 (fun h1 => ite2 (fun h2 => ?_) (fun h2 => ?_)) (fun h1 => ?_)⟩
        · refine ⟨b, _, _, rfl, e1, ho', by omega, by omega, fun d9 o9 d90 d91 ho9 => ?_⟩
          obtain ⟨xs9, rfl⟩ := id ho9.lst
          obtain ⟨xs8, rfl⟩ := id ho'.lst
          simp!
          have k9 := e4.set (o := .lst xs9) e1 (.inl (by simp))
          have c9 : upd H5 b (.lst xs9) c = some (.lst (zs.map V.str)) := by rw [upd_ne nbc.symm]; exact e2
          have D9 : upd H5 b (.lst xs9) D = some (.lst (ys.map V.str)) := by rw [upd_ne nbD.symm]; exact e3
          refine ite2 (fun h3 => ?_) (fun h3 => ?_)
          · exact ⟨by omega, _, _, rfl, ⟨by rw [sap_len]; omega, wnm.app hlq, _, .inr (by rw [Int.zero_add] at h1; exact h1), rfl⟩, ho9, upd_same, c9, D9, k9⟩
          · exact ⟨_, _, rfl, ⟨by omega, wnm, _, .inl rfl, ap0⟩, ho9, upd_same, c9, D9, k9⟩
        · exact ⟨_, _, rfl, ⟨by omega, wnm, _, .inl rfl, ap0⟩, ho', e1, e2, e3, e4⟩
        · exact ⟨_, _, rfl, ⟨by omega, wnm, _, .inl rfl, ap0⟩, ho', e1, e2, e3, e4⟩
      · rintro σ6 H6 ⟨nm, o6, rfl, hn6, ho6, hb6, hc6, hD6, kp6⟩
        refine ⟨JN H b D c m n sp fi i ch v4 ys zs (FN t1 t2 fi i), ?_, ?_⟩
        · obtain ⟨s6, hs6, es6⟩ := hn6.2.2
          have fN : inV (.str nm) KWV = true → FN t1 t2 fi i (Str.ofString "qq" ++ (⟨#[ch]⟩ : Str)) := fun h => ⟨s6, hs6, by rw [← hce, enm, ← es6, fixN, if_pos h]⟩
          have fM : ¬ inV (.str nm) KWV = true → FN t1 t2 fi i nm := fun h => ⟨s6, hs6, by rw [← hce, enm, ← es6, fixN, if_neg h]⟩
          simp!
          refine ⟨by omega, fun p9 hp9 => rInU.tupS (SqT.of upd_same) rfl (by decide) ⟨_, rfl, ?_⟩⟩
          have k9 := kp6.new (o := .tup [V.str (Str.ofString "yes"), V.str (Str.ofString "is"), V.str (Str.ofString "not"), V.str (Str.ofString "and"), V.str (Str.ofString "or")]) hp9
          have b9 := upd_ne (H := H6) (o := .tup [V.str (Str.ofString "yes"), V.str (Str.ofString "is"), V.str (Str.ofString "not"), V.str (Str.ofString "and"), V.str (Str.ofString "or")]) (ne_of_none hb6 hp9)
          have c9 := upd_ne (H := H6) (o := .tup [V.str (Str.ofString "yes"), V.str (Str.ofString "is"), V.str (Str.ofString "not"), V.str (Str.ofString "and"), V.str (Str.ofString "or")]) (ne_of_none hc6 hp9)
          have D9 := upd_ne (H := H6) (o := .tup [V.str (Str.ofString "yes"), V.str (Str.ofString "is"), V.str (Str.ofString "not"), V.str (Str.ofString "and"), V.str (Str.ofString "or")]) (ne_of_none hD6 hp9)
          refine ite2 (fun h3 => ?_) (fun h3 => ?_)
          · exact ⟨by omega, _, _, rfl, ⟨by rw [sap_len]; omega, hlqq.app (lowS.one hch), fN h3⟩, ho6, b9.trans hb6, c9.trans hc6, D9.trans hD6, k9⟩
          · exact ⟨_, _, rfl, ⟨hn6.1, hn6.2.1, fM h3⟩, ho6, b9.trans hb6, c9.trans hc6, D9.trans hD6, k9⟩
        · rintro σ7 H7 ⟨nm, o7, rfl, hn7, ho7, hb7, hc7, hD7, kp7⟩
          simp! [hc7]
          refine ⟨by rw [List.length_map]; omega, zs ++ [nm], o7, _, _, _, _, ⟨rfl, rfl, rfl, rfl⟩, by simp [hz1], fun z hz => ?_, fun k' z e => ?_, by simp, ho7, by rw [upd_ne nbc]; exact hb7, by rw [upd_ne nDc]; exact hD7, kp7.set hc7 (.inr hc0)⟩
          · rcases List.mem_append.mp hz with h | h
            · exact hz2 z h
            rw [List.mem_singleton.mp h]; exact ⟨hn7.1, hn7.2.1⟩
          by_cases hk' : k' < zs.length
          · rw [List.getElem?_append_left hk'] at e; exact hz3 k' z e
          · rw [List.getElem?_append_right (by omega)] at e
            cases hq : k' - zs.length with
            | zero => rw [hq] at e; cases e; rw [show k' = i by omega]; exact hn7.2.2
            | succ n => rw [hq] at e; simp at e
    · rintro σ H' ⟨zs, o', v1, v2, v3, v4, rfl, hz1, hz2, hz3, hc', ho', hb', hD', kp⟩
      have nd : m = 2 → zs.Nodup := fun e => FN.two (hz1.trans e) hz3
      simp!
      refine ⟨fun σ H9 => σ[7]? = some (some (.ref c)) ∧ ∃ (zs : List Str) (o' : HO), zs.length = m ∧ (m = 2 → zs.Nodup) ∧ (∀ z ∈ zs, NmOk z) ∧ H9 c = some (.lst (zs.map V.str)) ∧ BoxO o' ∧ H9 b = some o' ∧ Kp [b] H H9, ?_, ?_⟩
      · simp!
        refine ⟨b, _, _, rfl, hb', ho', by omega, by omega, fun d9 o9 d90 d91 ho9 => ?_⟩
        obtain ⟨xs9, rfl⟩ := id ho9.lst
        obtain ⟨xs8, rfl⟩ := id ho'.lst
        simp!
        have k9 := kp.set (o := .lst xs9) hb' (.inl (by simp))
        have c9 : upd H' b (.lst xs9) c = some (.lst (zs.map V.str)) := by rw [upd_ne nbc.symm]; exact hc'
        refine ite2 (fun h3 => ?_) (fun h3 => ?_)
        · refine ⟨by omega, fun p2 hp2 => ?_⟩
          have nb2 : b ≠ p2 := ne_of_none upd_same hp2
          have nc2 : c ≠ p2 := ne_of_none c9 hp2
          refine ⟨b, _, _, rfl, by rw [upd_ne nb2, upd_same], ho9, by omega, by omega, fun d8 o8 d80 d81 ho8 => ?_⟩
          obtain ⟨xs7, rfl⟩ := id ho8.lst
          have odd : ∃ od : Str, ([V.str (Str.ofString "som"), V.str (Str.ofString "eac"), V.str (Str.ofString "no"), V.str (Str.ofString "an"), V.str (Str.ofString "ors"), V.str (Str.ofString "iss"), V.str (Str.ofString "so"), V.str (Str.ofString "ye")] : List V)[d8.toNat]? = some (.str od) ∧ NmOk od := by
            have hn : d8.toNat < 8 := by omega
            generalize d8.toNat = e at hn
            have : e = 0 ∨ e = 1 ∨ e = 2 ∨ e = 3 ∨ e = 4 ∨ e = 5 ∨ e = 6 ∨ e = 7 := by omega
            rcases this with rfl | rfl | rfl | rfl | rfl | rfl | rfl | rfl <;> exact ⟨_, rfl, by unfold NmOk lowS; decide +kernel⟩
          obtain ⟨od, hod, lod⟩ := odd
          have p8 : ∀ o, upd (upd (upd H' b (.lst xs9)) p2 o) b (.lst xs7) p2 = some o := fun o => by rw [upd_ne nb2.symm, upd_same]
          simp! [p8]
          refine ⟨_, atI_of d80 hod, ?_⟩
          have c8 : ∀ o, upd (upd (upd H' b (.lst xs9)) p2 o) b (.lst xs7) c = some (.lst (zs.map V.str)) := fun o => by rw [upd_ne nbc.symm, upd_ne nc2]; exact c9
          have k8 : ∀ o, Kp [b] H (upd (upd (upd H' b (.lst xs9)) p2 o) b (.lst xs7)) := fun o => (k9.new hp2).set (by rw [upd_ne nb2, upd_same]) (.inl (by simp))
          refine rInU.lst (c8 _) rfl (by simp [List.all_map]; intro z _; rfl) ⟨_, rfl, ?_⟩
          have nin : (if true = true then !inV (.str od) (zs.map V.str) else inV (.str od) (zs.map V.str)) = true → ¬ inV (.str od) (zs.map V.str) = true := fun h h' => by rw [h'] at h; cases h
          refine ite2 (fun h4 => ?_) (fun h4 => ?_)
          · refine ⟨b, _, _, rfl, upd_same, ho8, by omega, by omega, fun d7 o7 d70 d71 ho7 => ?_⟩
            obtain ⟨xs6, rfl⟩ := id ho7.lst
            have c7 : ∀ o, upd (upd (upd (upd H' b (.lst xs9)) p2 o) b (.lst xs7)) b (.lst xs6) c = some (.lst (zs.map V.str)) := fun o => by rw [upd_ne nbc.symm]; exact c8 o
            simp! [c7]
            have c6 : ∀ o, upd (upd (upd H' b (.lst xs9)) p2 o) b (.lst xs6) c = some (.lst (zs.map V.str)) := fun o => by rw [upd_ne nbc.symm, upd_ne nc2]; exact c9
            have k6 : ∀ o, Kp [b] H (upd (upd (upd H' b (.lst xs9)) p2 o) b (.lst xs6)) := fun o => (k9.new hp2).set (by rw [upd_ne nb2, upd_same]) (.inl (by simp))
            refine ⟨_, by rw [c6]; rfl, d7.toNat, by unfold ixN; rw [if_pos d70, if_pos (by rw [List.length_map]; omega)], zs.set d7.toNat od, by simp [hz1], (fun e => two_set (hz1.trans e) (nd e) (notin_of (nin h4)) _), fun z hz => ?_, by rw [List.map_set], _, ho7, by rw [upd_ne nbc, upd_same], (k6 _).set (c6 _) (.inr hc0)⟩
            rcases List.mem_or_eq_of_mem_set hz with h | h
            · exact hz2 z h
            · rw [h]; exact lod
          · exact ⟨zs, hz1, nd, hz2, c8 _, _, ho8, upd_same, k8 _⟩
        · exact ⟨zs, hz1, nd, hz2, c9, _, ho9, rfl, k9⟩
      · rintro σ H9 ⟨e, zs, o', hz1, nd, hz2, hc9, ho9, hb9, kp9⟩
        simp!
        exact ⟨_, e, k c zs o' H9 hz1 nd hz2 hc0 hc9 ho9 hb9 kp9⟩
end
def spText : Sp := fun vs H Q _ => ∃ (b : Addr) (z : Str) (m : Nat) (o : HO), vs = [.ref b, .str z, .int (m : Int)] ∧ H b = some o ∧ BoxO o ∧ 1 ≤ z.length ∧ z.length ≤ 1000 ∧ m ≤ 1000 ∧
  ∀ u o' H', u.length ≤ m → (∀ c ∈ sg u, c ∈ sg z) → BoxO o' → H' b = some o' → Kp [b] H H' → Q (.str u) H'
theorem ones_in {z : Str} : ∀ {xs : List V}, (∀ x ∈ xs, ∃ c : Nat, x = .str ⟨#[c]⟩ ∧ c ∈ sg z) → ∃ ys : List Str, xs = ys.map V.str ∧ (∀ y ∈ ys, y.length = 1) ∧ (∀ c ∈ (ys.map sg).flatten, c ∈ sg z)
  | [], _ => ⟨[], rfl, (fun _ h => nomatch h), by simp⟩
  | x :: xs, h => by
    obtain ⟨c, rfl, hc⟩ := h x (.head _)
    obtain ⟨ys, rfl, h1, h2⟩ := ones_in fun y hy => h y (.tail _ hy)
    refine ⟨⟨#[c]⟩ :: ys, rfl, fun y hy => ?_, fun d hd => ?_⟩
    · rcases List.mem_cons.mp hy with rfl | hy
      · rfl
      · exact h1 y hy
    · rw [List.map_cons, List.flatten_cons, List.mem_append] at hd
      rcases hd with hd | hd
      · have : d = c := by simpa [sg] using hd
        rw [this]; exact hc
      · exact h2 d hd
structure TTx (mg : Str → Option Value) (ft : Addr) : Prop where
  n_len : mg "len" = none
  n_range : mg "range" = none
  m__law_take : mg "_law_take" = some (.ref ft)
theorem BoxO.lst7 {o : HO} (h : BoxO o) : ∃ xs, o = .lst xs := by obtain ⟨c, s, e, _⟩ := h; exact ⟨_, e⟩
section
variable {P : Program} {w : World} {K : PySem.W.Frag} {mg : Str → Option Value} {base : Heap}
abbrev s__law_text : Stmt := top 18
theorem sc__law_text : FnScope ["_law_box_here", "_law_letters_here", "_law_most"] ["_law_box_here", "_law_letters_here", "_law_most"] (defScope s__law_text) := ⟨rfl, rfl, rfl, by decide +kernel, rfl, by decide +kernel, by decide +kernel⟩
theorem ok__law_text {f ft : Addr} {fd fdt : FuncData} (F : Fun K "_law_text" "_law_text" s__law_text f fd) (T : TTx mg ft) (F__law_take : Fun K "_law_take" "_law_take" s__law_take ft fdt) (b__law_take : Binds K fdt ["_law_box_here", "_law_wide"] [])
    (G__law_take : FnOk P w K mg base CX0 1 ft fdt ["_law_box_here", "_law_wide"] spTake) : FnOk P w K mg base CX0 2 f fd ["_law_box_here", "_law_letters_here", "_law_most"] spText := by
  refine F.ok sc__law_text (fun vs H Q E h => ?_) (fun cdv A outer s H vs Q E hr h => ?_)
  · obtain ⟨b, z, m, o, rfl, _⟩ := h
    rfl
  · obtain ⟨b, z, m, o, rfl, hb, ho, z1, z2, hm, k⟩ := h
    have hu := hr.units
    refine ⟨_, (QSs.h (qpss_one (qps_ret (qpe_bmS PySem.F.slot_str_join PySem.F.type_str_join mt_joinU qpe_str (qpa_cons (qpe_comp rfl (compOk_of (sc := defScope s__law_text) (N := ["_law_box_here", "_law_letters_here", "_law_most"]) (Nc := ["_law_k", "_law_letters_here", "_law_box_here"]) (js := [none, some 1, some 0]) (by decide +kernel)) (qpi_range1 rfl T.n_range (qpa_cons (qpe_call G__law_take (hr.mono (by decide)) rfl T.m__law_take F__law_take.kp b__law_take .nil pass0 (qpa_cons (qpv 0) (qpa_cons (qpe_op op_addW (qpv 2) qpe_int) qpa_nil))) qpa_nil)) (fun _ _ _ _ => (qpg_name (i := 0) (show List.Nodup [("_law_k" : Str), ("_law_letters_here" : Str), ("_law_box_here" : Str)] from by decide +kernel) rfl (by first | exact Or.inl rfl | exact Or.inr rfl))) (fun _ _ _ _ => (qpe_ix ix_U (qpv 1) (qpe_call G__law_take (hr.mono (by decide)) rfl T.m__law_take F__law_take.kp b__law_take .nil pass0 (qpa_cons (qpv 2) (qpa_cons (qpe_callB call_lenU (by rfl) T.n_len bt_len (qpa_cons (qpv 1) qpa_nil)) qpa_nil))) (fun _ _ => rfl)))) qpa_nil) mono_c)))), ?_⟩
    have hsz : sizeLine = 16777216 := PySem.sizeLine_eq
    have hzl : z.cps.toList.length = z.length := by simp [Str.length]
    simp!
    refine ⟨b, _, o, rfl, hb, ho, by omega, by omega, fun d o1 d0 d1 ho1 => ?_⟩
    obtain ⟨n, rfl⟩ : ∃ n : Nat, d = (n : Int) := ⟨d.toNat, by omega⟩
    obtain ⟨xs0, rfl⟩ := ho.lst7
    refine ⟨_, rfl, by omega, by omega, fun D hD => ?_⟩
    rw [Int.toNat_natCast]
    refine comp_box (fun x => ∃ c : Nat, x = .str ⟨#[c]⟩ ∧ c ∈ sg z) upd_same ho1 hD (by omega) (fun x H' o' Q' hb' ho' hq => ?_) fun v xs o' hl hP ho' => ?_
    · simp!
      refine ⟨by omega, b, z.length, _, rfl, hb', ho', by omega, by omega, fun e o5 e0 e1 ho5 => ?_⟩
      simp!
      exact ⟨by omega, z.cps.toList[e.toNat]'(by omega), atI_of e0 (by simp), hq _ _ ⟨_, rfl, List.getElem_mem _⟩ ho5⟩
    · obtain ⟨ys, rfl, hy2, hy3⟩ := ones_in hP
      rw [List.length_map] at hl
      have ns : (ys.map (·.length)).sum = ys.length := by
        clear hl hP hy3
        induction ys with
        | nil => rfl
        | cons y ys ih => simp [hy2 y (.head _), ih fun z hz => hy2 z (.tail _ hz)]; omega
      refine ⟨ys, upd_same, by rw [ns]; show ys.length + ys.length * 0 ≤ _; omega, ?_⟩
      have lj := PySem.W.KT.join_ones ys hy2
      have nbD : b ≠ D := ne_of_none upd_same hD
      obtain ⟨xs1, rfl⟩ := id ho1.lst7
      refine k _ o' _ (by rw [lj]; omega) (fun c hc => ?_) ho' (by rw [upd_ne nbD, upd_same]) ((((Kp.refl [b] H).set hb (.inl (.head _))).set upd_same (.inl (.head _))).new (by rw [upd_ne nbD.symm]; exact hD))
      rw [joinT] at hc
      exact hy3 c hc
end
def jn (b : Bool) (u v : Bool) : Bool := if b then u && v else u || v
def spOv : Sp := fun vs H Q _ => ∃ (p : Addr) (b : Bool) (l : List Bool), vs = [.str (qw b), .ref p] ∧ H p = some (.lst (bV l)) ∧ Q (.bl (bd b l)) H
structure TOv (mg : Str → Option Value) : Prop where
  n_any : mg "any" = none
  n_all : mg "all" = none
def spJo : Sp := fun vs H Q _ => ∃ (b u v : Bool), vs = [.str (bw b), .bl u, .bl v] ∧ Q (.bl (jn b u v)) H
theorem qw_some (b : Bool) : qw b = Str.ofString "some" ↔ b = true := by cases b <;> decide +kernel
theorem bw_and (b : Bool) : bw b = Str.ofString "and" ↔ b = true := by cases b <;> decide +kernel
section
variable {P : Program} {w : World} {K : PySem.W.Frag} {mg : Str → Option Value} {base : Heap}
abbrev s__law_over : Stmt := top 20
theorem sc__law_over : FnScope ["_law_word", "_law_truths"] ["_law_word", "_law_truths"] (defScope s__law_over) := ⟨rfl, rfl, rfl, by decide +kernel, rfl, by decide +kernel, by decide +kernel⟩
theorem ok__law_over {f : Addr} {fd : FuncData} (F : Fun K "_law_over" "_law_over" s__law_over f fd) (T : TOv mg) : FnOk P w K mg base CX0 1 f fd ["_law_word", "_law_truths"] spOv := by
  refine F.ok sc__law_over (fun vs H Q E h => ?_) (fun cdv A outer s H vs Q E hr h => ?_)
  · obtain ⟨p, b, l, rfl, _⟩ := h
    rfl
  · obtain ⟨p, b, l, rfl, hp, k⟩ := h
    have hu := hr.units
    refine exQ (qpss_cons (qps_if (qpt_cmpR (op_eqU hu) (qpv 0) qpe_str (nomark _)) (qpss_one (qps_ret (qpe_callB (call_anyU rfl) (by rfl) T.n_any bt_any (qpa_cons (qpv 1) qpa_nil)))) qpss_nil)
    (qpss_one (qps_ret (qpe_callB (call_allU rfl) (by rfl) T.n_all bt_all (qpa_cons (qpv 1) qpa_nil))))) ?_
    simp!
    refine ite2 (fun e => ⟨l, hp, ?_⟩) (fun e => ⟨l, hp, ?_⟩)
    · rw [(qw_some b).mp e] at k; exact k
    · have : b = false := by cases b with | false => rfl | true => exact absurd ((qw_some true).mpr rfl) e
      rw [this] at k; exact k
abbrev s__law_joined : Stmt := top 21
theorem sc__law_joined : FnScope ["_law_word", "_law_one", "_law_other"] ["_law_word", "_law_one", "_law_other"] (defScope s__law_joined) := ⟨rfl, rfl, rfl, by decide +kernel, rfl, by decide +kernel, by decide +kernel⟩
theorem ok__law_joined {f : Addr} {fd : FuncData} (F : Fun K "_law_joined" "_law_joined" s__law_joined f fd) : FnOk P w K mg base CX0 1 f fd ["_law_word", "_law_one", "_law_other"] spJo := by
  refine F.ok sc__law_joined (fun vs H Q E h => ?_) (fun cdv A outer s H vs Q E hr h => ?_)
  · obtain ⟨b, u, v, rfl, _⟩ := h
    rfl
  · obtain ⟨b, u, v, rfl, k⟩ := h
    have hu := hr.units
    refine exQ (qpss_cons (qps_if (qpt_cmpR (op_eqU hu) (qpv 0) qpe_str (nomark _)) (qpss_one (qps_ret (qpe_and (qpv 1) (qpe_one (qpv 2))))) qpss_nil)
    (qpss_one (qps_ret (qpe_or (qpv 1) (qpe_one (qpv 2)))))) ?_
    simp!
    refine ite2 (fun e => ?_) (fun e => ?_)
    · rw [(bw_and b).mp e] at k
      refine ite2 (fun c => ?_) (fun c => ?_)
      · rw [c] at k; exact k
      · rw [Bool.eq_false_iff.mpr c] at k; exact k
    · have : b = false := by cases b with | false => rfl | true => exact absurd ((bw_and true).mpr rfl) e
      rw [this] at k
      refine ite2 (fun c => ?_) (fun c => ?_)
      · rw [c] at k; exact k
      · rw [Bool.eq_false_iff.mpr c] at k; exact k
end
structure Asked (z : Str) (rs : List RS) (zs : List Str) (kvs : List (L2.Key × Int)) (ρ : Str → Nat) : Prop where
  ok : okR zs rs
  zl : zs.length ≤ 26
  n1 : 1 ≤ rs.length
  n9 : rs.length ≤ 100
  okz : OkS zs
  hz : z.length ≤ 1000000
  nd : (kvs.map Prod.fst).Nodup
  at_ : ∀ F, CF zs F rs → (∀ k, k < rs.length → Bdm z.length (F.getD k []).length) ∧ ∀ y ∈ F.getD (rs.length - 1) [], valV (kvs.map kI) (.inr y) = some (.int (ρ y : Nat)) ∧ ρ y < z.length
def spTe : Sp := fun vs H Q _ => ∃ (pr pd : Addr) (z : Str) (us : List V) (rs : List RS) (zs : List Str) (kvs : List (L2.Key × Int)) (ρ : Str → Nat), vs = [.ref pr, .str z, .ref pd, .bl (sAt (sms z.cps.toList rs) (rs.length - 1) ρ)] ∧ H pr = some (.lst us) ∧ RowsAt H us rs ∧ Asked z rs zs kvs ρ ∧ H pd = some (.dK (kvs.map kI)) ∧ ∀ H', Kp [] H H' → Q (.bl true) H'
structure TTe (K : PySem.W.Frag) (mg : Str → Option Value) (fh : Addr) : Prop where
  n_dict : mg "dict" = none
  n_tuple : mg "tuple" = none
  n_isinstance : mg "isinstance" = none
  n_bool : mg "bool" = none
  isb : PySem.W.kitOne K (.type "bool") (.type "bool") = some true
  m_holds : mg "holds" = some (.ref fh)
section
variable {P : Program} {w : World} {K : PySem.W.Frag} {mg : Str → Option Value} {base : Heap}
abbrev s__law_tells_so : Stmt := top 22
theorem sc__law_tells_so : FnScope ["_law_rows", "_law_text_here", "_law_places", "_law_due", "_law_handed", "_law_found"] ["_law_rows", "_law_text_here", "_law_places", "_law_due"] (defScope s__law_tells_so) := ⟨rfl, rfl, rfl, by decide +kernel, rfl, by decide +kernel, by decide +kernel⟩
theorem ok__law_tells_so {f fh : Addr} {fd fdh : FuncData} (F : Fun K "_law_tells_so" "_law_tells_so" s__law_tells_so f fd) (T : TTe K mg fh) (F_holds : Fun K "holds" "holds" s_holds fh fdh) (b_holds : Binds K fdh ["saying", "text", "places"] []) (G_holds : FnOk P w K mg base CX0 6 fh fdh ["saying", "text", "places"] spHo) : FnOk P w K mg base CX0 7 f fd ["_law_rows", "_law_text_here", "_law_places", "_law_due"] spTe := by
  refine F.ok sc__law_tells_so (fun vs H Q E h => ?_) (fun cdv A outer s H vs Q E hr h => ?_)
  · obtain ⟨pr, pd, z, us, rs, zs, kvs, ρ, rfl, _⟩ := h
    rfl
  · obtain ⟨pr, pd, z, us, rs, zs, kvs, ρ, rfl, hpr, ra, as, hpd, k⟩ := h
    have hu := hr.units
    have hsz : sizeLine = 16777216 := PySem.sizeLine_eq
    refine exQ (qpss_cons (qps_set (i := 4) sc__law_tells_so.nd rfl (by first | exact Or.inl rfl | exact Or.inr rfl) (qpe_callTy (call_dictK rfl hu) (by rfl) T.n_dict bt_dict (qpa_cons (qpv 2) qpa_nil)))
    (qpss_cons (qps_set (i := 5) sc__law_tells_so.nd rfl (by first | exact Or.inl rfl | exact Or.inr rfl) (qpe_call G_holds (hr.mono (by decide)) rfl T.m_holds F_holds.kp b_holds .nil pass0 (qpa_cons (qpe_callTy call_tupleU (by rfl) T.n_tuple bt_tuple (qpa_cons (qpv 0) qpa_nil)) (qpa_cons (qpv 1) (qpa_cons (qpv 4) qpa_nil)))))
    (qpss_one (qps_ret (qpe_and (qpe_callB (call_isinstanceK (K := K) rfl) (by rfl) T.n_isinstance bt_isinstance (qpa_cons (qpv 5) (qpa_cons (qpe_bltn (v := .ty "bool") rfl T.n_bool bt_bool rfl) qpa_nil))) (qpe_and (qpe_cmpR (op_eqU hu) (qpv 5) (qpv 3) (nomark _)) (qpe_one (qpe_cmpR (op_eqK hu) (qpv 4) (qpv 2) (nomark _))))))))) ?_
    simp!
    refine rDictK.copy hpd fun p hp => ?_
    have k1 : Kp [] H (upd H p (.dK (kvs.map kI))) := (Kp.refl [] H).new hp
    have e1 : upd H p (.dK (kvs.map kI)) p = _ := upd_same
    generalize upd H p (.dK (kvs.map kI)) = H1 at k1 e1 ⊢
    refine rTupleU_lst (k1.old _ _ hpr List.not_mem_nil) fun t ht => ?_
    have k2 : Kp [] H1 (upd H1 t (.tup us)) := (Kp.refl [] H1).new ht
    have e2 : upd H1 t (.tup us) t = _ := upd_same
    generalize upd H1 t (.tup us) = H2 at k2 e2 ⊢
    have k12 := k1.trans k2
    refine ⟨t, p, z, us, rs, zs, kvs.map kI, ρ, rfl, e2, ra.kp k12, as.ok, as.zl, as.n1, as.n9, as.okz, as.hz, k2.old _ _ e1 List.not_mem_nil, as.at_, fun H3 k3 => ?_⟩
    have k23 := k2.trans k3
    refine ⟨_, .bl _, _, T.isb, ?_⟩
    rw [if_pos rfl]
    refine ⟨_, rfl, ?_⟩
    rw [decide_eq_true rfl, if_pos rfl]
    exact ⟨kvs, as.nd, k23.old _ _ e1 List.not_mem_nil, (k1.trans k23).old _ _ hpd List.not_mem_nil, k _ (k1.trans k23)⟩
end
theorem range_getD {α : Type} (t : List Nat) (f : Nat → α) : (List.range t.length).map (fun p => f (t.getD p 0)) = t.map f := by
  refine List.ext_getElem (by simp) fun i h1 h2 => ?_
  have hi : i < t.length := by simpa using h2
  simp only [List.getElem_map, List.getElem_range, List.getD_eq_getElem?_getD, List.getElem?_eq_getElem hi]
  rfl
def R6 (x one oth : Str) (s0 s1 w0 w1 : Bool) (i j i' j' : Nat) : List RS := [.is x one, .qn s0 x 0, .is x oth, .bin w0 i j, .qn s1 x 3, .bin w1 i' j']
def wiB (t : List Nat) (one : Str) (s0 : Bool) : Bool := bd s0 (t.map fun c => decide ((⟨#[c]⟩ : Str) = one))
def heB (t : List Nat) (one oth : Str) (s0 w0 : Bool) (c : Nat) : Bool := jn w0 (decide ((⟨#[c]⟩ : Str) = oth)) (wiB t one s0)
def whB (t : List Nat) (one oth : Str) (s0 s1 w0 : Bool) : Bool := bd s1 (t.map (heB t one oth s0 w0))
theorem sm_bin (t : List Nat) (S : List Sm) (b : Bool) (i j : Nat) (ρ : Str → Nat) : sm t S (.bin b i j) ρ = jn b (sAt S i ρ) (sAt S j ρ) := by cases b <;> rfl
theorem jn_comm (b u v : Bool) : jn b u v = jn b v u := by cases b <;> cases u <;> cases v <;> rfl
section
variable (t : List Nat) (x one oth : Str) (s0 s1 w0 w1 : Bool)
theorem vq0 (S : List Sm) (ρ : Str → Nat) : sm t (sm t [] (.is x one) :: S) (.qn s0 x 0) ρ = wiB t one s0 := by
  rw [sm_qn]
  refine congrArg (bd s0) ?_
  rw [← range_getD t]
  exact List.map_congr_left fun p _ => by show decide (_ = one) = _; rw [show up ρ x p x = p from if_pos rfl]
theorem vb {i j : Nat} (hij : (i = 1 ∧ j = 2) ∨ (i = 2 ∧ j = 1)) (ρ : Str → Nat) : sm t (sms t [.is x one, .qn s0 x 0, .is x oth]) (.bin w0 i j) ρ = heB t one oth s0 w0 (t.getD (ρ x) 0) := by
  rw [sm_bin]
  rcases hij with ⟨rfl, rfl⟩ | ⟨rfl, rfl⟩
  · rw [jn_comm]; exact congrArg (jn w0 _) (vq0 t x one s0 [] ρ)
  · exact congrArg (jn w0 _) (vq0 t x one s0 [] ρ)
theorem vq3 {i j : Nat} (hij : (i = 1 ∧ j = 2) ∨ (i = 2 ∧ j = 1)) (ρ : Str → Nat) : sm t (sms t [.is x one, .qn s0 x 0, .is x oth, .bin w0 i j]) (.qn s1 x 3) ρ = whB t one oth s0 s1 w0 := by
  rw [sm_qn]
  refine congrArg (bd s1) ?_
  rw [← range_getD t]
  refine List.map_congr_left fun p _ => ?_
  rw [show sAt (sms t [.is x one, .qn s0 x 0, .is x oth, .bin w0 i j]) 3 (up ρ x p) = _ from vb t x one oth s0 w0 hij (up ρ x p), show up ρ x p x = p from if_pos rfl]
theorem vb5 {i j i' j' : Nat} (hij : (i = 1 ∧ j = 2) ∨ (i = 2 ∧ j = 1)) (hij' : (i' = 2 ∧ j' = 4) ∨ (i' = 4 ∧ j' = 2)) (ρ : Str → Nat) : sm t (sms t [.is x one, .qn s0 x 0, .is x oth, .bin w0 i j, .qn s1 x 3]) (.bin w1 i' j') ρ = jn w1 (decide ((⟨#[t.getD (ρ x) 0]⟩ : Str) = oth)) (whB t one oth s0 s1 w0) := by
  rw [sm_bin]
  rcases hij' with ⟨rfl, rfl⟩ | ⟨rfl, rfl⟩
  · exact congrArg (jn w1 _) (vq3 t x one oth s0 s1 w0 hij ρ)
  · rw [jn_comm]; exact congrArg (jn w1 _) (vq3 t x one oth s0 s1 w0 hij ρ)
end
theorem ok6 {x one oth : Str} {s0 s1 w0 w1 : Bool} {i j i' j' : Nat} (hij : (i = 1 ∧ j = 2) ∨ (i = 2 ∧ j = 1)) (hij' : (i' = 2 ∧ j' = 4) ∨ (i' = 4 ∧ j' = 2)) : okR [x] (R6 x one oth s0 s1 w0 w1 i j i' j') := fun k r e => by
  match k, e with
  | 0, e => cases e; simp [RS.ok]
  | 1, e => cases e; simp [RS.ok]
  | 2, e => cases e; simp [RS.ok]
  | 3, e => cases e; simp only [RS.ok]; omega
  | 4, e => cases e; simp [RS.ok]
  | 5, e => cases e; simp only [RS.ok]; omega
  | k + 6, e => simp [R6] at e
theorem cf_one {x : Str} {F : List (List Str)} {rs : List RS} (h : CF [x] F rs) (k : Nat) : (F.getD k []).length ≤ 1 ∧ ∀ y ∈ F.getD k [], y = x := ⟨h.le k, fun y hy => List.mem_singleton.mp (h.sub k y hy)⟩
theorem cf_bound {x : Str} {F : List (List Str)} {rs : List RS} (h : CF [x] F rs) {k i : Nat} {b : Bool} (e : rs[k]? = some (.qn b x i)) : F.getD k [] = [] := List.eq_nil_iff_forall_not_mem.mpr fun y hy => by
  have := ((h.at_ k _ e).me y).mp hy
  have e1 := (cf_one h k).2 y hy
  simp [fm, e1] at this
theorem pow_small {m j : Nat} (hm : m ≤ 10) (hj : j ≤ 3) : m ^ j ≤ 1000000 := by
  have h1 : m ^ j ≤ 10 ^ j := Nat.pow_le_pow_left hm j
  have h2 : 10 ^ j ≤ 10 ^ 3 := Nat.pow_le_pow_right (by decide) hj
  omega
theorem bdm_small {m n : Nat} (hm : m ≤ 10) (hn : n ≤ 2) : Bdm m n := ⟨by omega, fun j hj => pow_small hm (by omega)⟩
theorem rows_take {H : Hp} : ∀ {us : List V} {rs : List RS} (n : Nat), RowsAt H us rs → RowsAt H (us.take n) (rs.take n)
  | _, _, 0, _ => .nil
  | _, _, _ + 1, .nil => .nil
  | _, _, n + 1, .cons h t => .cons h (rows_take n t)
theorem cutV_take {us : List V} {n : Nat} (h : n ≤ us.length) : cutV us none (some (n : Int)) = us.take n := by
  unfold cutV
  rw [HT.sIx_nat, HT.sIx_none, Nat.min_eq_left h, List.drop_zero, Nat.sub_zero]
theorem take6 {x one oth : Str} {s0 s1 w0 w1 : Bool} {i j i' j' n : Nat} (h6 : n ≤ 6) : ((R6 x one oth s0 s1 w0 w1 i j i' j').take n).length = n := by rw [List.length_take]; simp [R6]; omega
theorem askA {x one oth : Str} {s0 s1 w0 w1 : Bool} {i j i' j' : Nat} (hij : (i = 1 ∧ j = 2) ∨ (i = 2 ∧ j = 1)) (hij' : (i' = 2 ∧ j' = 4) ∨ (i' = 4 ∧ j' = 2)) {z : Str} (hz : z.length ≤ 10) (okx : PyData.strOk x = true) {n : Nat} (h1 : 1 ≤ n) (h6 : n ≤ 6) {kvs : List (L2.Key × Int)} {ρ : Str → Nat} (nd : (kvs.map Prod.fst).Nodup) (hx : valV (kvs.map kI) (.inr x) = some (.int (ρ x : Nat))) (hl : ρ x < z.length) : Asked z ((R6 x one oth s0 s1 w0 w1 i j i' j').take n) [x] kvs ρ := by
  have tl := take6 (x := x) (one := one) (oth := oth) (s0 := s0) (s1 := s1) (w0 := w0) (w1 := w1) (i := i) (j := j) (i' := i') (j' := j') h6
  refine ⟨(ok6 hij hij').take n, by simp, by omega, by omega, fun y hy => by rw [List.mem_singleton.mp hy]; exact okx, by omega, nd, fun F cf => ⟨fun k _ => bdm_small hz (Nat.le_trans (cf_one cf k).1 (by decide)), fun y hy => ?_⟩⟩
  rw [(cf_one cf _).2 y hy]
  exact ⟨hx, hl⟩
theorem askB {x one oth : Str} {s0 s1 w0 w1 : Bool} {i j i' j' : Nat} (hij : (i = 1 ∧ j = 2) ∨ (i = 2 ∧ j = 1)) (hij' : (i' = 2 ∧ j' = 4) ∨ (i' = 4 ∧ j' = 2)) {z : Str} (hz : z.length ≤ 10) (okx : PyData.strOk x = true) {n : Nat} (h1 : 1 ≤ n) (h6 : n ≤ 6) {b : Bool} {u : Nat} (e : ((R6 x one oth s0 s1 w0 w1 i j i' j').take n)[n - 1]? = some (.qn b x u)) : Asked z ((R6 x one oth s0 s1 w0 w1 i j i' j').take n) [x] [] fun _ => 0 := by
  have tl := take6 (x := x) (one := one) (oth := oth) (s0 := s0) (s1 := s1) (w0 := w0) (w1 := w1) (i := i) (j := j) (i' := i') (j' := j') h6
  refine ⟨(ok6 hij hij').take n, by simp, by omega, by omega, fun y hy => by rw [List.mem_singleton.mp hy]; exact okx, by omega, .nil, fun F cf => ⟨fun k _ => bdm_small hz (Nat.le_trans (cf_one cf k).1 (by decide)), fun y hy => ?_⟩⟩
  rw [tl, cf_bound cf e] at hy
  cases hy
theorem two_val {x y : Str} (h : x ≠ y) (a c : Int) : mergeK [] [((.inr x : L2.Key), V.int a), (.inr y, .int c)] = [((.inr x : L2.Key), a), (.inr y, c)].map kI := by
  have : ¬ (Sum.inr x : L2.Key) = .inr y := fun e => h (Sum.inr.inj e)
  simp [mergeK, putK, kI, this]
theorem val_at {x y : Str} (h : x ≠ y) (a c : Int) : valV ([((.inr x : L2.Key), a), (.inr y, c)].map kI) (.inr x) = some (.int a) ∧ valV ([((.inr x : L2.Key), a), (.inr y, c)].map kI) (.inr y) = some (.int c) := by
  have : ¬ (Sum.inr x : L2.Key) = .inr y := fun e => h (Sum.inr.inj e)
  simp [valV, kI, this]
theorem nd_two {x y : Str} (h : x ≠ y) (a c : Int) : ([((.inr x : L2.Key), a), (.inr y, c)].map Prod.fst).Nodup := by
  have : ¬ (Sum.inr x : L2.Key) = .inr y := fun e => h (Sum.inr.inj e)
  simp [this]
structure SB (H : Hp) (b : Addr) (H' : Hp) : Prop where
  kp : Kp [b] H H'
  bx : ∃ o, H' b = some o ∧ BoxO o
theorem SB.take {H H' : Hp} {b : Addr} {o1 : HO} (h : SB H b H') (ho1 : BoxO o1) : SB H b (upd H' b o1) := by
  obtain ⟨kp, o, hb, ho⟩ := h
  obtain ⟨xs, rfl⟩ := ho.lst
  exact ⟨kp.set hb (.inl (.head _)), o1, upd_same, ho1⟩
theorem SB.new {H H' : Hp} {b p : Addr} {x : HO} (h : SB H b H') (hp : H' p = none) : SB H b (upd H' p x) := by
  obtain ⟨kp, o, hb, ho⟩ := h
  exact ⟨kp.new hp, o, by rw [upd_ne (ne_of_none hb hp)]; exact hb, ho⟩
theorem SB.keep {H H' H2 : Hp} {b : Addr} (h : SB H b H') (k : Kp [] H' H2) : SB H b H2 := by
  obtain ⟨kp, o, hb, ho⟩ := h
  exact ⟨kp.trans (k.mono (by simp)), o, k.old _ _ hb List.not_mem_nil, ho⟩
theorem SB.trans {H H' H2 : Hp} {b : Addr} (h : SB H b H') (k : SB H' b H2) : SB H b H2 := ⟨h.kp.trans k.kp, k.bx⟩
theorem SB.tq {H H' : Hp} {b : Addr} (h : SB H b H') {w : Int} (w0 : 0 < w) (w1 : w < 1073741824) {Q : VK} {E : XK} (q : ∀ d H2, 0 ≤ d → d < w → SB H b H2 → Kp [b] H' H2 → Q (.int d) H2) : spTake [.ref b, .int w] H' Q E := by
  obtain ⟨o, hb, ho⟩ := h.bx
  refine ⟨b, w, o, rfl, hb, ho, w0, w1, fun d o' d0 d1 ho' => q d _ d0 d1 (h.take ho') ?_⟩
  obtain ⟨xs, rfl⟩ := ho.lst
  exact (Kp.refl [b] H').set hb (.inl (.head _))
theorem SB.ne {H H' : Hp} {b p : Addr} (h : SB H b H') (hp : H' p = none) : p ≠ b := by
  obtain ⟨o, hb, _⟩ := h.bx
  exact (ne_of_none hb hp).symm
theorem comp_boxN {lo : Int} {n : Nat} {D b : Addr} {te : TE} {E : Ends} {r : L2.St} {H0 H : Hp} (P : V → Prop) (sb : SB H0 b H) (hD : H D = none) (hz : n ≤ sizeLine)
    (he : ∀ x H' Q, SB H0 b H' → (∀ v H2, P v → SB H0 b H2 → Kp [b] H' H2 → Q v H2) → te (some x :: r) H' Q)
    (hn : ∀ v xs H', xs.length = n → (∀ x ∈ xs, P x) → H' D = some (.lst xs) → SB H0 b H' → E.nx (v :: r) H') : LoopR (Itr lo n) (gName 0) (tEmit D te) E (none :: r) (upd H D (.lst [])) := by
  have nD : D ≠ b := sb.ne hD
  have hD0 : H0 D = none := sb.kp.free hD
  refine loop_range (fun i σ H' => ∃ (v : Option V) (xs : List V), σ = v :: r ∧ xs.length = i ∧ (∀ x ∈ xs, P x) ∧ H' D = some (.lst xs) ∧ SB H0 b H') ?_ ?_ ?_
  · exact ⟨none, [], rfl, rfl, (fun _ h => nomatch h), upd_same, sb.new hD⟩
  · rintro i σ H' hi ⟨v, xs, rfl, hl, hP, hD', sb'⟩
    refine he _ H' _ sb' fun y H2 hy sb2 k2 => ?_
    have hD2 := k2.old _ _ hD' (by simpa using nD)
    refine ⟨xs, by rw [hD2]; rfl, by omega, _, xs ++ [y], rfl, by simp [hl], fun x hx => ?_, upd_same, ?_⟩
    · rcases List.mem_append.mp hx with h | h
      · exact hP x h
      · rw [List.mem_singleton.mp h]; exact hy
    · obtain ⟨o, ho, bo⟩ := sb2.bx
      exact ⟨sb2.kp.set hD2 (.inr hD0), o, by rw [upd_ne nD.symm]; exact ho, bo⟩
  · rintro σ H' ⟨v, xs, rfl, hl, hP, hD', sb'⟩
    exact hn v xs H' hl hP hD' sb'
def spAn : Sp := fun vs H Q _ => ∃ (b : Addr) (x y zl z : Str) (o : HO), vs = [.ref b, .str x, .str y, .str zl, .str z] ∧ H b = some o ∧ BoxO o ∧ x ≠ y ∧ PyData.strOk x = true ∧ 1 ≤ zl.length ∧ zl.length ≤ 1000 ∧ z.length ≤ 10 ∧ ∀ H', SB H b H' → Q (.bl true) H'
structure AI (H : Hp) (b D E pr : Addr) (s0 s1 w0 w1 : Bool) (rs : List RS) (H' : Hp) : Prop where
  sb : SB H b H'
  hD : H' D = some (.lst [.str (qw s0), .str (qw s1)])
  hE : H' E = some (.lst [.str (bw w0), .str (bw w1)])
  hr : ∃ us, H' pr = some (.lst us) ∧ RowsAt H' us rs
  fD : H D = none
  fE : H E = none
  fr : H pr = none
  nb : D ≠ b ∧ E ≠ b ∧ pr ≠ b
  nr : D ≠ pr ∧ E ≠ pr
theorem AI.keep {H H1 H2 : Hp} {b D E pr : Addr} {s0 s1 w0 w1 : Bool} {rs : List RS} (I : AI H b D E pr s0 s1 w0 w1 rs H1) (k : Kp [b] H1 H2) (sb : SB H b H2) : AI H b D E pr s0 s1 w0 w1 rs H2 := by
  obtain ⟨us, h1, h2⟩ := I.hr
  exact ⟨sb, k.old _ _ I.hD (by simpa using I.nb.1), k.old _ _ I.hE (by simpa using I.nb.2.1), ⟨us, k.old _ _ h1 (by simpa using I.nb.2.2), h2.kp k⟩, I.fD, I.fE, I.fr, I.nb, I.nr⟩
theorem AI.keep0 {H H1 H2 : Hp} {b D E pr : Addr} {s0 s1 w0 w1 : Bool} {rs : List RS} (I : AI H b D E pr s0 s1 w0 w1 rs H1) (k : Kp [] H1 H2) : AI H b D E pr s0 s1 w0 w1 rs H2 := I.keep (k.mono (by simp)) (I.sb.keep k)
theorem AI.add {H H1 : Hp} {b D E pr t : Addr} {s0 s1 w0 w1 : Bool} {rs : List RS} {r : RS} {us : List V} (I : AI H b D E pr s0 s1 w0 w1 rs H1) (h1 : H1 pr = some (.lst us)) (h2 : RowsAt H1 us rs) (ht : H1 t = some (.tup (rowV r))) : AI H b D E pr s0 s1 w0 w1 (rs ++ [r]) (upd H1 pr (.lst (us ++ [.ref t]))) := by
  have k : Kp [pr] H1 (upd H1 pr (.lst (us ++ [.ref t]))) := (Kp.refl _ H1).set h1 (.inl (.head _))
  obtain ⟨o, ho, bo⟩ := I.sb.bx
  exact ⟨⟨I.sb.kp.set h1 (.inr I.fr), o, by rw [upd_ne I.nb.2.2.symm]; exact ho, bo⟩, by rw [upd_ne I.nr.1]; exact I.hD, by rw [upd_ne I.nr.2]; exact I.hE, ⟨_, upd_same, Paired.snoc (h2.kp k) ⟨t, rfl, k.tup _ _ ht⟩⟩, I.fD, I.fE, I.fr, I.nb, I.nr⟩
theorem AI.bin {H H5 : Hp} {b D E pr : Addr} {s0 s1 w0 w1 : Bool} {rs : List RS} {us : List V} (I : AI H b D E pr s0 s1 w0 w1 rs H5) (hus : H5 pr = some (.lst us)) (ras : RowsAt H5 us rs) (hl : rs.length < 100) (w : Bool) (i1 j1 i2 j2 : Nat) {R : Hp → Prop} (hR : ∀ i j : Nat, ((i = i1 ∧ j = j1) ∨ (i = i2 ∧ j = j2)) → ∀ H', AI H b D E pr s0 s1 w0 w1 (rs ++ [.bin w i j]) H' → R H') :
    1 ≤ sizeLine ∧ ∀ p, H5 p = none → 2 ≤ sizeLine ∧ ∀ p1, upd H5 p (.tup [.str (bw w)]) p1 = none → 2 ≤ sizeLine ∧ ∀ p2, upd (upd H5 p (.tup [.str (bw w)])) p1 (.tup [.int (i1 : Int), .int (j1 : Int)]) p2 = none → 2 ≤ sizeLine ∧ ∀ p3, upd (upd (upd H5 p (.tup [.str (bw w)])) p1 (.tup [.int (i1 : Int), .int (j1 : Int)])) p2 (.tup [.int (i2 : Int), .int (j2 : Int)]) p3 = none →
      spTake [.ref b, .int 2] (upd (upd (upd (upd H5 p (.tup [.str (bw w)])) p1 (.tup [.int (i1 : Int), .int (j1 : Int)])) p2 (.tup [.int (i2 : Int), .int (j2 : Int)])) p3 (.lst [.ref p1, .ref p2])) (fun y H2 => rIxU (.ref p3) y H2 fun y H2 => rAddX (.ref p) y H2 fun x1 H1 => ∃ xs, lstOf (H1 pr) = some xs ∧ xs.length < sizeLine ∧ R (upd H1 pr (.lst (xs ++ [x1])))) E0 := by
  have hsz : sizeLine = 16777216 := PySem.sizeLine_eq
  refine ⟨by omega, fun p hp => ⟨by omega, fun p1 hp1 => ⟨by omega, fun p2 hp2 => ⟨by omega, fun p3 hp3 => ?_⟩⟩⟩⟩
  have q0 : Kp [] H5 _ := (((Kp.refl [] H5).new (o := .tup [.str (bw w)]) hp).new (o := .tup [.int (i1 : Int), .int (j1 : Int)]) hp1).new (o := .tup [.int (i2 : Int), .int (j2 : Int)]) hp2
  have q3 := q0.new (o := .lst [V.ref p1, V.ref p2]) hp3
  have e0 := ((((Kp.refl [] _).new (o := .tup [.int (i1 : Int), .int (j1 : Int)]) hp1).new (o := .tup [.int (i2 : Int), .int (j2 : Int)]) hp2).new (o := .lst [V.ref p1, V.ref p2]) hp3).tup p _ upd_same
  have e1 := (((Kp.refl [] _).new (o := .tup [.int (i2 : Int), .int (j2 : Int)]) hp2).new (o := .lst [V.ref p1, V.ref p2]) hp3).tup p1 _ upd_same
  have e2 := ((Kp.refl [] _).new (o := .lst [V.ref p1, V.ref p2]) hp3).tup p2 _ upd_same
  have I8 := I.keep0 q3
  have n3 : p3 ≠ b := (I.keep0 q0).sb.ne hp3
  refine I8.sb.tq (by decide) (by decide) fun d H9 d0 d1 sb9 k9 => ?_
  have I9 := I8.keep k9 sb9
  have e3 := k9.old p3 _ upd_same (by simpa using n3)
  have hus9 := k9.old _ _ (q3.old _ _ hus List.not_mem_nil) (by simpa using I.nb.2.2)
  have ras9 := (ras.kp q3).kp k9
  have fin : ∀ (i j : Nat) (t : Addr), ((i = i1 ∧ j = j1) ∨ (i = i2 ∧ j = j2)) → H9 t = some (.tup [.int (i : Int), .int (j : Int)]) → rAddX (.ref p) (.ref t) H9 fun x1 H1 => ∃ xs, lstOf (H1 pr) = some xs ∧ xs.length < sizeLine ∧ R (upd H1 pr (.lst (xs ++ [x1]))) := fun i j t hij ht => by
    refine ⟨p, t, _, _, rfl, rfl, k9.tup _ _ e0, ht, by simp; omega, fun u H1 k1 hu => ?_⟩
    have hus1 := k1.old _ _ hus9 List.not_mem_nil
    refine ⟨us, by rw [hus1]; rfl, by rw [Paired.length ras]; omega, hR i j hij _ ((I9.keep0 k1).add hus1 (ras9.kp k1) hu)⟩
  have : d = 0 ∨ d = 1 := by omega
  rcases this with rfl | rfl
  · exact ⟨_, by rw [e3]; rfl, _, atI_0 _ _, fin i1 j1 p1 (.inl ⟨rfl, rfl⟩) (k9.tup _ _ e1)⟩
  · exact ⟨_, by rw [e3]; rfl, _, atI_1 _ _ _, fin i2 j2 p2 (.inr ⟨rfl, rfl⟩) (k9.tup _ _ e2)⟩
structure TAn (mg : Str → Option Value) (ft fo fj fs : Addr) : Prop where
  n_range : mg "range" = none
  n_len : mg "len" = none
  m__law_take : mg "_law_take" = some (.ref ft)
  m__law_over : mg "_law_over" = some (.ref fo)
  m__law_joined : mg "_law_joined" = some (.ref fj)
  m__law_tells_so : mg "_law_tells_so" = some (.ref fs)
section
variable {P : Program} {w : World} {K : PySem.W.Frag} {mg : Str → Option Value} {base : Heap}
abbrev s__law_anew : Stmt := top 23
theorem sc__law_anew : FnScope ["_law_box_here", "_law_x", "_law_y", "_law_letters_here", "_law_text_here", "_law_sweeps", "_law_words", "_law_one", "_law_other", "_law_rows", "_law_within", "_law_here", "_law_whole", "_law_place"] ["_law_box_here", "_law_x", "_law_y", "_law_letters_here", "_law_text_here"] (defScope s__law_anew) := ⟨rfl, rfl, rfl, by decide +kernel, rfl, by decide +kernel, by decide +kernel⟩
theorem ok__law_anew {f ft fo fj fs : Addr} {fd fdt fdo fdj fds : FuncData} (F : Fun K "_law_anew" "_law_anew" s__law_anew f fd) (T : TAn mg ft fo fj fs) (F__law_take : Fun K "_law_take" "_law_take" s__law_take ft fdt) (b__law_take : Binds K fdt ["_law_box_here", "_law_wide"] []) (G__law_take : FnOk P w K mg base CX0 1 ft fdt ["_law_box_here", "_law_wide"] spTake)
    (F__law_over : Fun K "_law_over" "_law_over" s__law_over fo fdo) (b__law_over : Binds K fdo ["_law_word", "_law_truths"] []) (G__law_over : FnOk P w K mg base CX0 1 fo fdo ["_law_word", "_law_truths"] spOv) (F__law_joined : Fun K "_law_joined" "_law_joined" s__law_joined fj fdj) (b__law_joined : Binds K fdj ["_law_word", "_law_one", "_law_other"] []) (G__law_joined : FnOk P w K mg base CX0 1 fj fdj ["_law_word", "_law_one", "_law_other"] spJo)
    (F__law_tells_so : Fun K "_law_tells_so" "_law_tells_so" s__law_tells_so fs fds) (b__law_tells_so : Binds K fds ["_law_rows", "_law_text_here", "_law_places", "_law_due"] []) (G__law_tells_so : FnOk P w K mg base CX0 7 fs fds ["_law_rows", "_law_text_here", "_law_places", "_law_due"] spTe) : FnOk P w K mg base CX0 8 f fd ["_law_box_here", "_law_x", "_law_y", "_law_letters_here", "_law_text_here"] spAn := by
  refine F.ok sc__law_anew (fun vs H Q E h => ?_) (fun cdv A outer s H vs Q E hr h => ?_)
  · obtain ⟨b, x, y, zl, z, o, rfl, _⟩ := h
    rfl
  · obtain ⟨b, x, y, zl, z, o, rfl, hb, ho, xy, okx, z1, z2, hz, k⟩ := h
    have hu := hr.units
    have hsz : sizeLine = 16777216 := PySem.sizeLine_eq
    have sb0 : SB H b H := ⟨Kp.refl _ _, o, hb, ho⟩
    refine exQ (qpss_mid (qps_setc (i := 5) sc__law_anew.nd rfl (by first | exact Or.inl rfl | exact Or.inr rfl) rfl (compOk_of (sc := defScope s__law_anew) (N := ["_law_box_here", "_law_x", "_law_y", "_law_letters_here", "_law_text_here", "_law_sweeps", "_law_words", "_law_one", "_law_other", "_law_rows", "_law_within", "_law_here", "_law_whole", "_law_place"]) (Nc := ["_law_k", "_law_box_here"]) (js := [none, some 0]) (by decide +kernel)) (qpi_range1 rfl T.n_range (qpa_cons qpe_int qpa_nil)) (fun _ _ _ _ => (qpg_name (i := 0) (show List.Nodup [("_law_k" : Str), ("_law_box_here" : Str)] from by decide +kernel) rfl (by first | exact Or.inl rfl | exact Or.inr rfl))) (fun _ _ _ _ => (qpe_ix ix_U (qpe_lst (qpa_cons qpe_str (qpa_cons qpe_str qpa_nil))) (qpe_call G__law_take (hr.mono (by decide)) rfl T.m__law_take F__law_take.kp b__law_take .nil pass0 (qpa_cons (qpv 1) (qpa_cons qpe_int qpa_nil))) (fun _ _ => rfl))))
    (qpss_mid (qps_set (i := 6) sc__law_anew.nd rfl (by first | exact Or.inl rfl | exact Or.inr rfl) (qpe_comp rfl (compOk_of (sc := defScope s__law_anew) (N := ["_law_box_here", "_law_x", "_law_y", "_law_letters_here", "_law_text_here", "_law_sweeps", "_law_words", "_law_one", "_law_other", "_law_rows", "_law_within", "_law_here", "_law_whole", "_law_place"]) (Nc := ["_law_k", "_law_box_here"]) (js := [none, some 0]) (by decide +kernel)) (qpi_range1 rfl T.n_range (qpa_cons qpe_int qpa_nil)) (fun _ _ _ _ => (qpg_name (i := 0) (show List.Nodup [("_law_k" : Str), ("_law_box_here" : Str)] from by decide +kernel) rfl (by first | exact Or.inl rfl | exact Or.inr rfl))) (fun _ _ _ _ => (qpe_ix ix_U (qpe_lst (qpa_cons qpe_str (qpa_cons qpe_str qpa_nil))) (qpe_call G__law_take (hr.mono (by decide)) rfl T.m__law_take F__law_take.kp b__law_take .nil pass0 (qpa_cons (qpv 1) (qpa_cons qpe_int qpa_nil))) (fun _ _ => rfl)))))
    (qpss_cons (qps_set (i := 7) sc__law_anew.nd rfl (by first | exact Or.inl rfl | exact Or.inr rfl) (qpe_ix ix_U (qpv 3) (qpe_call G__law_take (hr.mono (by decide)) rfl T.m__law_take F__law_take.kp b__law_take .nil pass0 (qpa_cons (qpv 0) (qpa_cons (qpe_callB call_lenU (by rfl) T.n_len bt_len (qpa_cons (qpv 3) qpa_nil)) qpa_nil))) (fun _ _ => rfl)))
    (qpss_cons (qps_set (i := 8) sc__law_anew.nd rfl (by first | exact Or.inl rfl | exact Or.inr rfl) (qpe_ix ix_U (qpv 3) (qpe_call G__law_take (hr.mono (by decide)) rfl T.m__law_take F__law_take.kp b__law_take .nil pass0 (qpa_cons (qpv 0) (qpa_cons (qpe_callB call_lenU (by rfl) T.n_len bt_len (qpa_cons (qpv 3) qpa_nil)) qpa_nil))) (fun _ _ => rfl)))
    (qpss_mid (qps_set (i := 9) sc__law_anew.nd rfl (by first | exact Or.inl rfl | exact Or.inr rfl) (qpe_lst (qpa_cons (qpe_tup (qpa_cons qpe_str (qpa_cons (qpv 1) (qpa_cons (qpv 7) qpa_nil)))) (qpa_cons (qpe_tup (qpa_cons (qpe_ix ix_U (qpv 5) qpe_int (fun _ _ => rfl)) (qpa_cons (qpv 1) (qpa_cons qpe_int qpa_nil)))) (qpa_cons (qpe_tup (qpa_cons qpe_str (qpa_cons (qpv 1) (qpa_cons (qpv 8) qpa_nil)))) qpa_nil)))))
    (qpss_mid (qps_expr (qpe_bmL PySem.F.slot_list_append PySem.F.type_list_append mt_appendU (qpv 9) (qpa_cons (qpe_op op_addX (qpe_tup (qpa_cons (qpe_ix ix_U (qpv 6) qpe_int (fun _ _ => rfl)) qpa_nil)) (qpe_ix ix_U (qpe_lst (qpa_cons (qpe_tup (qpa_cons qpe_int (qpa_cons qpe_int qpa_nil))) (qpa_cons (qpe_tup (qpa_cons qpe_int (qpa_cons qpe_int qpa_nil))) qpa_nil))) (qpe_call G__law_take (hr.mono (by decide)) rfl T.m__law_take F__law_take.kp b__law_take .nil pass0 (qpa_cons (qpv 0) (qpa_cons qpe_int qpa_nil))) (fun _ _ => rfl))) qpa_nil) mono_var))
    (qpss_mid (qps_expr (qpe_bmL PySem.F.slot_list_append PySem.F.type_list_append mt_appendU (qpv 9) (qpa_cons (qpe_tup (qpa_cons (qpe_ix ix_U (qpv 5) qpe_int (fun _ _ => rfl)) (qpa_cons (qpv 1) (qpa_cons qpe_int qpa_nil)))) qpa_nil) mono_var))
    (qpss_mid (qps_expr (qpe_bmL PySem.F.slot_list_append PySem.F.type_list_append mt_appendU (qpv 9) (qpa_cons (qpe_op op_addX (qpe_tup (qpa_cons (qpe_ix ix_U (qpv 6) qpe_int (fun _ _ => rfl)) qpa_nil)) (qpe_ix ix_U (qpe_lst (qpa_cons (qpe_tup (qpa_cons qpe_int (qpa_cons qpe_int qpa_nil))) (qpa_cons (qpe_tup (qpa_cons qpe_int (qpa_cons qpe_int qpa_nil))) qpa_nil))) (qpe_call G__law_take (hr.mono (by decide)) rfl T.m__law_take F__law_take.kp b__law_take .nil pass0 (qpa_cons (qpv 0) (qpa_cons qpe_int qpa_nil))) (fun _ _ => rfl))) qpa_nil) mono_var))
    (qpss_mid (qps_set (i := 10) sc__law_anew.nd rfl (by first | exact Or.inl rfl | exact Or.inr rfl) (qpe_call G__law_over (hr.mono (by decide)) rfl T.m__law_over F__law_over.kp b__law_over .nil pass0 (qpa_cons (qpe_ix ix_U (qpv 5) qpe_int (fun _ _ => rfl)) (qpa_cons (qpe_comp rfl (compOk_of (sc := defScope s__law_anew) (N := ["_law_box_here", "_law_x", "_law_y", "_law_letters_here", "_law_text_here", "_law_sweeps", "_law_words", "_law_one", "_law_other", "_law_rows", "_law_within", "_law_here", "_law_whole", "_law_place"]) (Nc := ["_law_sign", "_law_one"]) (js := [none, some 7]) (by decide +kernel)) (qpi_any (K := K) (qpv 4) rfl) (fun _ _ _ _ => (qpg_name (i := 0) (show List.Nodup [("_law_sign" : Str), ("_law_one" : Str)] from by decide +kernel) rfl (by first | exact Or.inl rfl | exact Or.inr rfl))) (fun _ _ _ _ => (qpe_cmpR (op_eqU hu) (qpv 0) (qpv 1) (nomark _)))) qpa_nil))))
    (qpss_mid (qps_setc (i := 11) sc__law_anew.nd rfl (by first | exact Or.inl rfl | exact Or.inr rfl) rfl (compOk_of (sc := defScope s__law_anew) (N := ["_law_box_here", "_law_x", "_law_y", "_law_letters_here", "_law_text_here", "_law_sweeps", "_law_words", "_law_one", "_law_other", "_law_rows", "_law_within", "_law_here", "_law_whole", "_law_place"]) (Nc := ["_law_sign", "_law_within", "_law_words", "_law_other"]) (js := [none, some 10, some 6, some 8]) (by decide +kernel)) (qpi_any (K := K) (qpv 4) rfl) (fun _ _ _ _ => (qpg_name (i := 0) (show List.Nodup [("_law_sign" : Str), ("_law_within" : Str), ("_law_words" : Str), ("_law_other" : Str)] from by decide +kernel) rfl (by first | exact Or.inl rfl | exact Or.inr rfl))) (fun _ _ _ _ => (qpe_call G__law_joined (hr.mono (by decide)) rfl T.m__law_joined F__law_joined.kp b__law_joined .nil pass0 (qpa_cons (qpe_ix ix_U (qpv 2) qpe_int (fun _ _ => rfl)) (qpa_cons (qpe_cmpR (op_eqU hu) (qpv 0) (qpv 3) (nomark _)) (qpa_cons (qpv 1) qpa_nil))))))
    (qpss_mid (qps_set (i := 12) sc__law_anew.nd rfl (by first | exact Or.inl rfl | exact Or.inr rfl) (qpe_call G__law_over (hr.mono (by decide)) rfl T.m__law_over F__law_over.kp b__law_over .nil pass0 (qpa_cons (qpe_ix ix_U (qpv 5) qpe_int (fun _ _ => rfl)) (qpa_cons (qpv 11) qpa_nil))))
    (qpss_cons (qps_for PassesOwn.never rfl (qpi_range1 rfl T.n_range (qpa_cons (qpe_callB call_lenU (by rfl) T.n_len bt_len (qpa_cons (qpv 4) qpa_nil)) qpa_nil)) (qpg_name (i := 13) sc__law_anew.nd rfl (by first | exact Or.inl rfl | exact Or.inr rfl)) (qpss_mid (qps_if (qpt_not (qpt_val (qpe_call G__law_tells_so (hr.mono (by decide)) rfl T.m__law_tells_so F__law_tells_so.kp b__law_tells_so .nil pass0 (qpa_cons (qpe_slice (sl_UK (K := K) rfl) (qpv 9) qpo_none (qpo_some qpe_int)) (qpa_cons (qpv 4) (qpa_cons (qpe_disp (qpps_cons (qpv 1) (qpv 13) qpps_nil)) (qpa_cons (qpe_ix ix_U (qpv 11) (qpv 13) (fun _ _ => rfl)) qpa_nil))))))) (qpss_one (qps_ret qpe_bl)) qpss_nil)
    (qpss_mid (qps_if (qpt_not (qpt_val (qpe_call G__law_tells_so (hr.mono (by decide)) rfl T.m__law_tells_so F__law_tells_so.kp b__law_tells_so .nil pass0 (qpa_cons (qpv 9) (qpa_cons (qpv 4) (qpa_cons (qpe_disp (qpps_cons (qpv 1) (qpv 13) (qpps_cons (qpv 2) qpe_int qpps_nil))) (qpa_cons (qpe_call G__law_joined (hr.mono (by decide)) rfl T.m__law_joined F__law_joined.kp b__law_joined .nil pass0 (qpa_cons (qpe_ix ix_U (qpv 6) qpe_int (fun _ _ => rfl)) (qpa_cons (qpe_cmpR (op_eqU hu) (qpe_ix ix_U (qpv 4) (qpv 13) (fun _ _ => rfl)) (qpv 8) (nomark _)) (qpa_cons (qpv 12) qpa_nil)))) qpa_nil))))))) (qpss_one (qps_ret qpe_bl)) qpss_nil)
    (qpss_one (qps_if (qpt_not (qpt_val (qpe_call G__law_tells_so (hr.mono (by decide)) rfl T.m__law_tells_so F__law_tells_so.kp b__law_tells_so .nil pass0 (qpa_cons (qpe_slice (sl_UK (K := K) rfl) (qpv 9) qpo_none (qpo_some qpe_int)) (qpa_cons (qpv 4) (qpa_cons (qpe_disp (qpps_cons (qpv 2) (qpv 13) (qpps_cons (qpv 1) (qpv 13) qpps_nil))) (qpa_cons (qpv 12) qpa_nil))))))) (qpss_one (qps_ret qpe_bl)) qpss_nil)))))
    (qpss_one (qps_ret (qpe_and (qpe_call G__law_tells_so (hr.mono (by decide)) rfl T.m__law_tells_so F__law_tells_so.kp b__law_tells_so .nil pass0 (qpa_cons (qpe_slice (sl_UK (K := K) rfl) (qpv 9) qpo_none (qpo_some qpe_int)) (qpa_cons (qpv 4) (qpa_cons qpe_disp0 (qpa_cons (qpv 10) qpa_nil))))) (qpe_one (qpe_call G__law_tells_so (hr.mono (by decide)) rfl T.m__law_tells_so F__law_tells_so.kp b__law_tells_so .nil pass0 (qpa_cons (qpe_slice (sl_UK (K := K) rfl) (qpv 9) qpo_none (qpo_some qpe_int)) (qpa_cons (qpv 4) (qpa_cons qpe_disp0 (qpa_cons (qpv 12) qpa_nil))))))))))))))))))))) ?_
    have z10 : zl.cps.toList.length = zl.length := by simp [Str.length]
    refine ⟨fun σ H' => ∃ (s0 s1 : Bool) (D : Addr), σ = [some (.ref b), some (.str x), some (.str y), some (.str zl), some (.str z), some (.ref D), none, none, none, none, none, none, none, none] ∧ H' D = some (.lst [.str (qw s0), .str (qw s1)]) ∧ SB H b H' ∧ H D = none, ?_, ?_⟩
    · simp!
      refine ⟨by decide, by decide, fun D hD => comp_boxN (fun v => ∃ s : Bool, v = .str (qw s)) sb0 hD (by decide) (fun v H' Q' sb q => ?_) fun v xs H' hl hP hD' sb => ?_⟩
      · simp!
        refine ⟨by omega, fun p hp => (sb.new hp).tq (by decide) (by decide) fun d H2 d0 d1 sb2 k2 => ?_⟩
        have hp2 := k2.old _ _ (show upd H' p (.lst [V.str (Str.ofString "some"), V.str (Str.ofString "each")]) p = _ from upd_same) (by simpa using sb.ne hp)
        have kk : Kp [b] H' H2 := ((Kp.refl [b] H').new hp).trans k2
        have : d = 0 ∨ d = 1 := by omega
        rcases this with rfl | rfl
        · exact ⟨_, by rw [hp2]; rfl, _, atI_0 _ _, q _ _ ⟨true, rfl⟩ sb2 kk⟩
        · exact ⟨_, by rw [hp2]; rfl, _, atI_1 _ _ _, q _ _ ⟨false, rfl⟩ sb2 kk⟩
      · match xs, hl with
        | [u, v], _ =>
          obtain ⟨s0, rfl⟩ := hP u (by simp)
          obtain ⟨s1, rfl⟩ := hP v (by simp)
          exact ⟨s0, s1, hD', sb, hD⟩
    rintro _ H1 ⟨s0, s1, D, rfl, hD1, sb1, fD⟩
    refine ⟨fun σ H' => ∃ (w0 w1 : Bool) (E : Addr), σ = [some (.ref b), some (.str x), some (.str y), some (.str zl), some (.str z), some (.ref D), some (.ref E), none, none, none, none, none, none, none] ∧ H' E = some (.lst [.str (bw w0), .str (bw w1)]) ∧ SB H1 b H' ∧ H1 E = none, ?_, ?_⟩
    · simp!
      refine ⟨by decide, by decide, fun E hE => comp_boxN (H0 := H1) (fun v => ∃ s : Bool, v = .str (bw s)) ⟨Kp.refl _ _, sb1.bx⟩ hE (by decide) (fun v H' Q' sb q => ?_) fun v xs H' hl hP hD' sb => ?_⟩
      · simp!
        refine ⟨by omega, fun p hp => (sb.new hp).tq (by decide) (by decide) fun d H2 d0 d1 sb2 k2 => ?_⟩
        have hp2 := k2.old _ _ (show upd H' p (.lst [V.str (Str.ofString "and"), V.str (Str.ofString "or")]) p = _ from upd_same) (by simpa using sb.ne hp)
        have kk : Kp [b] H' H2 := ((Kp.refl [b] H').new hp).trans k2
        have : d = 0 ∨ d = 1 := by omega
        rcases this with rfl | rfl
        · exact ⟨_, by rw [hp2]; rfl, _, atI_0 _ _, q _ _ ⟨true, rfl⟩ sb2 kk⟩
        · exact ⟨_, by rw [hp2]; rfl, _, atI_1 _ _ _, q _ _ ⟨false, rfl⟩ sb2 kk⟩
      · match xs, hl with
        | [u, v], _ =>
          obtain ⟨w0, rfl⟩ := hP u (by simp)
          obtain ⟨w1, rfl⟩ := hP v (by simp)
          exact ⟨w0, w1, hD', sb, hE⟩
    rintro _ H2 ⟨w0, w1, E, rfl, hE2, sb2', fE⟩
    have nDb : D ≠ b := fun e => by rw [e, hb] at fD; cases fD
    have fE0 := sb1.kp.free fE
    have nEb : E ≠ b := fun e => by rw [e, hb] at fE0; cases fE0
    have hD2 := sb2'.kp.old _ _ hD1 (by simpa using nDb)
    have sb2 := sb1.trans sb2'
    have tkS : ∀ {H' : Hp} {Q' : VK}, SB H b H' → (∀ (c : Nat) H3, c ∈ zl.cps.toList → SB H b H3 → Kp [b] H' H3 → Q' (.str ⟨#[c]⟩) H3) → spTake [.ref b, .int (zl.length : Int)] H' (fun y H2 => rIxU (.str zl) y H2 Q') E0 := fun sb q => sb.tq (by omega) (by omega) fun d H3 d0 d1 sb3 k3 => ⟨by omega, zl.cps.toList[d.toNat]'(by omega), atI_of d0 (by simp), q _ H3 (List.getElem_mem _) sb3 k3⟩
    simp!
    refine ⟨by omega, tkS sb2 fun c1 H3 m1 sb3 k3 => ⟨by omega, tkS sb3 fun c2 H4 m2 sb4 k4 => ?_⟩⟩
    have k34 := k3.trans k4
    have hD4 := k34.old _ _ hD2 (by simpa using nDb)
    have hE4 := k34.old _ _ hE2 (by simpa using nEb)
    generalize hone : (⟨#[c1]⟩ : Str) = one
    generalize hoth : (⟨#[c2]⟩ : Str) = oth
    refine ⟨fun σ H' => ∃ pr : Addr, σ = [some (.ref b), some (.str x), some (.str y), some (.str zl), some (.str z), some (.ref D), some (.ref E), some (.str one), some (.str oth), some (.ref pr), none, none, none, none] ∧ AI H b D E pr s0 s1 w0 w1 [.is x one, .qn s0 x 0, .is x oth] H', ?_, ?_⟩
    · simp!
      refine ⟨by omega, fun p0 hp0 => ⟨_, by rw [upd_ne (ne_of_none hD4 hp0), hD4]; rfl, _, atI_0 _ _, by omega, fun p1 hp1 => ⟨by omega, fun p2 hp2 => ⟨by omega, fun p3 hp3 => ?_⟩⟩⟩⟩
      have q0 := (((Kp.refl [] H4).new (o := .tup [V.str (Str.ofString "is"), V.str x, V.str one]) hp0).new (o := .tup [V.str (qw s0), V.str x, V.int 0]) hp1).new (o := .tup [V.str (Str.ofString "is"), V.str x, V.str oth]) hp2
      have q3 := q0.new (o := .lst [V.ref p0, V.ref p1, V.ref p2]) hp3
      have sb7 := sb4.keep q0
      have e0 := ((((Kp.refl [] _).new (o := .tup [V.str (qw s0), V.str x, V.int 0]) hp1).new (o := .tup [V.str (Str.ofString "is"), V.str x, V.str oth]) hp2).new (o := .lst [V.ref p0, V.ref p1, V.ref p2]) hp3).tup p0 _ upd_same
      have e1 := (((Kp.refl [] _).new (o := .tup [V.str (Str.ofString "is"), V.str x, V.str oth]) hp2).new (o := .lst [V.ref p0, V.ref p1, V.ref p2]) hp3).tup p1 _ upd_same
      have e2 := ((Kp.refl [] _).new (o := .lst [V.ref p0, V.ref p1, V.ref p2]) hp3).tup p2 _ upd_same
      exact ⟨sb4.keep q3, q3.old _ _ hD4 List.not_mem_nil, q3.old _ _ hE4 List.not_mem_nil, ⟨_, upd_same, .cons ⟨p0, rfl, e0⟩ (.cons ⟨p1, rfl, e1⟩ (.cons ⟨p2, rfl, e2⟩ .nil))⟩, fD, fE0, sb7.kp.free hp3, ⟨nDb, nEb, sb7.ne hp3⟩, ⟨ne_of_none (q0.old _ _ hD4 List.not_mem_nil) hp3, ne_of_none (q0.old _ _ hE4 List.not_mem_nil) hp3⟩⟩
    rintro _ H5 ⟨pr, rfl, I5⟩
    obtain ⟨σ9, hσ9⟩ : ∃ σ9 : L2.St, σ9 = [some (.ref b), some (.str x), some (.str y), some (.str zl), some (.str z), some (.ref D), some (.ref E), some (.str one), some (.str oth), some (.ref pr), none, none, none, none] := ⟨_, rfl⟩
    rw [← hσ9]
    refine ⟨fun σ H' => ∃ i j : Nat, ((i = 1 ∧ j = 2) ∨ (i = 2 ∧ j = 1)) ∧ σ = σ9 ∧ AI H b D E pr s0 s1 w0 w1 [.is x one, .qn s0 x 0, .is x oth, .bin w0 i j] H', ?_, ?_⟩
    · rw [hσ9]
      obtain ⟨us, hus, ras⟩ := I5.hr
      simp! [hus, I5.hE]
      exact I5.bin hus ras (by simp) w0 1 2 2 1 (R := fun H' => ∃ i j : Nat, ((i = 1 ∧ j = 2) ∨ (i = 2 ∧ j = 1)) ∧ AI H b D E pr s0 s1 w0 w1 [.is x one, .qn s0 x 0, .is x oth, .bin w0 i j] H') fun i j hij H' I' => ⟨i, j, hij, I'⟩
    rintro _ H6 ⟨i, j, hij, e9, I6⟩
    rw [e9]
    refine ⟨fun σ H' => σ = σ9 ∧ AI H b D E pr s0 s1 w0 w1 [.is x one, .qn s0 x 0, .is x oth, .bin w0 i j, .qn s1 x 3] H', ?_, ?_⟩
    · rw [hσ9]
      obtain ⟨us, hus, ras⟩ := I6.hr
      simp! [hus, I6.hD]
      refine ⟨by omega, fun p hp => ?_⟩
      have kp : Kp [] H6 (upd H6 p (.tup [V.str (qw s1), V.str x, V.int 3])) := (Kp.refl [] H6).new hp
      have hus' := kp.old _ _ hus List.not_mem_nil
      exact ⟨us, by rw [hus']; rfl, by rw [Paired.length ras, hsz, show List.length [RS.is x one, .qn s0 x 0, .is x oth, .bin w0 i j] = 4 from rfl]; decide, (I6.keep0 kp).add (r := .qn s1 x 3) hus' (ras.kp kp) upd_same⟩
    rintro _ H7 ⟨e9, I7⟩
    rw [e9]
    refine ⟨fun σ H' => ∃ i' j' : Nat, ((i' = 2 ∧ j' = 4) ∨ (i' = 4 ∧ j' = 2)) ∧ σ = σ9 ∧ AI H b D E pr s0 s1 w0 w1 (R6 x one oth s0 s1 w0 w1 i j i' j') H', ?_, ?_⟩
    · rw [hσ9]
      obtain ⟨us, hus, ras⟩ := I7.hr
      simp! [hus, I7.hE]
      exact I7.bin hus ras (by simp) w1 2 4 4 2 (R := fun H' => ∃ i' j' : Nat, ((i' = 2 ∧ j' = 4) ∨ (i' = 4 ∧ j' = 2)) ∧ AI H b D E pr s0 s1 w0 w1 (R6 x one oth s0 s1 w0 w1 i j i' j') H') fun i j hij H' I' => ⟨i, j, hij, I'⟩
    rintro _ H8 ⟨i', j', hij', e9, I8⟩
    rw [e9]
    have zln : z.cps.toList.length = z.length := by simp [Str.length]
    refine ⟨fun σ H' => σ = [some (.ref b), some (.str x), some (.str y), some (.str zl), some (.str z), some (.ref D), some (.ref E), some (.str one), some (.str oth), some (.ref pr), some (.bl (wiB z.cps.toList one s0)), none, none, none] ∧ AI H b D E pr s0 s1 w0 w1 (R6 x one oth s0 s1 w0 w1 i j i' j') H', ?_, ?_⟩
    · rw [hσ9]
      simp! [I8.hD]
      intro G hG
      refine comp_str (fun c => .bl (decide ((⟨#[c]⟩ : Str) = one))) (by omega) (fun c _ l' Q' q => ?_) fun v => ?_
      · simp!
        exact q
      · have kG : Kp [] H8 (upd H8 G (.lst (z.cps.toList.map fun c => .bl (decide ((⟨#[c]⟩ : Str) = one))))) := (Kp.refl [] H8).new hG
        exact ⟨G, s0, z.cps.toList.map fun c => decide ((⟨#[c]⟩ : Str) = one), rfl, by rw [upd_same, bV, List.map_map]; rfl, rfl, I8.keep0 kG⟩
    rintro _ H9 ⟨rfl, I9⟩
    refine ⟨fun σ H' => ∃ hh : Addr, σ = [some (.ref b), some (.str x), some (.str y), some (.str zl), some (.str z), some (.ref D), some (.ref E), some (.str one), some (.str oth), some (.ref pr), some (.bl (wiB z.cps.toList one s0)), some (.ref hh), none, none] ∧ H' hh = some (.lst (bV (z.cps.toList.map (heB z.cps.toList one oth s0 w0)))) ∧ hh ≠ b ∧ AI H b D E pr s0 s1 w0 w1 (R6 x one oth s0 s1 w0 w1 i j i' j') H', ?_, ?_⟩
    · simp!
      intro G hG
      refine comp_str (fun c => .bl (heB z.cps.toList one oth s0 w0 c)) (by omega) (fun c _ l' Q' q => ?_) fun v => ?_
      · have hE' : upd H9 G (.lst l') E = _ := (upd_ne (ne_of_none I9.hE hG)).trans I9.hE
        simp! [hE']
        exact ⟨w0, _, _, rfl, q⟩
      · have kG : Kp [] H9 (upd H9 G (.lst (z.cps.toList.map fun c => .bl (heB z.cps.toList one oth s0 w0 c)))) := (Kp.refl [] H9).new hG
        refine ⟨by rw [upd_same, bV, List.map_map]; rfl, I9.sb.ne hG, I9.keep0 kG⟩
    rintro _ H10 ⟨hh, rfl, hhh, nhb, I10⟩
    refine ⟨fun σ H' => σ = [some (.ref b), some (.str x), some (.str y), some (.str zl), some (.str z), some (.ref D), some (.ref E), some (.str one), some (.str oth), some (.ref pr), some (.bl (wiB z.cps.toList one s0)), some (.ref hh), some (.bl (whB z.cps.toList one oth s0 s1 w0)), none] ∧ H' = H10, ?_, ?_⟩
    · simp! [I10.hD]
      exact ⟨hh, s1, _, rfl, hhh, rfl, rfl⟩
    rintro _ H' ⟨rfl, e⟩
    rw [e]
    simp!
    refine ⟨by omega, by omega, by omega, ?_⟩
    rw [Int.toNat_natCast]
    obtain ⟨us, hus, ras⟩ := I10.hr
    have ul : us.length = 6 := Paired.length ras
    have kb : ∀ {Ha : Hp}, Kp [] H10 Ha → Ha pr = some (.lst us) ∧ RowsAt Ha us (R6 x one oth s0 s1 w0 w1 i j i' j') := fun kk => ⟨kk.old _ _ hus List.not_mem_nil, ras.kp kk⟩
    have ask : ∀ {Ha : Hp} {q pd : Addr} {vs : List V} {rs : List RS} {kvs : List (L2.Key × Int)} {ρ : Str → Nat} {u : Bool} {Q' : VK}, Ha q = some (.lst vs) → RowsAt Ha vs rs → Asked z rs [x] kvs ρ → Ha pd = some (.dK (kvs.map kI)) → sAt (sms z.cps.toList rs) (rs.length - 1) ρ = u → (∀ Hb, Kp [] Ha Hb → Q' (.bl true) Hb) → spTe [.ref q, .str z, .ref pd, .bl u] Ha Q' E0 := fun h1 h2 h3 h4 h5 h6 => ⟨_, _, _, _, _, _, _, _, by rw [h5], h1, h2, h3, h4, h6⟩
    have cutk : ∀ {Ha : Hp} {n : Nat} {Q' : VK}, n ≤ 6 → Kp [] H10 Ha → (∀ q Hb, Kp [] H10 Hb → Hb q = some (.lst (us.take n)) → RowsAt Hb (us.take n) ((R6 x one oth s0 s1 w0 w1 i j i' j').take n) → Q' (.ref q) Hb) → rSlU K (.ref pr) none (some (n : Int)) Ha Q' := fun {Ha n Q'} hn ka q => by
      refine rSlU.lst (kb ka).1 fun p hp => ?_
      rw [cutV_take (by omega)]
      have k1 : Kp [] Ha (upd Ha p (.lst (us.take n))) := (Kp.refl [] Ha).new hp
      exact q p _ (ka.trans k1) upd_same ((rows_take n (kb ka).2).kp k1)
    refine loop_range (fun kx σ H' => ∃ v : Option V, σ = [some (.ref b), some (.str x), some (.str y), some (.str zl), some (.str z), some (.ref D), some (.ref E), some (.str one), some (.str oth), some (.ref pr), some (.bl (wiB z.cps.toList one s0)), some (.ref hh), some (.bl (whB z.cps.toList one oth s0 s1 w0)), v] ∧ Kp [] H10 H') ⟨none, rfl, Kp.refl _ _⟩ ?_ ?_
    · rintro kx σ H' hk ⟨v, rfl, kp⟩
      have kz : kx < z.cps.toList.length := by omega
      have hat : z.cps.toList[kx]? = some (z.cps.toList.getD kx 0) := by rw [List.getD_eq_getElem?_getD, List.getElem?_eq_getElem kz]; rfl
      obtain ⟨σb, hσb⟩ : ∃ σb : L2.St, σb = [some (.ref b), some (.str x), some (.str y), some (.str zl), some (.str z), some (.ref D), some (.ref E), some (.str one), some (.str oth), some (.ref pr), some (.bl (wiB z.cps.toList one s0)), some (.ref hh), some (.bl (whB z.cps.toList one oth s0 s1 w0)), some (.int (kx : Int))] := ⟨_, rfl⟩
      show tMid _ _ _ [some (.ref b), some (.str x), some (.str y), some (.str zl), some (.str z), some (.ref D), some (.ref E), some (.str one), some (.str oth), some (.ref pr), some (.bl (wiB z.cps.toList one s0)), some (.ref hh), some (.bl (whB z.cps.toList one oth s0 s1 w0)), some (.int (0 + (kx : Int)))] H'
      rw [Int.zero_add, ← hσb]
      refine ⟨fun σ Ha => σ = σb ∧ Kp [] H10 Ha, ?_, ?_⟩
      · rw [hσb]
        simp!
        refine cutk (n := 4) (by decide) kp fun q Ha ka eq rq p hp => ⟨[(.inr x, .int (kx : Int))], rfl, by simp, ?_⟩
        have k2 : Kp [] Ha (upd Ha p (.dK (mergeK [] [(.inr x, .int (kx : Int))]))) := (Kp.refl [] Ha).new hp
        have e2 : upd Ha p (.dK (mergeK [] [(.inr x, .int (kx : Int))])) p = some (.dK ([((.inr x : L2.Key), (kx : Int))].map kI)) := upd_same
        generalize upd Ha p (.dK (mergeK [] [(.inr x, .int (kx : Int))])) = Hb at k2 e2 ⊢
        have kab := ka.trans k2
        refine ⟨_, by rw [kab.old _ _ hhh List.not_mem_nil]; rfl, .bl (heB z.cps.toList one oth s0 w0 (z.cps.toList.getD kx 0)), atI_nat (by rw [bV, List.getElem?_map, List.getElem?_map, hat]; rfl), ?_⟩
        exact ask (k2.old _ _ eq List.not_mem_nil) (rq.kp k2) (askA hij hij' hz okx (by decide) (by decide) (ρ := fun _ => kx) (by simp) (by simp [valV, kI]) (by omega)) e2 (vb z.cps.toList x one oth s0 w0 hij _) fun Hc kc => ⟨true, rfl, kab.trans kc⟩
      rintro _ Ha ⟨e, ka⟩
      rw [e]
      refine ⟨fun σ Ha => σ = σb ∧ Kp [] H10 Ha, ?_, ?_⟩
      · rw [hσb]
        simp!
        refine fun p hp => ⟨[(.inr x, .int (kx : Int)), (.inr y, .int 0)], rfl, by simp, ?_⟩
        rw [two_val xy]
        have k2 : Kp [] Ha (upd Ha p (.dK ([((.inr x : L2.Key), (kx : Int)), (.inr y, 0)].map kI))) := (Kp.refl [] Ha).new hp
        have e2 : upd Ha p (.dK ([((.inr x : L2.Key), (kx : Int)), (.inr y, 0)].map kI)) p = _ := upd_same
        generalize upd Ha p (.dK ([((.inr x : L2.Key), (kx : Int)), (.inr y, 0)].map kI)) = Hb at k2 e2 ⊢
        have kab := ka.trans k2
        refine ⟨_, by rw [kab.old _ _ I10.hE (by simp)]; rfl, _, atI_1 _ _ _, by omega, z.cps.toList.getD kx 0, atI_nat hat, w1, _, _, rfl, ?_⟩
        exact ask (kb kab).1 (kb kab).2 (askA hij hij' hz okx (n := 6) (by decide) (by decide) (ρ := fun _ => kx) (nd_two xy _ _) (val_at xy _ _).1 (by omega)) e2 (vb5 z.cps.toList x one oth s0 s1 w0 w1 hij hij' _) fun Hc kc => ⟨true, rfl, kab.trans kc⟩
      rintro _ Hb ⟨e, kb'⟩
      rw [e, hσb]
      simp!
      refine cutk (n := 5) (by decide) kb' fun q Ha ka eq rq p hp => ⟨[(.inr y, .int (kx : Int)), (.inr x, .int (kx : Int))], rfl, by simp, ?_⟩
      rw [two_val xy.symm]
      have k2 : Kp [] Ha (upd Ha p (.dK ([((.inr y : L2.Key), (kx : Int)), (.inr x, (kx : Int))].map kI))) := (Kp.refl [] Ha).new hp
      have e2 : upd Ha p (.dK ([((.inr y : L2.Key), (kx : Int)), (.inr x, (kx : Int))].map kI)) p = _ := upd_same
      generalize upd Ha p (.dK ([((.inr y : L2.Key), (kx : Int)), (.inr x, (kx : Int))].map kI)) = Hc at k2 e2 ⊢
      exact ask (k2.old _ _ eq List.not_mem_nil) (rq.kp k2) (askA hij hij' hz okx (by decide) (by decide) (ρ := fun _ => kx) (nd_two xy.symm _ _) (val_at xy.symm _ _).2 (by omega)) e2 (vq3 z.cps.toList x one oth s0 s1 w0 hij _) fun Hd kd => ⟨true, rfl, (ka.trans k2).trans kd⟩
    · rintro σ H' ⟨v, rfl, kp⟩
      simp!
      refine cutk (n := 2) (by decide) kp fun q Ha ka eq rq p hp => ?_
      have k2 : Kp [] Ha (upd Ha p (.dK [])) := (Kp.refl [] Ha).new hp
      refine ask (kvs := []) (k2.old _ _ eq List.not_mem_nil) (rq.kp k2) (askB hij hij' hz okx (by decide) (by decide) rfl) upd_same (vq0 z.cps.toList x one s0 [] _) fun Hb kb2 => ⟨true, rfl, ?_⟩
      rw [if_pos rfl]
      refine cutk (n := 5) (by decide) ((ka.trans k2).trans kb2) fun q5 Hc kc eq5 rq5 p5 hp5 => ?_
      have k5 : Kp [] Hc (upd Hc p5 (.dK [])) := (Kp.refl [] Hc).new hp5
      exact ask (kvs := []) (k5.old _ _ eq5 List.not_mem_nil) (rq5.kp k5) (askB hij hij' hz okx (by decide) (by decide) rfl) upd_same (vq3 z.cps.toList x one oth s0 s1 w0 hij _) fun Hd kd => k _ (I10.keep0 ((kc.trans k5).trans kd)).sb
end
def gT (tu : Bool) (a p : Nat) : Bool := if tu then decide (p < a) else decide (a < p)
def heT (m : Nat) (bi tu : Bool) (a : Nat) : Bool := bd bi ((List.range m).map (gT tu a))
def R3 (x y : Str) (bi bo tu : Bool) : List RS := [if tu then .ahead y x else .ahead x y, .qn bi y 0, .qn bo x 1]
section
variable (t : List Nat) {x y : Str} (bi bo tu : Bool)
theorem w1v (xy : x ≠ y) (S : List Sm) (ρ : Str → Nat) : sm t (sm t [] (if tu then .ahead y x else .ahead x y) :: S) (.qn bi y 0) ρ = heT t.length bi tu (ρ x) := by
  rw [sm_qn]
  refine congrArg (bd bi) (List.map_congr_left fun p _ => ?_)
  have e1 : up ρ y p x = ρ x := if_neg xy
  have e2 : up ρ y p y = p := if_pos rfl
  cases tu with
  | true => show decide (up ρ y p y < up ρ y p x) = _; rw [e1, e2]; rfl
  | false => show decide (up ρ y p x < up ρ y p y) = _; rw [e1, e2]; rfl
theorem w2v (xy : x ≠ y) (ρ : Str → Nat) : sm t (sms t [if tu then .ahead y x else .ahead x y, .qn bi y 0]) (.qn bo x 1) ρ = bd bo ((List.range t.length).map (heT t.length bi tu)) := by
  rw [sm_qn]
  refine congrArg (bd bo) (List.map_congr_left fun p _ => ?_)
  have := w1v t bi tu xy [] (up ρ x p)
  rw [show up ρ x p x = p from if_pos rfl] at this
  exact this
end
theorem ok3 {x y : Str} {bi bo tu : Bool} : okR [x, y] (R3 x y bi bo tu) := fun k r e => by
  match k, e with
  | 0, e => cases e; cases tu <;> simp [RS.ok]
  | 1, e => cases e; simp [RS.ok]
  | 2, e => cases e; simp [RS.ok]
  | k + 3, e => simp [R3] at e
theorem cf_x {x y : Str} {F : List (List Str)} {rs : List RS} (h : CF [x, y] F rs) {b : Bool} {i : Nat} (e : rs[1]? = some (.qn b y i)) : ∀ u ∈ F.getD 1 [], u = x := fun u hu => by
  have h1 := ((h.at_ 1 _ e).me u).mp hu
  have h2 := h.sub 1 u hu
  simp [fm] at h1
  simp at h2
  rcases h2 with h2 | h2
  · exact h2
  · exact absurd h2 h1.2
theorem askC {x y : Str} {bi bo tu : Bool} {z : Str} (hz : z.length ≤ 10) (okx : PyData.strOk x = true) (oky : PyData.strOk y = true) {kvs : List (L2.Key × Int)} {ρ : Str → Nat} (nd : (kvs.map Prod.fst).Nodup) (hx : valV (kvs.map kI) (.inr x) = some (.int (ρ x : Nat))) (hl : ρ x < z.length) : Asked z ((R3 x y bi bo tu).take 2) [x, y] kvs ρ := by
  refine ⟨ok3.take 2, by simp, by simp [R3], by simp [R3], fun u hu => ?_, by omega, nd, fun F cf => ⟨fun k _ => bdm_small hz (cf.le k), fun u hu => ?_⟩⟩
  · simp at hu
    rcases hu with h | h
    · rw [h]; exact okx
    · rw [h]; exact oky
  · have := cf_x cf (b := bi) (i := 0) rfl u hu
    rw [this]; exact ⟨hx, hl⟩
theorem askD {x y : Str} {bi bo tu : Bool} {z : Str} (hz : z.length ≤ 10) (okx : PyData.strOk x = true) (oky : PyData.strOk y = true) : Asked z (R3 x y bi bo tu) [x, y] [] fun _ => 0 := by
  refine ⟨ok3, by simp, by simp [R3], by simp [R3], fun u hu => ?_, by omega, .nil, fun F cf => ⟨fun k _ => bdm_small hz (cf.le k), fun u hu => ?_⟩⟩
  · simp at hu
    rcases hu with h | h
    · rw [h]; exact okx
    · rw [h]; exact oky
  · have h1 := ((cf.at_ 2 (.qn bo x 1) rfl).me u).mp hu
    simp only [fm, List.mem_filter] at h1
    have h2 := cf_x cf (b := bi) (i := 0) rfl u h1.1
    rw [h2] at h1; simp at h1
def spTw : Sp := fun vs H Q _ => ∃ (b : Addr) (x y z : Str) (o : HO), vs = [.ref b, .str x, .str y, .str z] ∧ H b = some o ∧ BoxO o ∧ x ≠ y ∧ PyData.strOk x = true ∧ PyData.strOk y = true ∧ z.length ≤ 10 ∧ ∀ H', SB H b H' → Q (.bl true) H'
structure TTw (mg : Str → Option Value) (ft fo fs : Addr) : Prop where
  n_range : mg "range" = none
  n_len : mg "len" = none
  m__law_take : mg "_law_take" = some (.ref ft)
  m__law_over : mg "_law_over" = some (.ref fo)
  m__law_tells_so : mg "_law_tells_so" = some (.ref fs)
section
variable {P : Program} {w : World} {K : PySem.W.Frag} {mg : Str → Option Value} {base : Heap}
abbrev s__law_two : Stmt := top 24
theorem sc__law_two : FnScope ["_law_box_here", "_law_x", "_law_y", "_law_text_here", "_law_inner", "_law_outer", "_law_turned", "_law_rows", "_law_many", "_law_here", "_law_place"] ["_law_box_here", "_law_x", "_law_y", "_law_text_here"] (defScope s__law_two) := ⟨rfl, rfl, rfl, by decide +kernel, rfl, by decide +kernel, by decide +kernel⟩
theorem ok__law_two {f ft fo fs : Addr} {fd fdt fdo fds : FuncData} (F : Fun K "_law_two" "_law_two" s__law_two f fd) (T : TTw mg ft fo fs) (F__law_take : Fun K "_law_take" "_law_take" s__law_take ft fdt) (b__law_take : Binds K fdt ["_law_box_here", "_law_wide"] []) (G__law_take : FnOk P w K mg base CX0 1 ft fdt ["_law_box_here", "_law_wide"] spTake)
    (F__law_over : Fun K "_law_over" "_law_over" s__law_over fo fdo) (b__law_over : Binds K fdo ["_law_word", "_law_truths"] []) (G__law_over : FnOk P w K mg base CX0 1 fo fdo ["_law_word", "_law_truths"] spOv)
    (F__law_tells_so : Fun K "_law_tells_so" "_law_tells_so" s__law_tells_so fs fds) (b__law_tells_so : Binds K fds ["_law_rows", "_law_text_here", "_law_places", "_law_due"] []) (G__law_tells_so : FnOk P w K mg base CX0 7 fs fds ["_law_rows", "_law_text_here", "_law_places", "_law_due"] spTe) : FnOk P w K mg base CX0 8 f fd ["_law_box_here", "_law_x", "_law_y", "_law_text_here"] spTw := by
  refine F.ok sc__law_two (fun vs H Q E h => ?_) (fun cdv A outer s H vs Q E hr h => ?_)
  · obtain ⟨b, x, y, z, o, rfl, _⟩ := h
    rfl
  · obtain ⟨b, x, y, z, o, rfl, hb, ho, xy, okx, oky, hz, k⟩ := h
    have hu := hr.units
    have hsz : sizeLine = 16777216 := PySem.sizeLine_eq
    have zln : z.cps.toList.length = z.length := by simp [Str.length]
    have sb0 : SB H b H := ⟨Kp.refl _ _, o, hb, ho⟩
    refine exQ (qpss_cons (qps_set (i := 4) sc__law_two.nd rfl (by first | exact Or.inl rfl | exact Or.inr rfl) (qpe_ix ix_U (qpe_lst (qpa_cons qpe_str (qpa_cons qpe_str qpa_nil))) (qpe_call G__law_take (hr.mono (by decide)) rfl T.m__law_take F__law_take.kp b__law_take .nil pass0 (qpa_cons (qpv 0) (qpa_cons qpe_int qpa_nil))) (fun _ _ => rfl)))
    (qpss_cons (qps_set (i := 5) sc__law_two.nd rfl (by first | exact Or.inl rfl | exact Or.inr rfl) (qpe_ix ix_U (qpe_lst (qpa_cons qpe_str (qpa_cons qpe_str qpa_nil))) (qpe_call G__law_take (hr.mono (by decide)) rfl T.m__law_take F__law_take.kp b__law_take .nil pass0 (qpa_cons (qpv 0) (qpa_cons qpe_int qpa_nil))) (fun _ _ => rfl)))
    (qpss_cons (qps_set (i := 6) sc__law_two.nd rfl (by first | exact Or.inl rfl | exact Or.inr rfl) (qpe_call G__law_take (hr.mono (by decide)) rfl T.m__law_take F__law_take.kp b__law_take .nil pass0 (qpa_cons (qpv 0) (qpa_cons qpe_int qpa_nil))))
    (qpss_mid (qps_set (i := 7) sc__law_two.nd rfl (by first | exact Or.inl rfl | exact Or.inr rfl) (qpe_lst (qpa_cons (qpe_ix ix_U (qpe_lst (qpa_cons (qpe_tup (qpa_cons qpe_str (qpa_cons (qpv 1) (qpa_cons (qpv 2) qpa_nil)))) (qpa_cons (qpe_tup (qpa_cons qpe_str (qpa_cons (qpv 2) (qpa_cons (qpv 1) qpa_nil)))) qpa_nil))) (qpv 6) (fun _ _ => rfl)) (qpa_cons (qpe_tup (qpa_cons (qpv 4) (qpa_cons (qpv 2) (qpa_cons qpe_int qpa_nil)))) (qpa_cons (qpe_tup (qpa_cons (qpv 5) (qpa_cons (qpv 1) (qpa_cons qpe_int qpa_nil)))) qpa_nil)))))
    (qpss_cons (qps_set (i := 8) sc__law_two.nd rfl (by first | exact Or.inl rfl | exact Or.inr rfl) (qpe_callB call_lenU (by rfl) T.n_len bt_len (qpa_cons (qpv 3) qpa_nil)))
    (qpss_cons (qps_set (i := 9) sc__law_two.nd rfl (by first | exact Or.inl rfl | exact Or.inr rfl) (qpe_lst qpa_nil))
    (qpss_mid (qps_for PassesOwn.never rfl (qpi_range1 rfl T.n_range (qpa_cons (qpv 8) qpa_nil)) (qpg_name (i := 10) sc__law_two.nd rfl (by first | exact Or.inl rfl | exact Or.inr rfl)) (qpss_one (qps_if (qpt_cmpR (op_eqU hu) (qpv 6) qpe_int (nomark _)) (qpss_one (qps_expr (qpe_bmL PySem.F.slot_list_append PySem.F.type_list_append mt_appendU (qpv 9) (qpa_cons (qpe_call G__law_over (hr.mono (by decide)) rfl T.m__law_over F__law_over.kp b__law_over .nil pass0 (qpa_cons (qpv 4) (qpa_cons (qpe_comp rfl (compOk_of (sc := defScope s__law_two) (N := ["_law_box_here", "_law_x", "_law_y", "_law_text_here", "_law_inner", "_law_outer", "_law_turned", "_law_rows", "_law_many", "_law_here", "_law_place"]) (Nc := ["_law_far", "_law_place"]) (js := [none, some 10]) (by decide +kernel)) (qpi_range1 rfl T.n_range (qpa_cons (qpv 8) qpa_nil)) (fun _ _ _ _ => (qpg_name (i := 0) (show List.Nodup [("_law_far" : Str), ("_law_place" : Str)] from by decide +kernel) rfl (by first | exact Or.inl rfl | exact Or.inr rfl))) (fun _ _ _ _ => (qpe_cmpR op_ltU (qpv 1) (qpv 0) (nomark _)))) qpa_nil))) qpa_nil) mono_var))) (qpss_one (qps_expr (qpe_bmL PySem.F.slot_list_append PySem.F.type_list_append mt_appendU (qpv 9) (qpa_cons (qpe_call G__law_over (hr.mono (by decide)) rfl T.m__law_over F__law_over.kp b__law_over .nil pass0 (qpa_cons (qpv 4) (qpa_cons (qpe_comp rfl (compOk_of (sc := defScope s__law_two) (N := ["_law_box_here", "_law_x", "_law_y", "_law_text_here", "_law_inner", "_law_outer", "_law_turned", "_law_rows", "_law_many", "_law_here", "_law_place"]) (Nc := ["_law_far", "_law_place"]) (js := [none, some 10]) (by decide +kernel)) (qpi_range1 rfl T.n_range (qpa_cons (qpv 8) qpa_nil)) (fun _ _ _ _ => (qpg_name (i := 0) (show List.Nodup [("_law_far" : Str), ("_law_place" : Str)] from by decide +kernel) rfl (by first | exact Or.inl rfl | exact Or.inr rfl))) (fun _ _ _ _ => (qpe_cmpR op_ltU (qpv 0) (qpv 1) (nomark _)))) qpa_nil))) qpa_nil) mono_var))))))
    (qpss_cons (qps_for PassesOwn.never rfl (qpi_range1 rfl T.n_range (qpa_cons (qpv 8) qpa_nil)) (qpg_name (i := 10) sc__law_two.nd rfl (by first | exact Or.inl rfl | exact Or.inr rfl)) (qpss_mid (qps_if (qpt_not (qpt_val (qpe_call G__law_tells_so (hr.mono (by decide)) rfl T.m__law_tells_so F__law_tells_so.kp b__law_tells_so .nil pass0 (qpa_cons (qpe_slice (sl_UK (K := K) rfl) (qpv 7) qpo_none (qpo_some qpe_int)) (qpa_cons (qpv 3) (qpa_cons (qpe_disp (qpps_cons (qpv 1) (qpv 10) qpps_nil)) (qpa_cons (qpe_ix ix_U (qpv 9) (qpv 10) (fun _ _ => rfl)) qpa_nil))))))) (qpss_one (qps_ret qpe_bl)) qpss_nil)
    (qpss_one (qps_if (qpt_not (qpt_val (qpe_call G__law_tells_so (hr.mono (by decide)) rfl T.m__law_tells_so F__law_tells_so.kp b__law_tells_so .nil pass0 (qpa_cons (qpe_slice (sl_UK (K := K) rfl) (qpv 7) qpo_none (qpo_some qpe_int)) (qpa_cons (qpv 3) (qpa_cons (qpe_disp (qpps_cons (qpv 1) (qpv 10) (qpps_cons (qpv 2) (qpv 10) qpps_nil))) (qpa_cons (qpe_ix ix_U (qpv 9) (qpv 10) (fun _ _ => rfl)) qpa_nil))))))) (qpss_one (qps_ret qpe_bl)) qpss_nil))))
    (qpss_one (qps_ret (qpe_call G__law_tells_so (hr.mono (by decide)) rfl T.m__law_tells_so F__law_tells_so.kp b__law_tells_so .nil pass0 (qpa_cons (qpv 7) (qpa_cons (qpv 3) (qpa_cons qpe_disp0 (qpa_cons (qpe_call G__law_over (hr.mono (by decide)) rfl T.m__law_over F__law_over.kp b__law_over .nil pass0 (qpa_cons (qpv 5) (qpa_cons (qpv 9) qpa_nil))) qpa_nil))))))))))))))) ?_
    simp!
    have tkW : ∀ {Ha : Hp} {Q' : VK}, SB H b Ha → (∀ (s : Bool) Hb, SB H b Hb → Q' (.str (qw s)) Hb) → 2 ≤ sizeLine ∧ ∀ p, Ha p = none → spTake [.ref b, .int 2] (upd Ha p (.lst [V.str (Str.ofString "some"), V.str (Str.ofString "each")])) (fun y H2 => rIxU (.ref p) y H2 Q') E0 := fun {Ha Q'} sb q => by
      refine ⟨by omega, fun p hp => (sb.new hp).tq (by decide) (by decide) fun d H2 d0 d1 sb2 k2 => ?_⟩
      have hp2 := k2.old _ _ (show upd Ha p (.lst [V.str (Str.ofString "some"), V.str (Str.ofString "each")]) p = _ from upd_same) (by simpa using sb.ne hp)
      have : d = 0 ∨ d = 1 := by omega
      rcases this with rfl | rfl
      · exact ⟨_, by rw [hp2]; rfl, _, atI_0 _ _, q true _ sb2⟩
      · exact ⟨_, by rw [hp2]; rfl, _, atI_1 _ _ _, q false _ sb2⟩
    refine tkW sb0 fun bi H1 sb1 => tkW sb1 fun bo H2 sb2 => ?_
    refine sb2.tq (by decide) (by decide) fun d H3 d0 d1 sb3 k3 => ?_
    obtain ⟨tu, rfl⟩ : ∃ tu : Bool, d = if tu then 1 else 0 := by
      have : d = 0 ∨ d = 1 := by omega
      rcases this with h | h
      · exact ⟨false, h⟩
      · exact ⟨true, h⟩
    refine ⟨fun σ H' => ∃ (pr : Addr) (us : List V), σ = [some (.ref b), some (.str x), some (.str y), some (.str z), some (.str (qw bi)), some (.str (qw bo)), some (.int (if tu then 1 else 0)), some (.ref pr), none, none, none] ∧ H' pr = some (.lst us) ∧ RowsAt H' us (R3 x y bi bo tu) ∧ SB H b H', ?_, ?_⟩
    · simp!
      refine ⟨by omega, fun p hp => ⟨by omega, fun p1 hp1 => ⟨by omega, fun p2 hp2 => ?_⟩⟩⟩
      have q2 := (((Kp.refl [] H3).new (o := .tup [V.str (Str.ofString "ahead"), V.str x, V.str y]) hp).new (o := .tup [V.str (Str.ofString "ahead"), V.str y, V.str x]) hp1).new (o := .lst [V.ref p, V.ref p1]) hp2
      have e0 := (((Kp.refl [] _).new (o := .tup [V.str (Str.ofString "ahead"), V.str y, V.str x]) hp1).new (o := .lst [V.ref p, V.ref p1]) hp2).tup p _ upd_same
      have e1 := ((Kp.refl [] _).new (o := .lst [V.ref p, V.ref p1]) hp2).tup p1 _ upd_same
      generalize upd (upd (upd H3 p (.tup [V.str (Str.ofString "ahead"), V.str x, V.str y])) p1 (.tup [V.str (Str.ofString "ahead"), V.str y, V.str x])) p2 (.lst [V.ref p, V.ref p1]) = H6 at q2 e0 e1 ⊢
      obtain ⟨t0, h0, et0⟩ : ∃ t0 : Addr, atI [V.ref p, V.ref p1] (if tu = true then 1 else 0) = some (.ref t0) ∧ H6 t0 = some (.tup (rowV (if tu then .ahead y x else .ahead x y))) := by
        cases tu with
        | true => exact ⟨p1, atI_1 _ _ _, e1⟩
        | false => exact ⟨p, atI_0 _ _, e0⟩
      refine ⟨_, h0, by omega, fun p3 hp3 => ⟨by omega, fun p4 hp4 => ⟨by omega, fun p5 hp5 => ?_⟩⟩⟩
      have q5 := ((Kp.refl [] H6).new (o := .tup [V.str (qw bi), V.str y, V.int 0]) hp3).new (o := .tup [V.str (qw bo), V.str x, V.int 1]) hp4
      have q6 := q5.new (o := .lst [V.ref t0, V.ref p3, V.ref p4]) hp5
      have e3 := (((Kp.refl [] _).new (o := .tup [V.str (qw bo), V.str x, V.int 1]) hp4).new (o := .lst [V.ref t0, V.ref p3, V.ref p4]) hp5).tup p3 _ upd_same
      have e4 := ((Kp.refl [] _).new (o := .lst [V.ref t0, V.ref p3, V.ref p4]) hp5).tup p4 _ upd_same
      exact ⟨.cons ⟨t0, rfl, q6.tup _ _ et0⟩ (.cons ⟨p3, rfl, e3⟩ (.cons ⟨p4, rfl, e4⟩ .nil)), sb3.keep (q2.trans q6)⟩
    rintro _ H4 ⟨pr, us, rfl, hus, ras, sb4⟩
    simp!
    refine ⟨by omega, by omega, fun hh hhh => ?_⟩
    have k5 : Kp [] H4 (upd H4 hh (.lst [])) := (Kp.refl [] H4).new hhh
    have e5 : upd H4 hh (.lst []) hh = some (.lst []) := upd_same
    generalize upd H4 hh (.lst []) = H5 at k5 e5 ⊢
    refine ⟨fun σ H' => ∃ v : Option V, σ = [some (.ref b), some (.str x), some (.str y), some (.str z), some (.str (qw bi)), some (.str (qw bo)), some (.int (if tu then 1 else 0)), some (.ref pr), some (.int (z.length : Int)), some (.ref hh), v] ∧ H' hh = some (.lst (bV ((List.range z.length).map (heT z.length bi tu)))) ∧ Kp [hh] H5 H', ?_, ?_⟩
    · simp!
      refine ⟨by omega, by omega, ?_⟩
      rw [Int.toNat_natCast]
      refine loop_range (fun kx σ H' => ∃ v : Option V, σ = [some (.ref b), some (.str x), some (.str y), some (.str z), some (.str (qw bi)), some (.str (qw bo)), some (.int (if tu then 1 else 0)), some (.ref pr), some (.int (z.length : Int)), some (.ref hh), v] ∧ H' hh = some (.lst (bV ((List.range kx).map (heT z.length bi tu)))) ∧ Kp [hh] H5 H') ⟨none, rfl, e5, Kp.refl _ _⟩ ?_ (fun σ H' h => h)
      rintro kx σ H' hk ⟨v, rfl, h1, kp⟩
      have fin : ∀ {G : Addr} {Hb : Hp}, Kp [] H' Hb → Hb G = some (.lst (bV ((List.range z.length).map (gT tu kx)))) → spOv [.str (qw bi), .ref G] Hb (fun y_1 H1 => ∃ xs, lstOf (H1 hh) = some xs ∧ xs.length < sizeLine ∧ xs ++ [y_1] = bV ((List.range (kx + 1)).map (heT z.length bi tu)) ∧ Kp [hh] H5 (upd H1 hh (.lst (xs ++ [y_1])))) E0 := fun {G Hb} kb hG => by
        have h2 := kb.old _ _ h1 List.not_mem_nil
        refine ⟨G, bi, _, rfl, hG, _, by rw [h2]; rfl, by rw [bV_len, List.length_map, List.length_range]; omega, ?_, (kp.trans (kb.mono (by simp))).set h2 (.inl (.head _))⟩
        rw [List.range_succ, List.map_append]
        simp [bV, heT]
      simp!
      refine ite2 (fun e => ?_) (fun e => ?_)
      · have htu : tu = false := by cases tu with | false => rfl | true => simp at e
        refine ⟨by rw [h1]; rfl, by omega, by omega, fun G hG => ?_⟩
        rw [Int.toNat_natCast]
        refine comp_range (fun p => .bl (gT tu kx p)) (by omega) (fun p _ l' Q' q => ?_) fun v => fin ((Kp.refl [] H').new hG) (by rw [upd_same, bV, List.map_map]; rfl)
        simp!
        rw [show decide (0 + (kx : Int) < 0 + (p : Int)) = gT tu kx p by rw [htu]; unfold gT; rw [if_neg (by decide), Bool.eq_iff_iff]; simp]
        exact q
      · have htu : tu = true := by cases tu with | true => rfl | false => simp at e
        refine ⟨by rw [h1]; rfl, by omega, by omega, fun G hG => ?_⟩
        rw [Int.toNat_natCast]
        refine comp_range (fun p => .bl (gT tu kx p)) (by omega) (fun p _ l' Q' q => ?_) fun v => fin ((Kp.refl [] H').new hG) (by rw [upd_same, bV, List.map_map]; rfl)
        simp!
        rw [show decide (0 + (p : Int) < 0 + (kx : Int)) = gT tu kx p by rw [htu]; unfold gT; rw [if_pos rfl, Bool.eq_iff_iff]; simp]
        exact q
    rintro _ H6 ⟨v, rfl, hh6, kp6⟩
    have nhp : hh ≠ pr := (ne_of_none hus hhh).symm
    have us3 : us.length = 3 := Paired.length ras
    have sb6 : SB H b H6 := by
      have k45 := kp_drop k5 kp6 fun b' hb' => by rw [List.mem_singleton.mp hb']; exact hhh
      exact sb4.keep k45
    have hus6 : H6 pr = some (.lst us) := kp6.old _ _ (k5.old _ _ hus List.not_mem_nil) (by simpa using nhp.symm)
    have ras6 := (ras.kp k5).kp kp6
    have kb : ∀ {Ha : Hp}, Kp [] H6 Ha → Ha pr = some (.lst us) ∧ RowsAt Ha us (R3 x y bi bo tu) := fun kk => ⟨kk.old _ _ hus6 List.not_mem_nil, ras6.kp kk⟩
    have ask : ∀ {Ha : Hp} {q pd : Addr} {vs : List V} {rs : List RS} {kvs : List (L2.Key × Int)} {ρ : Str → Nat} {u : Bool} {Q' : VK}, Ha q = some (.lst vs) → RowsAt Ha vs rs → Asked z rs [x, y] kvs ρ → Ha pd = some (.dK (kvs.map kI)) → sAt (sms z.cps.toList rs) (rs.length - 1) ρ = u → (∀ Hb, Kp [] Ha Hb → Q' (.bl true) Hb) → spTe [.ref q, .str z, .ref pd, .bl u] Ha Q' E0 := fun h1 h2 h3 h4 h5 h6 => ⟨_, _, _, _, _, _, _, _, by rw [h5], h1, h2, h3, h4, h6⟩
    have cutk : ∀ {Ha : Hp} {Q' : VK}, Kp [] H6 Ha → (∀ q Hb, Kp [] H6 Hb → Hb q = some (.lst (us.take 2)) → RowsAt Hb (us.take 2) ((R3 x y bi bo tu).take 2) → Q' (.ref q) Hb) → rSlU K (.ref pr) none (some ((2 : Nat) : Int)) Ha Q' := fun {Ha Q'} ka q => by
      refine rSlU.lst (kb ka).1 fun p hp => ?_
      rw [cutV_take (by omega)]
      have k1 : Kp [] Ha (upd Ha p (.lst (us.take 2))) := (Kp.refl [] Ha).new hp
      exact q p _ (ka.trans k1) upd_same ((rows_take 2 (kb ka).2).kp k1)
    simp!
    refine ⟨by omega, by omega, ?_⟩
    rw [Int.toNat_natCast]
    refine loop_range (fun kx σ H' => ∃ v : Option V, σ = [some (.ref b), some (.str x), some (.str y), some (.str z), some (.str (qw bi)), some (.str (qw bo)), some (.int (if tu then 1 else 0)), some (.ref pr), some (.int (z.length : Int)), some (.ref hh), v] ∧ Kp [] H6 H') ⟨v, rfl, Kp.refl _ _⟩ ?_ ?_
    · rintro kx σ H' hk ⟨v, rfl, kp⟩
      have hat : ∀ {Ha : Hp}, Kp [] H6 Ha → seqOf (Ha hh) = some (bV ((List.range z.length).map (heT z.length bi tu))) ∧ atI (bV ((List.range z.length).map (heT z.length bi tu))) (kx : Int) = some (.bl (heT z.length bi tu kx)) := fun kk => ⟨by rw [kk.old _ _ hh6 List.not_mem_nil]; rfl, atI_nat (by rw [bV, List.getElem?_map, List.getElem?_map, List.getElem?_range hk]; rfl)⟩
      obtain ⟨σb, hσb⟩ : ∃ σb : L2.St, σb = [some (.ref b), some (.str x), some (.str y), some (.str z), some (.str (qw bi)), some (.str (qw bo)), some (.int (if tu then 1 else 0)), some (.ref pr), some (.int (z.length : Int)), some (.ref hh), some (.int (kx : Int))] := ⟨_, rfl⟩
      show tMid _ _ _ [some (.ref b), some (.str x), some (.str y), some (.str z), some (.str (qw bi)), some (.str (qw bo)), some (.int (if tu then 1 else 0)), some (.ref pr), some (.int (z.length : Int)), some (.ref hh), some (.int (0 + (kx : Int)))] H'
      have w1 : ∀ ρ : Str → Nat, ρ x = kx → sAt (sms z.cps.toList ((R3 x y bi bo tu).take 2)) (((R3 x y bi bo tu).take 2).length - 1) ρ = heT z.length bi tu kx := fun ρ e => by
        have := w1v z.cps.toList bi tu xy [] ρ
        rw [zln, e] at this
        exact this
      rw [Int.zero_add, ← hσb]
      refine ⟨fun σ Ha => σ = σb ∧ Kp [] H6 Ha, ?_, ?_⟩
      · rw [hσb]
        simp!
        refine cutk kp fun q Ha ka eq rq p hp => ⟨[(.inr x, .int (kx : Int))], rfl, by simp, ?_⟩
        have k2 : Kp [] Ha (upd Ha p (.dK (mergeK [] [(.inr x, .int (kx : Int))]))) := (Kp.refl [] Ha).new hp
        have e2 : upd Ha p (.dK (mergeK [] [(.inr x, .int (kx : Int))])) p = some (.dK ([((.inr x : L2.Key), (kx : Int))].map kI)) := upd_same
        generalize upd Ha p (.dK (mergeK [] [(.inr x, .int (kx : Int))])) = Hb at k2 e2 ⊢
        have kab := ka.trans k2
        refine ⟨_, (hat kab).1, _, (hat kab).2, ?_⟩
        exact ask (k2.old _ _ eq List.not_mem_nil) (rq.kp k2) (askC hz okx oky (ρ := fun _ => kx) (by simp) (by simp [valV, kI]) hk) e2 (w1 _ rfl) fun Hc kc => ⟨true, rfl, kab.trans kc⟩
      rintro _ Hb ⟨e, kb'⟩
      rw [e, hσb]
      simp!
      refine cutk kb' fun q Ha ka eq rq p hp => ⟨[(.inr x, .int (kx : Int)), (.inr y, .int (kx : Int))], rfl, by simp, ?_⟩
      rw [two_val xy]
      have k2 : Kp [] Ha (upd Ha p (.dK ([((.inr x : L2.Key), (kx : Int)), (.inr y, (kx : Int))].map kI))) := (Kp.refl [] Ha).new hp
      have e2 : upd Ha p (.dK ([((.inr x : L2.Key), (kx : Int)), (.inr y, (kx : Int))].map kI)) p = _ := upd_same
      generalize upd Ha p (.dK ([((.inr x : L2.Key), (kx : Int)), (.inr y, (kx : Int))].map kI)) = Hc at k2 e2 ⊢
      have kab := ka.trans k2
      refine ⟨_, (hat kab).1, _, (hat kab).2, ?_⟩
      exact ask (k2.old _ _ eq List.not_mem_nil) (rq.kp k2) (askC hz okx oky (ρ := fun _ => kx) (nd_two xy _ _) (val_at xy _ _).1 hk) e2 (w1 _ rfl) fun Hd kd => ⟨true, rfl, kab.trans kd⟩
    · rintro σ H' ⟨v, rfl, kp⟩
      simp!
      refine fun p hp => ?_
      have k2 : Kp [] H' (upd H' p (.dK [])) := (Kp.refl [] H').new hp
      have kab := kp.trans k2
      refine ⟨hh, bo, _, rfl, kab.old _ _ hh6 List.not_mem_nil, ?_⟩
      exact ask (kvs := []) (kb kab).1 (kb kab).2 (askD hz okx oky) upd_same (by have := w2v z.cps.toList bi bo tu xy fun _ => 0; rw [zln] at this; exact this) fun Hd kd => k _ (sb6.keep (kab.trans kd))
end
theorem nm_ok {z : Str} (h : NmOk z) : PyData.strOk z = true := by
  unfold PyData.strOk
  rw [Array.all_eq_true']
  intro c hc
  have := h.2 c (by unfold sg; exact Array.mem_toList_iff.mpr hc)
  simp
  omega
structure TLw (mg : Str → Option Value) (fb fl fp fx fa ft : Addr) : Prop where
  m__law_box : mg "_law_box" = some (.ref fb)
  m__law_letters : mg "_law_letters" = some (.ref fl)
  m__law_place_names : mg "_law_place_names" = some (.ref fp)
  m__law_text : mg "_law_text" = some (.ref fx)
  m__law_anew : mg "_law_anew" = some (.ref fa)
  m__law_two : mg "_law_two" = some (.ref ft)
section
variable {P : Program} {w : World} {K : PySem.W.Frag} {mg : Str → Option Value} {base : Heap}
abbrev s_law : Stmt := top 25
theorem sc_law : FnScope ["_law_script", "_law_box_here", "_law_letters_here", "_law_names", "_law_text_here"] ["_law_script"] (defScope s_law) := ⟨rfl, rfl, rfl, by decide +kernel, rfl, by decide +kernel, by decide +kernel⟩
theorem ok_law {f fb fl fp fx fa ft : Addr} {fd fdb fdl fdp fdx fda fdt : FuncData} (F : Fun K "law" "law" s_law f fd) (T : TLw mg fb fl fp fx fa ft)
    (F__law_box : Fun K "_law_box" "_law_box" s__law_box fb fdb) (b__law_box : Binds K fdb ["_law_script", "_law_k"] []) (G__law_box : FnOk P w K mg base CX0 1 fb fdb ["_law_script", "_law_k"] (spBox K))
    (F__law_letters : Fun K "_law_letters" "_law_letters" s__law_letters fl fdl) (b__law_letters : Binds K fdl ["_law_box_here", "_law_most"] []) (G__law_letters : FnOk P w K mg base CX0 2 fl fdl ["_law_box_here", "_law_most"] spLetters)
    (F__law_place_names : Fun K "_law_place_names" "_law_place_names" s__law_place_names fp fdp) (b__law_place_names : Binds K fdp ["_law_box_here", "_law_many"] []) (G__law_place_names : FnOk P w K mg base CX0 2 fp fdp ["_law_box_here", "_law_many"] spPN)
    (F__law_text : Fun K "_law_text" "_law_text" s__law_text fx fdx) (b__law_text : Binds K fdx ["_law_box_here", "_law_letters_here", "_law_most"] []) (G__law_text : FnOk P w K mg base CX0 2 fx fdx ["_law_box_here", "_law_letters_here", "_law_most"] spText)
    (F__law_anew : Fun K "_law_anew" "_law_anew" s__law_anew fa fda) (b__law_anew : Binds K fda ["_law_box_here", "_law_x", "_law_y", "_law_letters_here", "_law_text_here"] []) (G__law_anew : FnOk P w K mg base CX0 8 fa fda ["_law_box_here", "_law_x", "_law_y", "_law_letters_here", "_law_text_here"] spAn)
    (F__law_two : Fun K "_law_two" "_law_two" s__law_two ft fdt) (b__law_two : Binds K fdt ["_law_box_here", "_law_x", "_law_y", "_law_text_here"] []) (G__law_two : FnOk P w K mg base CX0 8 ft fdt ["_law_box_here", "_law_x", "_law_y", "_law_text_here"] spTw) : FnOk P w K mg base CX0 9 f fd ["_law_script"] (spLaw K) := by
  refine F.ok sc_law (fun vs H Q E h => ?_) (fun cdv A outer s H vs Q E hr h => ?_)
  · obtain ⟨a, is, rfl, _⟩ := h
    rfl
  · obtain ⟨a, is, rfl, ha, hil, kQ⟩ := h
    have hu := hr.units
    have hsz : sizeLine = 16777216 := PySem.sizeLine_eq
    refine exQ (qpss_cons (qps_set (i := 1) sc_law.nd rfl (by first | exact Or.inl rfl | exact Or.inr rfl) (qpe_call G__law_box (hr.mono (by decide)) rfl T.m__law_box F__law_box.kp b__law_box .nil pass0 (qpa_cons (qpv 0) (qpa_cons qpe_int qpa_nil))))
    (qpss_cons (qps_set (i := 2) sc_law.nd rfl (by first | exact Or.inl rfl | exact Or.inr rfl) (qpe_call G__law_letters (hr.mono (by decide)) rfl T.m__law_letters F__law_letters.kp b__law_letters .nil pass0 (qpa_cons (qpv 1) (qpa_cons qpe_int qpa_nil))))
    (qpss_cons (qps_set (i := 3) sc_law.nd rfl (by first | exact Or.inl rfl | exact Or.inr rfl) (qpe_call G__law_place_names (hr.mono (by decide)) rfl T.m__law_place_names F__law_place_names.kp b__law_place_names .nil pass0 (qpa_cons (qpv 1) (qpa_cons qpe_int qpa_nil))))
    (qpss_cons (qps_set (i := 4) sc_law.nd rfl (by first | exact Or.inl rfl | exact Or.inr rfl) (qpe_call G__law_text (hr.mono (by decide)) rfl T.m__law_text F__law_text.kp b__law_text .nil pass0 (qpa_cons (qpe_call G__law_box (hr.mono (by decide)) rfl T.m__law_box F__law_box.kp b__law_box .nil pass0 (qpa_cons (qpv 0) (qpa_cons qpe_int qpa_nil))) (qpa_cons (qpv 2) (qpa_cons qpe_int qpa_nil)))))
    (qpss_cons (qps_set (i := 1) sc_law.nd rfl (by first | exact Or.inl rfl | exact Or.inr rfl) (qpe_call G__law_box (hr.mono (by decide)) rfl T.m__law_box F__law_box.kp b__law_box .nil pass0 (qpa_cons (qpv 0) (qpa_cons qpe_int qpa_nil))))
    (qpss_mid (qps_if (qpt_not (qpt_val (qpe_call G__law_anew (hr.mono (by decide)) rfl T.m__law_anew F__law_anew.kp b__law_anew .nil pass0 (qpa_cons (qpv 1) (qpa_cons (qpe_ix ix_U (qpv 3) qpe_int (fun _ _ => rfl)) (qpa_cons (qpe_ix ix_U (qpv 3) qpe_int (fun _ _ => rfl)) (qpa_cons (qpv 2) (qpa_cons (qpv 4) qpa_nil)))))))) (qpss_one (qps_ret qpe_bl)) qpss_nil)
    (qpss_one (qps_ret (qpe_and (qpe_call G__law_two (hr.mono (by decide)) rfl T.m__law_two F__law_two.kp b__law_two .nil pass0 (qpa_cons (qpv 1) (qpa_cons (qpe_ix ix_U (qpv 3) qpe_int (fun _ _ => rfl)) (qpa_cons (qpe_ix ix_U (qpv 3) qpe_int (fun _ _ => rfl)) (qpa_cons (qpv 4) qpa_nil))))) (qpe_one (qpe_call G__law_anew (hr.mono (by decide)) rfl T.m__law_anew F__law_anew.kp b__law_anew .nil pass0 (qpa_cons (qpv 1) (qpa_cons (qpe_ix ix_U (qpv 3) qpe_int (fun _ _ => rfl)) (qpa_cons (qpe_ix ix_U (qpv 3) qpe_int (fun _ _ => rfl)) (qpa_cons (qpv 2) (qpa_cons (qpv 4) qpa_nil)))))))))))))))) ?_
    simp!
    refine ⟨a, 0, is, rfl, ha, by omega, by omega, fun b1 o1 hb1 ho1 => ?_⟩
    refine ⟨b1, 4, o1, rfl, upd_same, ho1, by omega, by omega, fun zl o2 H2 hz ho2 hb2 kp2 => ?_⟩
    refine ⟨b1, 2, o2, rfl, hb2, ho2, by omega, by omega, fun p zs o3 H3 hzl nd hzs hp0 hp3 ho3 hb3 kp3 => ?_⟩
    have k03 : Kp [] H H3 := kp_drop ((Kp.refl [] H).new hb1) (kp2.trans kp3) fun b hb => by rw [List.mem_singleton.mp hb]; exact hb1
    refine ⟨a, 1, is, rfl, k03.seq (by simp) ha, by omega, by omega, fun b2 o4 hb4 ho4 => ?_⟩
    refine ⟨b2, zl, 10, o4, rfl, upd_same, ho4, hz.lo, by have := hz.hi; omega, by omega, fun z o5 H5 hzl5 hzin ho5 hb5 kp5 => ?_⟩
    have k35 : Kp [] H3 H5 := kp_drop ((Kp.refl [] H3).new hb4) kp5 fun b hb => by rw [List.mem_singleton.mp hb]; exact hb4
    refine ⟨a, 2, is, rfl, (k03.trans k35).seq (by simp) ha, by omega, by omega, fun b3 o6 hb6 ho6 => ?_⟩
    have k6 : Kp [] H5 (upd H5 b3 o6) := (Kp.refl [] H5).new hb6
    have e6 : upd H5 b3 o6 b3 = some o6 := upd_same
    generalize upd H5 b3 o6 = H6 at k6 e6 ⊢
    have hp6 := (k35.trans k6).old _ _ hp3 List.not_mem_nil
    match zs, hzl, nd rfl with
    | [x, y], _, nd =>
      have xy : x ≠ y := by simpa using nd
      have okx := nm_ok (hzs x (by simp))
      have oky := nm_ok (hzs y (by simp))
      have np : p ≠ b3 := ne_of_none (k35.old _ _ hp3 List.not_mem_nil) hb6
      have zl1 := hz.lo
      have zl2 := hz.hi
      have hpk : ∀ {Ha : Hp}, SB H6 b3 Ha → Ha p = some (.lst [.str x, .str y]) := fun sb => sb.kp.old _ _ hp6 (by simpa using np)
      have sb6 : SB H6 b3 H6 := ⟨Kp.refl _ _, o6, e6, ho6⟩
      refine ⟨fun σ H' => σ = [some (.ref a), some (.ref b3), some (.str zl), some (.ref p), some (.str z)] ∧ SB H6 b3 H', ?_, ?_⟩
      · simp! [hp6]
        exact ⟨b3, x, y, zl, z, o6, rfl, e6, ho6, xy, okx, zl1, by omega, hzl5, fun H7 sb7 => ⟨true, rfl, sb7⟩⟩
      rintro _ H7 ⟨rfl, sb7⟩
      have hp7 := hpk sb7
      simp! [hp7]
      obtain ⟨o7, e7, ho7⟩ := sb7.bx
      refine ⟨b3, y, x, z, o7, rfl, e7, ho7, xy.symm, oky, okx, hzl5, fun H8 sb8' => ⟨true, rfl, ?_⟩⟩
      have sb8 := sb7.trans sb8'
      have hp8 := hpk sb8
      obtain ⟨o8, e8, ho8⟩ := sb8.bx
      rw [if_pos rfl]
      exact ⟨_, by rw [hp8]; rfl, _, atI_1 _ _ _, _, by rw [hp8]; rfl, _, atI_0 _ _, b3, y, x, zl, z, o8, rfl, e8, ho8, xy.symm, oky, zl1, by omega, hzl5, fun H9 _ => kQ H9⟩
end
theorem us1 {C : List Value → Prop} (h : ∀ v0 : Value, C [v0]) (us : List Value) (e : us.length = 1) : C us := by
  cases us with
  | nil => exact absurd e.symm (Nat.succ_ne_zero _)
  | cons v0 us =>
    cases us with
    | nil => exact h v0
    | cons _ _ => exact absurd (Nat.succ.inj (e)) (Nat.succ_ne_zero _)
theorem us2 {C : List Value → Prop} (h : ∀ v0 v1 : Value, C [v0, v1]) (us : List Value) (e : us.length = 2) : C us := by
  cases us with
  | nil => exact absurd e.symm (Nat.succ_ne_zero _)
  | cons v0 us =>
    cases us with
    | nil => exact absurd (Nat.succ.inj (e.symm)) (Nat.succ_ne_zero _)
    | cons v1 us =>
      cases us with
      | nil => exact h v0 v1
      | cons _ _ => exact absurd (Nat.succ.inj (Nat.succ.inj (e))) (Nat.succ_ne_zero _)
theorem us3 {C : List Value → Prop} (h : ∀ v0 v1 v2 : Value, C [v0, v1, v2]) (us : List Value) (e : us.length = 3) : C us := by
  cases us with
  | nil => exact absurd e.symm (Nat.succ_ne_zero _)
  | cons v0 us =>
    cases us with
    | nil => exact absurd (Nat.succ.inj (e.symm)) (Nat.succ_ne_zero _)
    | cons v1 us =>
      cases us with
      | nil => exact absurd (Nat.succ.inj (Nat.succ.inj (e.symm))) (Nat.succ_ne_zero _)
      | cons v2 us =>
        cases us with
        | nil => exact h v0 v1 v2
        | cons _ _ => exact absurd (Nat.succ.inj (Nat.succ.inj (Nat.succ.inj (e)))) (Nat.succ_ne_zero _)
theorem us4 {C : List Value → Prop} (h : ∀ v0 v1 v2 v3 : Value, C [v0, v1, v2, v3]) (us : List Value) (e : us.length = 4) : C us := by
  cases us with
  | nil => exact absurd e.symm (Nat.succ_ne_zero _)
  | cons v0 us =>
    cases us with
    | nil => exact absurd (Nat.succ.inj (e.symm)) (Nat.succ_ne_zero _)
    | cons v1 us =>
      cases us with
      | nil => exact absurd (Nat.succ.inj (Nat.succ.inj (e.symm))) (Nat.succ_ne_zero _)
      | cons v2 us =>
        cases us with
        | nil => exact absurd (Nat.succ.inj (Nat.succ.inj (Nat.succ.inj (e.symm)))) (Nat.succ_ne_zero _)
        | cons v3 us =>
          cases us with
          | nil => exact h v0 v1 v2 v3
          | cons _ _ => exact absurd (Nat.succ.inj (Nat.succ.inj (Nat.succ.inj (Nat.succ.inj (e))))) (Nat.succ_ne_zero _)
theorem us5 {C : List Value → Prop} (h : ∀ v0 v1 v2 v3 v4 : Value, C [v0, v1, v2, v3, v4]) (us : List Value) (e : us.length = 5) : C us := by
  cases us with
  | nil => exact absurd e.symm (Nat.succ_ne_zero _)
  | cons v0 us =>
    cases us with
    | nil => exact absurd (Nat.succ.inj (e.symm)) (Nat.succ_ne_zero _)
    | cons v1 us =>
      cases us with
      | nil => exact absurd (Nat.succ.inj (Nat.succ.inj (e.symm))) (Nat.succ_ne_zero _)
      | cons v2 us =>
        cases us with
        | nil => exact absurd (Nat.succ.inj (Nat.succ.inj (Nat.succ.inj (e.symm)))) (Nat.succ_ne_zero _)
        | cons v3 us =>
          cases us with
          | nil => exact absurd (Nat.succ.inj (Nat.succ.inj (Nat.succ.inj (Nat.succ.inj (e.symm))))) (Nat.succ_ne_zero _)
          | cons v4 us =>
            cases us with
            | nil => exact h v0 v1 v2 v3 v4
            | cons _ _ => exact absurd (Nat.succ.inj (Nat.succ.inj (Nat.succ.inj (Nat.succ.inj (Nat.succ.inj (e)))))) (Nat.succ_ne_zero _)
theorem us6 {C : List Value → Prop} (h : ∀ v0 v1 v2 v3 v4 v5 : Value, C [v0, v1, v2, v3, v4, v5]) (us : List Value) (e : us.length = 6) : C us := by
  cases us with
  | nil => exact absurd e.symm (Nat.succ_ne_zero _)
  | cons v0 us =>
    cases us with
    | nil => exact absurd (Nat.succ.inj (e.symm)) (Nat.succ_ne_zero _)
    | cons v1 us =>
      cases us with
      | nil => exact absurd (Nat.succ.inj (Nat.succ.inj (e.symm))) (Nat.succ_ne_zero _)
      | cons v2 us =>
        cases us with
        | nil => exact absurd (Nat.succ.inj (Nat.succ.inj (Nat.succ.inj (e.symm)))) (Nat.succ_ne_zero _)
        | cons v3 us =>
          cases us with
          | nil => exact absurd (Nat.succ.inj (Nat.succ.inj (Nat.succ.inj (Nat.succ.inj (e.symm))))) (Nat.succ_ne_zero _)
          | cons v4 us =>
            cases us with
            | nil => exact absurd (Nat.succ.inj (Nat.succ.inj (Nat.succ.inj (Nat.succ.inj (Nat.succ.inj (e.symm)))))) (Nat.succ_ne_zero _)
            | cons v5 us =>
              cases us with
              | nil => exact h v0 v1 v2 v3 v4 v5
              | cons _ _ => exact absurd (Nat.succ.inj (Nat.succ.inj (Nat.succ.inj (Nat.succ.inj (Nat.succ.inj (Nat.succ.inj (e))))))) (Nat.succ_ne_zero _)
theorem all_mk {l : PySem.W.OpenLaw} {w : World} {K : PySem.W.Frag} {h : Heap} {mg : Str → Option Value} {fa f1 f2 f3 f4 f5 f6 f7 f8 f9 f10 f11 f12 f13 f14 f15 f16 f17 f18 f19 f20 : Addr} (X : K.In h) (G : h.Ns mainGlobals mg) (hfa : mg "law" = some (.ref fa))
    {od1 od2 od3 od4 od5 od6 od7 od8 od9 od10 od11 od12 od13 od14 od15 od16 od17 od18 od19 od20 an1 an2 an3 an4 an5 an6 an7 an8 an9 an10 an11 an12 an13 an14 an15 an16 an17 an18 an19 an20 : Option Addr} {sl1 sl2 sl3 sl4 sl5 sl6 sl7 sl8 sl9 sl10 sl11 sl12 sl13 sl14 sl15 sl16 sl17 sl18 sl19 sl20 : Array (Option Value)} {oc1 kV1 dc1 pm1 cd1 ct1 oc2 kV2 dc2 pm2 cd2 ct2 oc3 kV3 dc3 pm3 cd3 ct3 oc4 kV4 dc4 pm4 cd4 ct4 oc5 kV5 dc5 pm5 cd5 ct5 oc6 kV6 dc6 pm6 cd6 ct6 oc7 kV7 dc7 pm7 cd7 ct7 oc8 kV8 dc8 pm8 cd8 ct8 oc9 kV9 dc9 pm9 cd9 ct9 oc10 kV10 dc10 pm10 cd10 ct10 oc11 kV11 dc11 pm11 cd11 ct11 oc12 kV12 dc12 pm12 cd12 ct12 oc13 kV13 dc13 pm13 cd13 ct13 oc14 kV14 dc14 pm14 cd14 ct14 oc15 kV15 dc15 pm15 cd15 ct15 oc16 kV16 dc16 pm16 cd16 ct16 oc17 kV17 dc17 pm17 cd17 ct17 oc18 kV18 dc18 pm18 cd18 ct18 oc19 kV19 dc19 pm19 cd19 ct19 oc20 kV20 dc20 pm20 cd20 ct20 : Value}
    {C : Addr} {M0 : Addr} {vd0 va0 : Option Addr} {vs0 : Array (Option Value)} {vo0 vk0 vq0 vp0 vc0 vt0 : Value} {M1 : Addr} {vd1 va1 : Option Addr} {vs1 : Array (Option Value)} {vo1 vk1 vq1 vp1 vc1 vt1 : Value} {M2 : Addr} {vd2 va2 : Option Addr} {vs2 : Array (Option Value)} {vo2 vk2 vq2 vp2 vc2 vt2 : Value} {M3 : Addr} {vd3 va3 : Option Addr} {vs3 : Array (Option Value)} {vo3 vk3 vq3 vp3 vc3 vt3 : Value} {an : Addr} {odn : Option Addr} {itn : Array Value} {nn : Nat} {sln : Array (Option Value)}
    (a1 : PySem.W.nsIn K mainGlobals "parts_of" = some (some (.ref f1))) (l1 : K.lookup f1 = some ⟨oc1, od1, .func (PySem.W.fnOf "parts_of" "parts_of" (defArgs s_parts_of) (defBody s_parts_of) (defScope s_parts_of) .none kV1 dc1 pm1 an1 cd1 ct1), sl1⟩) (c1 : PySem.W.codeIn K cd1 "parts_of" = true) (k1 : PySem.W.keepIn K (.ref f1) = true)
    (a2 : PySem.W.nsIn K mainGlobals "names_of_rows" = some (some (.ref f2))) (l2 : K.lookup f2 = some ⟨oc2, od2, .func (PySem.W.fnOf "names_of_rows" "names_of_rows" (defArgs s_names_of_rows) (defBody s_names_of_rows) (defScope s_names_of_rows) .none kV2 dc2 pm2 an2 cd2 ct2), sl2⟩) (c2 : PySem.W.codeIn K cd2 "names_of_rows" = true) (k2 : PySem.W.keepIn K (.ref f2) = true)
    (a3 : PySem.W.nsIn K mainGlobals "names_of_row" = some (some (.ref f3))) (l3 : K.lookup f3 = some ⟨oc3, od3, .func (PySem.W.fnOf "names_of_row" "names_of_row" (defArgs s_names_of_row) (defBody s_names_of_row) (defScope s_names_of_row) .none kV3 dc3 pm3 an3 cd3 ct3), sl3⟩) (c3 : PySem.W.codeIn K cd3 "names_of_row" = true) (k3 : PySem.W.keepIn K (.ref f3) = true)
    (a4 : PySem.W.nsIn K mainGlobals "holds" = some (some (.ref f4))) (l4 : K.lookup f4 = some ⟨oc4, od4, .func (PySem.W.fnOf "holds" "holds" (defArgs s_holds) (defBody s_holds) (defScope s_holds) .none kV4 dc4 pm4 an4 cd4 ct4), sl4⟩) (c4 : PySem.W.codeIn K cd4 "holds" = true) (k4 : PySem.W.keepIn K (.ref f4) = true)
    (a5 : PySem.W.nsIn K mainGlobals "row_truths" = some (some (.ref f5))) (l5 : K.lookup f5 = some ⟨oc5, od5, .func (PySem.W.fnOf "row_truths" "row_truths" (defArgs s_row_truths) (defBody s_row_truths) (defScope s_row_truths) .none kV5 dc5 pm5 an5 cd5 ct5), sl5⟩) (c5 : PySem.W.codeIn K cd5 "row_truths" = true) (k5 : PySem.W.keepIn K (.ref f5) = true)
    (a6 : PySem.W.nsIn K mainGlobals "ahead_truths" = some (some (.ref f6))) (l6 : K.lookup f6 = some ⟨oc6, od6, .func (PySem.W.fnOf "ahead_truths" "ahead_truths" (defArgs s_ahead_truths) (defBody s_ahead_truths) (defScope s_ahead_truths) .none kV6 dc6 pm6 an6 cd6 ct6), sl6⟩) (c6 : PySem.W.codeIn K cd6 "ahead_truths" = true) (k6 : PySem.W.keepIn K (.ref f6) = true)
    (a7 : PySem.W.nsIn K mainGlobals "widened" = some (some (.ref f7))) (l7 : K.lookup f7 = some ⟨oc7, od7, .func (PySem.W.fnOf "widened" "widened" (defArgs s_widened) (defBody s_widened) (defScope s_widened) .none kV7 dc7 pm7 an7 cd7 ct7), sl7⟩) (c7 : PySem.W.codeIn K cd7 "widened" = true) (k7 : PySem.W.keepIn K (.ref f7) = true)
    (a8 : PySem.W.nsIn K mainGlobals "bound_truths" = some (some (.ref f8))) (l8 : K.lookup f8 = some ⟨oc8, od8, .func (PySem.W.fnOf "bound_truths" "bound_truths" (defArgs s_bound_truths) (defBody s_bound_truths) (defScope s_bound_truths) .none kV8 dc8 pm8 an8 cd8 ct8), sl8⟩) (c8 : PySem.W.codeIn K cd8 "bound_truths" = true) (k8 : PySem.W.keepIn K (.ref f8) = true)
    (a9 : PySem.W.nsIn K mainGlobals "one_place_more" = some (some (.ref f9))) (l9 : K.lookup f9 = some ⟨oc9, od9, .func (PySem.W.fnOf "one_place_more" "one_place_more" (defArgs s_one_place_more) (defBody s_one_place_more) (defScope s_one_place_more) .none kV9 dc9 pm9 an9 cd9 ct9), sl9⟩) (c9 : PySem.W.codeIn K cd9 "one_place_more" = true) (k9 : PySem.W.keepIn K (.ref f9) = true)
    (a10 : PySem.W.nsIn K mainGlobals "_law_box" = some (some (.ref f10))) (l10 : K.lookup f10 = some ⟨oc10, od10, .func (PySem.W.fnOf "_law_box" "_law_box" (defArgs s__law_box) (defBody s__law_box) (defScope s__law_box) .none kV10 dc10 pm10 an10 cd10 ct10), sl10⟩) (c10 : PySem.W.codeIn K cd10 "_law_box" = true) (k10 : PySem.W.keepIn K (.ref f10) = true)
    (a11 : PySem.W.nsIn K mainGlobals "_law_take" = some (some (.ref f11))) (l11 : K.lookup f11 = some ⟨oc11, od11, .func (PySem.W.fnOf "_law_take" "_law_take" (defArgs s__law_take) (defBody s__law_take) (defScope s__law_take) .none kV11 dc11 pm11 an11 cd11 ct11), sl11⟩) (c11 : PySem.W.codeIn K cd11 "_law_take" = true) (k11 : PySem.W.keepIn K (.ref f11) = true)
    (a12 : PySem.W.nsIn K mainGlobals "_law_letters" = some (some (.ref f12))) (l12 : K.lookup f12 = some ⟨oc12, od12, .func (PySem.W.fnOf "_law_letters" "_law_letters" (defArgs s__law_letters) (defBody s__law_letters) (defScope s__law_letters) .none kV12 dc12 pm12 an12 cd12 ct12), sl12⟩) (c12 : PySem.W.codeIn K cd12 "_law_letters" = true) (k12 : PySem.W.keepIn K (.ref f12) = true)
    (a13 : PySem.W.nsIn K mainGlobals "_law_text" = some (some (.ref f13))) (l13 : K.lookup f13 = some ⟨oc13, od13, .func (PySem.W.fnOf "_law_text" "_law_text" (defArgs s__law_text) (defBody s__law_text) (defScope s__law_text) .none kV13 dc13 pm13 an13 cd13 ct13), sl13⟩) (c13 : PySem.W.codeIn K cd13 "_law_text" = true) (k13 : PySem.W.keepIn K (.ref f13) = true)
    (a14 : PySem.W.nsIn K mainGlobals "_law_place_names" = some (some (.ref f14))) (l14 : K.lookup f14 = some ⟨oc14, od14, .func (PySem.W.fnOf "_law_place_names" "_law_place_names" (defArgs s__law_place_names) (defBody s__law_place_names) (defScope s__law_place_names) .none kV14 dc14 pm14 an14 cd14 ct14), sl14⟩) (c14 : PySem.W.codeIn K cd14 "_law_place_names" = true) (k14 : PySem.W.keepIn K (.ref f14) = true)
    (a15 : PySem.W.nsIn K mainGlobals "_law_over" = some (some (.ref f15))) (l15 : K.lookup f15 = some ⟨oc15, od15, .func (PySem.W.fnOf "_law_over" "_law_over" (defArgs s__law_over) (defBody s__law_over) (defScope s__law_over) .none kV15 dc15 pm15 an15 cd15 ct15), sl15⟩) (c15 : PySem.W.codeIn K cd15 "_law_over" = true) (k15 : PySem.W.keepIn K (.ref f15) = true)
    (a16 : PySem.W.nsIn K mainGlobals "_law_joined" = some (some (.ref f16))) (l16 : K.lookup f16 = some ⟨oc16, od16, .func (PySem.W.fnOf "_law_joined" "_law_joined" (defArgs s__law_joined) (defBody s__law_joined) (defScope s__law_joined) .none kV16 dc16 pm16 an16 cd16 ct16), sl16⟩) (c16 : PySem.W.codeIn K cd16 "_law_joined" = true) (k16 : PySem.W.keepIn K (.ref f16) = true)
    (a17 : PySem.W.nsIn K mainGlobals "_law_tells_so" = some (some (.ref f17))) (l17 : K.lookup f17 = some ⟨oc17, od17, .func (PySem.W.fnOf "_law_tells_so" "_law_tells_so" (defArgs s__law_tells_so) (defBody s__law_tells_so) (defScope s__law_tells_so) .none kV17 dc17 pm17 an17 cd17 ct17), sl17⟩) (c17 : PySem.W.codeIn K cd17 "_law_tells_so" = true) (k17 : PySem.W.keepIn K (.ref f17) = true)
    (a18 : PySem.W.nsIn K mainGlobals "_law_anew" = some (some (.ref f18))) (l18 : K.lookup f18 = some ⟨oc18, od18, .func (PySem.W.fnOf "_law_anew" "_law_anew" (defArgs s__law_anew) (defBody s__law_anew) (defScope s__law_anew) .none kV18 dc18 pm18 an18 cd18 ct18), sl18⟩) (c18 : PySem.W.codeIn K cd18 "_law_anew" = true) (k18 : PySem.W.keepIn K (.ref f18) = true)
    (a19 : PySem.W.nsIn K mainGlobals "_law_two" = some (some (.ref f19))) (l19 : K.lookup f19 = some ⟨oc19, od19, .func (PySem.W.fnOf "_law_two" "_law_two" (defArgs s__law_two) (defBody s__law_two) (defScope s__law_two) .none kV19 dc19 pm19 an19 cd19 ct19), sl19⟩) (c19 : PySem.W.codeIn K cd19 "_law_two" = true) (k19 : PySem.W.keepIn K (.ref f19) = true)
    (a20 : PySem.W.nsIn K mainGlobals "law" = some (some (.ref f20))) (l20 : K.lookup f20 = some ⟨oc20, od20, .func (PySem.W.fnOf "law" "law" (defArgs s_law) (defBody s_law) (defScope s_law) .none kV20 dc20 pm20 an20 cd20 ct20), sl20⟩) (c20 : PySem.W.codeIn K cd20 "law" = true) (k20 : PySem.W.keepIn K (.ref f20) = true)
    (z_len : PySem.W.nsIn K mainGlobals "len" = some none)
    (z_int : PySem.W.nsIn K mainGlobals "int" = some none)
    (z_range : PySem.W.nsIn K mainGlobals "range" = some none)
    (z_list : PySem.W.nsIn K mainGlobals "list" = some none)
    (z_tuple : PySem.W.nsIn K mainGlobals "tuple" = some none)
    (z_isinstance : PySem.W.nsIn K mainGlobals "isinstance" = some none)
    (z_bool : PySem.W.nsIn K mainGlobals "bool" = some none)
    (z_sorted : PySem.W.nsIn K mainGlobals "sorted" = some none)
    (z_set : PySem.W.nsIn K mainGlobals "set" = some none)
    (z_zip : PySem.W.nsIn K mainGlobals "zip" = some none)
    (z_any : PySem.W.nsIn K mainGlobals "any" = some none)
    (z_all : PySem.W.nsIn K mainGlobals "all" = some none)
    (z_dict : PySem.W.nsIn K mainGlobals "dict" = some none)
    (aC : PySem.W.nsIn K mainGlobals "Choices" = some (some (.ref C)))
    (Cpg : PySem.W.plainGet K C Str.empty = true)
    (Chd : PySem.W.hasDictIn K C = true)
    (Cpo : PySem.W.plainOver K C = true)
    (Csa : PySem.W.findIn K (.ref C) "__setattr__" = some (some (.builtin "object.__setattr__")))
    (Cmk : PySem.W.makesIn K C = true)
    (Ckp : PySem.W.keepIn K (.ref C) = true)
    (Nmany : PySem.W.findIn K (.ref C) "many" = some none)
    (Nknown : PySem.W.findIn K (.ref C) "known" = some none)
    (fm0 : PySem.W.findIn K (.ref C) "__init__" = some (some (.ref M0)))
    (lm0 : K.lookup M0 = some ⟨vo0, vd0, .func (PySem.W.fnOf "__init__" "Choices.__init__" (defArgs s_Rd_init) (defBody s_Rd_init) (defScope s_Rd_init) .none vk0 vq0 vp0 va0 vc0 vt0), vs0⟩)
    (cm0 : PySem.W.codeIn K vc0 "Choices.__init__" = true)
    (km0 : PySem.W.keepIn K (.ref M0) = true)
    (im0 : PySem.W.isFn K (.ref M0) = true)
    (fm1 : PySem.W.findIn K (.ref C) "all_of" = some (some (.ref M1)))
    (lm1 : K.lookup M1 = some ⟨vo1, vd1, .func (PySem.W.fnOf "all_of" "Choices.all_of" (defArgs s_Rd_all_of) (defBody s_Rd_all_of) (defScope s_Rd_all_of) .none vk1 vq1 vp1 va1 vc1 vt1), vs1⟩)
    (cm1 : PySem.W.codeIn K vc1 "Choices.all_of" = true)
    (km1 : PySem.W.keepIn K (.ref M1) = true)
    (im1 : PySem.W.isFn K (.ref M1) = true)
    (fm2 : PySem.W.findIn K (.ref C) "number_of" = some (some (.ref M2)))
    (lm2 : K.lookup M2 = some ⟨vo2, vd2, .func (PySem.W.fnOf "number_of" "Choices.number_of" (defArgs s_Rd_number_of) (defBody s_Rd_number_of) (defScope s_Rd_number_of) .none vk2 vq2 vp2 va2 vc2 vt2), vs2⟩)
    (cm2 : PySem.W.codeIn K vc2 "Choices.number_of" = true)
    (km2 : PySem.W.keepIn K (.ref M2) = true)
    (im2 : PySem.W.isFn K (.ref M2) = true)
    (fm3 : PySem.W.findIn K (.ref C) "numbers_within" = some (some (.ref M3)))
    (lm3 : K.lookup M3 = some ⟨vo3, vd3, .func (PySem.W.fnOf "numbers_within" "Choices.numbers_within" (defArgs s_Rd_numbers_within) (defBody s_Rd_numbers_within) (defScope s_Rd_numbers_within) .none vk3 vq3 vp3 va3 vc3 vt3), vs3⟩)
    (cm3 : PySem.W.codeIn K vc3 "Choices.numbers_within" = true)
    (km3 : PySem.W.keepIn K (.ref M3) = true)
    (im3 : PySem.W.isFn K (.ref M3) = true)
    (en : PySem.W.nsIn K mainGlobals "BINDING" = some (some (.ref an)))
    (ln : K.lookup an = some ⟨.type "tuple", odn, .seq itn nn, sln⟩)
    (vn : Vals BN itn.toList)
    : ∃ fd : FuncData, (∀ (s : Shared) (v : Value), BindsTo s fd ⟨[v], []⟩ [("_law_script", v)]) ∧ ∀ base : Heap, K.In base → base.Ns mainGlobals mg → FnOk l.prog w K mg base CX0 9 fa fd ["_law_script"] (spLaw K) := by
  have e := hfa.symm.trans (PySem.W.mg_of X G a20)
  cases e
  have F_parts_of := fun_mk (st := s_parts_of) l1 c1 k1
  have m_parts_of := PySem.W.mg_of X G a1
  have b_parts_of := F_parts_of.binds (ps := ["row"]) fun _ _ _ _ _ _ => us1 fun _ => rfl
  have F_names_of_rows := fun_mk (st := s_names_of_rows) l2 c2 k2
  have m_names_of_rows := PySem.W.mg_of X G a2
  have b_names_of_rows := F_names_of_rows.binds (ps := ["saying"]) fun _ _ _ _ _ _ => us1 fun _ => rfl
  have F_names_of_row := fun_mk (st := s_names_of_row) l3 c3 k3
  have m_names_of_row := PySem.W.mg_of X G a3
  have b_names_of_row := F_names_of_row.binds (ps := ["row", "names"]) fun _ _ _ _ _ _ => us2 fun _ _ => rfl
  have F_holds := fun_mk (st := s_holds) l4 c4 k4
  have m_holds := PySem.W.mg_of X G a4
  have b_holds := F_holds.binds (ps := ["saying", "text", "places"]) fun _ _ _ _ _ _ => us3 fun _ _ _ => rfl
  have F_row_truths := fun_mk (st := s_row_truths) l5 c5 k5
  have m_row_truths := PySem.W.mg_of X G a5
  have b_row_truths := F_row_truths.binds (ps := ["row", "own", "names", "truths", "text", "choices"]) fun _ _ _ _ _ _ => us6 fun _ _ _ _ _ _ => rfl
  have F_ahead_truths := fun_mk (st := s_ahead_truths) l6 c6 k6
  have m_ahead_truths := PySem.W.mg_of X G a6
  have b_ahead_truths := F_ahead_truths.binds (ps := ["one", "other", "chosen"]) fun _ _ _ _ _ _ => us3 fun _ _ _ => rfl
  have F_widened := fun_mk (st := s_widened) l7 c7 k7
  have m_widened := PySem.W.mg_of X G a7
  have b_widened := F_widened.binds (ps := ["truths", "names", "more", "choices"]) fun _ _ _ _ _ _ => us4 fun _ _ _ _ => rfl
  have F_bound_truths := fun_mk (st := s_bound_truths) l8 c8 k8
  have m_bound_truths := PySem.W.mg_of X G a8
  have b_bound_truths := F_bound_truths.binds (ps := ["word", "inner", "groups", "many"]) fun _ _ _ _ _ _ => us4 fun _ _ _ _ => rfl
  have F_one_place_more := fun_mk (st := s_one_place_more) l9 c9 k9
  have m_one_place_more := PySem.W.mg_of X G a9
  have b_one_place_more := F_one_place_more.binds (ps := ["chosen", "many"]) fun _ _ _ _ _ _ => us2 fun _ _ => rfl
  have F__law_box := fun_mk (st := s__law_box) l10 c10 k10
  have m__law_box := PySem.W.mg_of X G a10
  have b__law_box := F__law_box.binds (ps := ["_law_script", "_law_k"]) fun _ _ _ _ _ _ => us2 fun _ _ => rfl
  have F__law_take := fun_mk (st := s__law_take) l11 c11 k11
  have m__law_take := PySem.W.mg_of X G a11
  have b__law_take := F__law_take.binds (ps := ["_law_box_here", "_law_wide"]) fun _ _ _ _ _ _ => us2 fun _ _ => rfl
  have F__law_letters := fun_mk (st := s__law_letters) l12 c12 k12
  have m__law_letters := PySem.W.mg_of X G a12
  have b__law_letters := F__law_letters.binds (ps := ["_law_box_here", "_law_most"]) fun _ _ _ _ _ _ => us2 fun _ _ => rfl
  have F__law_text := fun_mk (st := s__law_text) l13 c13 k13
  have m__law_text := PySem.W.mg_of X G a13
  have b__law_text := F__law_text.binds (ps := ["_law_box_here", "_law_letters_here", "_law_most"]) fun _ _ _ _ _ _ => us3 fun _ _ _ => rfl
  have F__law_place_names := fun_mk (st := s__law_place_names) l14 c14 k14
  have m__law_place_names := PySem.W.mg_of X G a14
  have b__law_place_names := F__law_place_names.binds (ps := ["_law_box_here", "_law_many"]) fun _ _ _ _ _ _ => us2 fun _ _ => rfl
  have F__law_over := fun_mk (st := s__law_over) l15 c15 k15
  have m__law_over := PySem.W.mg_of X G a15
  have b__law_over := F__law_over.binds (ps := ["_law_word", "_law_truths"]) fun _ _ _ _ _ _ => us2 fun _ _ => rfl
  have F__law_joined := fun_mk (st := s__law_joined) l16 c16 k16
  have m__law_joined := PySem.W.mg_of X G a16
  have b__law_joined := F__law_joined.binds (ps := ["_law_word", "_law_one", "_law_other"]) fun _ _ _ _ _ _ => us3 fun _ _ _ => rfl
  have F__law_tells_so := fun_mk (st := s__law_tells_so) l17 c17 k17
  have m__law_tells_so := PySem.W.mg_of X G a17
  have b__law_tells_so := F__law_tells_so.binds (ps := ["_law_rows", "_law_text_here", "_law_places", "_law_due"]) fun _ _ _ _ _ _ => us4 fun _ _ _ _ => rfl
  have F__law_anew := fun_mk (st := s__law_anew) l18 c18 k18
  have m__law_anew := PySem.W.mg_of X G a18
  have b__law_anew := F__law_anew.binds (ps := ["_law_box_here", "_law_x", "_law_y", "_law_letters_here", "_law_text_here"]) fun _ _ _ _ _ _ => us5 fun _ _ _ _ _ => rfl
  have F__law_two := fun_mk (st := s__law_two) l19 c19 k19
  have m__law_two := PySem.W.mg_of X G a19
  have b__law_two := F__law_two.binds (ps := ["_law_box_here", "_law_x", "_law_y", "_law_text_here"]) fun _ _ _ _ _ _ => us4 fun _ _ _ _ => rfl
  have F_law := fun_mk (st := s_law) l20 c20 k20
  have m_law := PySem.W.mg_of X G a20
  have b_law := F_law.binds (ps := ["_law_script"]) fun _ _ _ _ _ _ => us1 fun _ => rfl
  have n_len := PySem.W.mg_none_of X G z_len
  have n_int := PySem.W.mg_none_of X G z_int
  have n_range := PySem.W.mg_none_of X G z_range
  have n_list := PySem.W.mg_none_of X G z_list
  have n_tuple := PySem.W.mg_none_of X G z_tuple
  have n_isinstance := PySem.W.mg_none_of X G z_isinstance
  have n_bool := PySem.W.mg_none_of X G z_bool
  have n_sorted := PySem.W.mg_none_of X G z_sorted
  have n_set := PySem.W.mg_none_of X G z_set
  have n_zip := PySem.W.mg_none_of X G z_zip
  have n_any := PySem.W.mg_none_of X G z_any
  have n_all := PySem.W.mg_none_of X G z_all
  have n_dict := PySem.W.mg_none_of X G z_dict
  refine ⟨PySem.W.fnOf "law" "law" (defArgs s_law) (defBody s_law) (defScope s_law) .none kV20 dc20 pm20 an20 cd20 ct20, fun s v => .of_eq rfl, fun base _ _ => ?_⟩
  have si : PySem.W.kitOne K (.type "str") (.type "int") = some false := by
    unfold PySem.W.kitOne
    rw [if_neg (by decide)]
    unfold PySem.W.kitCls
    first | rfl | decide +kernel | simp
  have bb : PySem.W.kitOne K (.type "bool") (.type "bool") = some true := if_pos (by simp)
  have ii : PySem.W.kitOne K (.type "int") (.type "int") = some true := if_pos (by simp)
  have kn : ∀ H, SqT K H an BN := fun H => .inr ⟨_, itn, nn, ln, rfl, rfl, by have := vn.length; simp [BN] at this; have hs : sizeLine = 16777216 := PySem.sizeLine_eq; omega, vn⟩
  have m_Choices := PySem.W.mg_of X G aC
  have cls : Cls K C := ⟨Cpg, Chd, Cpo, Csa⟩
  have rc : CK K C := ⟨cls, Nmany, Nknown⟩
  have F_init := fun_mk (st := s_Rd_init) lm0 cm0 km0
  have b_init := F_init.binds (ps := ["self", "many"]) fun _ _ _ _ _ _ => us2 fun _ _ => rfl
  have F_all_of := fun_mk (st := s_Rd_all_of) lm1 cm1 km1
  have b_all_of := F_all_of.binds (ps := ["self", "names"]) fun _ _ _ _ _ _ => us2 fun _ _ => rfl
  have d_all_of : Meth K C "all_of" M1 := ⟨fm1, im1, km1⟩
  have F_number_of := fun_mk (st := s_Rd_number_of) lm2 cm2 km2
  have b_number_of := F_number_of.binds (ps := ["self", "choice"]) fun _ _ _ _ _ _ => us2 fun _ _ => rfl
  have d_number_of : Meth K C "number_of" M2 := ⟨fm2, im2, km2⟩
  have F_numbers_within := fun_mk (st := s_Rd_numbers_within) lm3 cm3 km3
  have b_numbers_within := F_numbers_within.binds (ps := ["self", "names", "more"]) fun _ _ _ _ _ _ => us3 fun _ _ _ => rfl
  have d_numbers_within : Meth K C "numbers_within" M3 := ⟨fm3, im3, km3⟩
  have mkR : Mk K C M0 := ⟨Cmk, fm0, im0, Ckp⟩
  have g__law_take := ok__law_take (P := l.prog) (w := w) (mg := mg) (base := base) F__law_take
  have g__law_box := ok__law_box (P := l.prog) (w := w) (mg := mg) (base := base) F__law_box ⟨n_len, n_int⟩
  have g__law_letters := ok__law_letters (P := l.prog) (w := w) (mg := mg) (base := base) F__law_letters ⟨n_len, n_list, n_range, m__law_take⟩ F__law_take b__law_take g__law_take
  have g__law_place_names := ok__law_place_names (P := l.prog) (w := w) (mg := mg) (base := base) F__law_place_names ⟨n_range, m__law_take⟩ F__law_take b__law_take g__law_take
  have g__law_text := ok__law_text (P := l.prog) (w := w) (mg := mg) (base := base) F__law_text ⟨n_len, n_range, m__law_take⟩ F__law_take b__law_take g__law_take
  have g_parts_of := ok_parts_of (P := l.prog) (w := w) (mg := mg) (base := base) F_parts_of ⟨n_isinstance, n_int, si, ii⟩
  have g_names_of_row := ok_names_of_row (P := l.prog) (w := w) (mg := mg) (base := base) F_names_of_row ⟨n_tuple, n_sorted, n_set, m_parts_of, PySem.W.mg_of X G en, kn⟩ F_parts_of b_parts_of g_parts_of
  have g_names_of_rows := ok_names_of_rows (P := l.prog) (w := w) (mg := mg) (base := base) F_names_of_rows ⟨m_names_of_row⟩ F_names_of_row b_names_of_row g_names_of_row
  have g_one_place_more := ok_one_place_more (P := l.prog) (w := w) (mg := mg) (base := base) F_one_place_more ⟨n_range⟩
  have g_init := ok_init (P := l.prog) (w := w) (mg := mg) (base := base) F_init rc
  have g_all_of := ok_all_of (P := l.prog) (w := w) (mg := mg) (base := base) F_all_of ⟨n_range, rc, m_one_place_more⟩ F_one_place_more b_one_place_more g_one_place_more
  have g_number_of := ok_number_of (P := l.prog) (w := w) (mg := mg) (base := base) F_number_of rc
  have g_numbers_within := ok_numbers_within (P := l.prog) (w := w) (mg := mg) (base := base) F_numbers_within ⟨n_len, rc, cls, d_all_of, d_number_of⟩ b_all_of g_all_of b_number_of g_number_of
  have g_ahead_truths := ok_ahead_truths (P := l.prog) (w := w) (mg := mg) (base := base) F_ahead_truths
  have g_bound_truths := ok_bound_truths (P := l.prog) (w := w) (mg := mg) (base := base) F_bound_truths ⟨n_range, n_any, n_all⟩
  have g_widened := ok_widened (P := l.prog) (w := w) (mg := mg) (base := base) F_widened ⟨cls, d_numbers_within⟩ b_numbers_within g_numbers_within
  have g_row_truths := ok_row_truths (P := l.prog) (w := w) (mg := mg) (base := base) F_row_truths ⟨n_len, n_zip, cls, rc, d_all_of, m_ahead_truths, m_bound_truths, m_widened⟩ F_ahead_truths b_ahead_truths g_ahead_truths F_bound_truths b_bound_truths g_bound_truths F_widened b_widened g_widened b_all_of g_all_of
  have g_holds := ok_holds (P := l.prog) (w := w) (mg := mg) (base := base) F_holds ⟨n_len, n_zip, cls, rc, mkR, m_Choices, d_number_of, m_names_of_rows, m_row_truths⟩ b_init g_init F_names_of_rows b_names_of_rows g_names_of_rows F_row_truths b_row_truths g_row_truths b_number_of g_number_of
  have g__law_over := ok__law_over (P := l.prog) (w := w) (mg := mg) (base := base) F__law_over ⟨n_any, n_all⟩
  have g__law_joined := ok__law_joined (P := l.prog) (w := w) (mg := mg) (base := base) F__law_joined
  have g__law_tells_so := ok__law_tells_so (P := l.prog) (w := w) (mg := mg) (base := base) F__law_tells_so ⟨n_dict, n_tuple, n_isinstance, n_bool, bb, m_holds⟩ F_holds b_holds g_holds
  have g__law_anew := ok__law_anew (P := l.prog) (w := w) (mg := mg) (base := base) F__law_anew ⟨n_range, n_len, m__law_take, m__law_over, m__law_joined, m__law_tells_so⟩ F__law_take b__law_take g__law_take F__law_over b__law_over g__law_over F__law_joined b__law_joined g__law_joined F__law_tells_so b__law_tells_so g__law_tells_so
  have g__law_two := ok__law_two (P := l.prog) (w := w) (mg := mg) (base := base) F__law_two ⟨n_range, n_len, m__law_take, m__law_over, m__law_tells_so⟩ F__law_take b__law_take g__law_take F__law_over b__law_over g__law_over F__law_tells_so b__law_tells_so g__law_tells_so
  exact ok_law F_law ⟨m__law_box, m__law_letters, m__law_place_names, m__law_text, m__law_anew, m__law_two⟩ F__law_box b__law_box g__law_box F__law_letters b__law_letters g__law_letters F__law_place_names b__law_place_names g__law_place_names F__law_text b__law_text g__law_text F__law_anew b__law_anew g__law_anew F__law_two b__law_two g__law_two
theorem walk {l : PySem.W.OpenLaw} {q : Program} {loose : List Str} {XP : (Str → Option Value) → Heap → Prop} {YP : World → Heap → Prop} {d : DefRec} {K : Params → PySem.W.Frag} (hn : l.most = some 63) (hdf : d.params.defaults = [])
    (hY : ∀ (w : World) (h : Heap), YP w h → (K w.params).In h)
    (F : ∀ (w : World) (mg : Str → Option Value) (fa : Addr) (h : Heap), (K w.params).In h → h.Ns mainGlobals mg → mg d.name = some (.ref fa) →
      ∃ fd : FuncData, (∀ (s : Shared) (u : Value), BindsTo s fd ⟨[u], []⟩ [("_law_script", u)]) ∧ ∀ base : Heap, (K w.params).In base → base.Ns mainGlobals mg → FnOk l.prog w (K w.params) mg base CX0 9 fa fd ["_law_script"] (spLaw (K w.params))) :
    PySem.W.WalkO q loose XP YP l.row.toRowW d [] (fun f vs => PySem.call f vs) :=
  L2.walk_of (n := 63) (k := 9) (x := "_law_script") (CX := fun _ => CX0) (sp := fun w => spLaw (K w.params)) hn (by decide) hdf ⟨rfl, by decide, by decide, rfl⟩ hY F (fun _ _ a ns hl _ hS => ⟨a, ns, rfl, hS, hl, fun _ => rfl⟩) fun _ _ _ _ _ z => z
end My
theorem PySem.W.Fast.tw842745352438370075 : True := trivial
theorem PySem.W.Fast.tw12411450788080180067 : True := trivial
theorem PySem.W.Fast.tw3106470705789523254 : True := trivial
theorem PySem.W.Fast.tw12356854713735741833 : True := trivial
theorem PySem.W.Fast.tw11904064788941664640 : True := trivial
theorem PySem.W.Fast.tw7308834645324586411 : True := trivial
theorem PySem.W.Fast.tw9482036762424972850 : True := trivial
theorem PySem.W.Fast.tw653246415349290269 : True := trivial
theorem PySem.W.Fast.tw16742613792933555758 : True := trivial
theorem PySem.W.Fast.tw10427822698116811667 : True := trivial
theorem PySem.W.Fast.tw1001241929916630298 : True := trivial
theorem PySem.W.Fast.tw19863483914842104 : True := trivial
theorem PySem.W.Fast.tw2927233368720080539 : True := trivial
theorem PySem.W.Fast.tw6735940204520793264 : True := trivial
theorem PySem.W.Fast.tw9410773347056464258 : True := trivial
theorem PySem.W.Fast.tw11528385847297237557 : True := trivial
theorem PySem.W.Fast.tw6312053852527185332 : True := trivial
theorem PySem.W.Fast.tw5126958261281700774 : True := trivial
theorem PySem.W.Fast.tw2901094726461975817 : True := trivial
theorem PySem.W.Fast.tw6292963790276179561 : True := trivial
theorem PySem.W.Fast.tw564557149065077894 : True := trivial
theorem PySem.W.Fast.tw10115903906044492405 : True := trivial
theorem PySem.W.Fast.tw17061112310127975448 : True := trivial
theorem PySem.W.Fast.tw5244758228150308566 : True := trivial
theorem PySem.W.Fast.tw13704917218904286228 : True := trivial
theorem PySem.W.Fast.tw17088103964067976248 : True := trivial
theorem PySem.W.Fast.tw620877908770378471 : True := trivial
theorem PySem.W.Fast.tw7466733194695016571 : True := trivial
theorem PySem.W.Fast.tw1856041268582376798 : True := trivial
theorem PySem.W.Fast.tw16168689112236895839 : True := trivial
theorem PySem.W.Fast.tw7305499216652224673 : True := trivial
theorem PySem.W.Fast.tw12492361120942099449 : True := trivial
theorem PySem.W.Fast.tw6958485438854709096 : True := trivial
theorem PySem.W.Fast.tw11084329098041968279 : True := trivial
theorem PySem.W.Fast.tw10648267647896497197 : True := trivial
theorem PySem.W.Fast.tw8402438603239909123 : True := trivial
theorem PySem.W.Fast.tw9587845354431145946 : True := trivial
theorem PySem.W.Fast.tw13042882169970133371 : True := trivial
theorem PySem.W.Fast.tw1579487316015577251 : True := trivial
theorem PySem.W.Fast.tw1941539609701393734 : True := trivial
theorem PySem.W.Fast.tw2190535221762095469 : True := trivial
theorem PySem.W.Fast.tw48753007196704519 : True := trivial
theorem PySem.W.Fast.tw7552047434530920307 : True := trivial
theorem PySem.W.Fast.tw2855919024928513444 : True := trivial
theorem PySem.W.Fast.tw11680514160507729806 : True := trivial
theorem PySem.W.Fast.tw12915111392905310605 : True := trivial
theorem PySem.W.Fast.tw15439104263480359038 : True := trivial
theorem PySem.W.Fast.tw17101616422081623415 : True := trivial
theorem PySem.W.Fast.tw3585084512454108456 : True := trivial
theorem PySem.W.Fast.tw16984409698186821683 : True := trivial
theorem PySem.W.Fast.tw1138558720602143642 : True := trivial
theorem PySem.W.Fast.tw5490825891073925465 : True := trivial
theorem PySem.W.Fast.tw16261933925733659521 : True := trivial
theorem PySem.W.Fast.tw11176512532225068838 : True := trivial
theorem PySem.W.Fast.tw8538648713253047016 : True := trivial
theorem PySem.W.Fast.tw8293253168980892902 : True := trivial
theorem PySem.W.Fast.tw1563920351411621703 : True := trivial
theorem PySem.W.Fast.tw12943227381558544871 : True := trivial
theorem PySem.W.Fast.tw9846744993762242139 : True := trivial
theorem PySem.W.Fast.tw307932916891438137 : True := trivial
open PySem PySem.W PyProof.Rows
set_option maxRecDepth 100000 in
set_option maxHeartbeats 0 in
theorem PySem.Challenge.cw_calmword_k35_names_bound_anew_holds : PySem.Challenge.rw_calmword_k35_names_bound_anew.Holds := by
  w_on; o_law; k_head; (case hw => w_witness2)
  k_fill
  refine My.walk (l := PySem.Challenge.rw_calmword_k35_names_bound_anew) rfl rfl (fun w h Y => PySem.W.kIn_of Y) ?F
  case F =>
    intro w mg fa h KX G hmg
    refine' My.all_mk KX G hmg ?a1 ?l1 ?c1 ?k1 ?a2 ?l2 ?c2 ?k2 ?a3 ?l3 ?c3 ?k3 ?a4 ?l4 ?c4 ?k4 ?a5 ?l5 ?c5 ?k5 ?a6 ?l6 ?c6 ?k6 ?a7 ?l7 ?c7 ?k7 ?a8 ?l8 ?c8 ?k8 ?a9 ?l9 ?c9 ?k9 ?a10 ?l10 ?c10 ?k10 ?a11 ?l11 ?c11 ?k11 ?a12 ?l12 ?c12 ?k12 ?a13 ?l13 ?c13 ?k13 ?a14 ?l14 ?c14 ?k14 ?a15 ?l15 ?c15 ?k15 ?a16 ?l16 ?c16 ?k16 ?a17 ?l17 ?c17 ?k17 ?a18 ?l18 ?c18 ?k18 ?a19 ?l19 ?c19 ?k19 ?a20 ?l20 ?c20 ?k20 ?z_len ?z_int ?z_range ?z_list ?z_tuple ?z_isinstance ?z_bool ?z_sorted ?z_set ?z_zip ?z_any ?z_all ?z_dict ?aC ?Cpg ?Chd ?Cpo ?Csa ?Cmk ?Ckp ?Nmany ?Nknown ?fm0 ?lm0 ?cm0 ?km0 ?im0 ?fm1 ?lm1 ?cm1 ?km1 ?im1 ?fm2 ?lm2 ?cm2 ?km2 ?im2 ?fm3 ?lm3 ?cm3 ?km3 ?im3 ?en ?ln ?vn
    (case a1 => k_is)
    (case l1 => k_is)
    (case c1 => k_is)
    (case k1 => k_is)
    (case a2 => k_is)
    (case l2 => k_is)
    (case c2 => k_is)
    (case k2 => k_is)
    (case a3 => k_is)
    (case l3 => k_is)
    (case c3 => k_is)
    (case k3 => k_is)
    (case a4 => k_is)
    (case l4 => k_is)
    (case c4 => k_is)
    (case k4 => k_is)
    (case a5 => k_is)
    (case l5 => k_is)
    (case c5 => k_is)
    (case k5 => k_is)
    (case a6 => k_is)
    (case l6 => k_is)
    (case c6 => k_is)
    (case k6 => k_is)
    (case a7 => k_is)
    (case l7 => k_is)
    (case c7 => k_is)
    (case k7 => k_is)
    (case a8 => k_is)
    (case l8 => k_is)
    (case c8 => k_is)
    (case k8 => k_is)
    (case a9 => k_is)
    (case l9 => k_is)
    (case c9 => k_is)
    (case k9 => k_is)
    (case a10 => k_is)
    (case l10 => k_is)
    (case c10 => k_is)
    (case k10 => k_is)
    (case a11 => k_is)
    (case l11 => k_is)
    (case c11 => k_is)
    (case k11 => k_is)
    (case a12 => k_is)
    (case l12 => k_is)
    (case c12 => k_is)
    (case k12 => k_is)
    (case a13 => k_is)
    (case l13 => k_is)
    (case c13 => k_is)
    (case k13 => k_is)
    (case a14 => k_is)
    (case l14 => k_is)
    (case c14 => k_is)
    (case k14 => k_is)
    (case a15 => k_is)
    (case l15 => k_is)
    (case c15 => k_is)
    (case k15 => k_is)
    (case a16 => k_is)
    (case l16 => k_is)
    (case c16 => k_is)
    (case k16 => k_is)
    (case a17 => k_is)
    (case l17 => k_is)
    (case c17 => k_is)
    (case k17 => k_is)
    (case a18 => k_is)
    (case l18 => k_is)
    (case c18 => k_is)
    (case k18 => k_is)
    (case a19 => k_is)
    (case l19 => k_is)
    (case c19 => k_is)
    (case k19 => k_is)
    (case a20 => k_is)
    (case l20 => k_is)
    (case c20 => k_is)
    (case k20 => k_is)
    (case z_len => k_is)
    (case z_int => k_is)
    (case z_range => k_is)
    (case z_list => k_is)
    (case z_tuple => k_is)
    (case z_isinstance => k_is)
    (case z_bool => k_is)
    (case z_sorted => k_is)
    (case z_set => k_is)
    (case z_zip => k_is)
    (case z_any => k_is)
    (case z_all => k_is)
    (case z_dict => k_is)
    (case aC => k_is)
    (case Cpg => first | k_is | kernel_rfl)
    (case Chd => first | k_is | kernel_rfl)
    (case Cpo => first | k_is | kernel_rfl)
    (case Csa => first | k_is | kernel_rfl)
    (case Cmk => first | k_is | kernel_rfl)
    (case Ckp => first | k_is | kernel_rfl)
    (case Nmany => first | k_is | kernel_rfl)
    (case Nknown => first | k_is | kernel_rfl)
    (case fm0 => first | k_is | kernel_rfl)
    (case lm0 => k_is)
    (case cm0 => first | k_is | kernel_rfl)
    (case km0 => first | k_is | kernel_rfl)
    (case im0 => first | k_is | kernel_rfl)
    (case fm1 => first | k_is | kernel_rfl)
    (case lm1 => k_is)
    (case cm1 => first | k_is | kernel_rfl)
    (case km1 => first | k_is | kernel_rfl)
    (case im1 => first | k_is | kernel_rfl)
    (case fm2 => first | k_is | kernel_rfl)
    (case lm2 => k_is)
    (case cm2 => first | k_is | kernel_rfl)
    (case km2 => first | k_is | kernel_rfl)
    (case im2 => first | k_is | kernel_rfl)
    (case fm3 => first | k_is | kernel_rfl)
    (case lm3 => k_is)
    (case cm3 => first | k_is | kernel_rfl)
    (case km3 => first | k_is | kernel_rfl)
    (case im3 => first | k_is | kernel_rfl)
    (case en => k_is)
    (case ln => k_is)
    (case vn => exact .cons ⟨_, rfl⟩ (.cons ⟨_, rfl⟩ .nil))
