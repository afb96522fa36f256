import PyProof.Rows.All
import Wide.All
import OpenK.AllK
import Wide.FinOn
import Lean
import PyProof.EqAt
import PyProof.EqKinds
import PyProof.TupleCall
import PySem.Challenge.RW_calmword_k48_rounds
set_option Elab.async false
set_option linter.all false
set_option maxRecDepth 100000
namespace L2
open PySem PySem.Spec PyProof.Rows
abbrev Key := Sum Int Str
def keyIs : Key → Value → Bool
  | .inl k, v => Value.isInt k v
  | .inr x, v => Value.isStrOf x v
def keyH (w : World) : Key → Int
  | .inl k => hashInt k
  | .inr x => hashStr w x
theorem keyIs_shape : ∀ {k : Key} {v : Value}, keyIs k v = true → (∃ i t, k = Sum.inl i ∧ v = Value.int i t) ∨ (∃ x t, k = Sum.inr x ∧ v = Value.str x t)
  | .inl i, v, h => by
    obtain ⟨t, e⟩ := Value.isInt_shape (k := i) (v := v) h
    exact .inl ⟨i, t, rfl, e⟩
  | .inr x, v, h => by
    obtain ⟨t, e⟩ := Value.isStrOf_shape (x := x) (v := v) h
    exact .inr ⟨x, t, rfl, e⟩
theorem keyIs_int (i : Int) (t : Tok) : keyIs (.inl i) (.int i t) = true := by simp [keyIs, Value.isInt]
theorem keyIs_str (x : Str) (t : Tok) : keyIs (.inr x) (.str x t) = true := by simp [keyIs, Value.isStrOf]
theorem key_ll (a b : Int) : decide ((Sum.inl a : Key) = Sum.inl b) = (a == b) := by
  by_cases e : a = b
  · subst e; simp
  · have h : ¬ (Sum.inl a : Key) = Sum.inl b := fun q => e (Sum.inl.inj q)
    rw [decide_eq_false h]
    exact (beq_eq_false_iff_ne.mpr e).symm
theorem key_rr (a b : Str) : decide ((Sum.inr a : Key) = Sum.inr b) = decide (a = b) := by
  by_cases e : a = b
  · subst e; simp
  · have h : ¬ (Sum.inr a : Key) = Sum.inr b := fun q => e (Sum.inr.inj q)
    rw [decide_eq_false h, decide_eq_false e]
theorem key_lr (a : Int) (b : Str) : decide ((Sum.inl a : Key) = Sum.inr b) = false := decide_eq_false (fun q => nomatch q)
theorem key_rl (a : Str) (b : Int) : decide ((Sum.inr a : Key) = Sum.inl b) = false := decide_eq_false (fun q => nomatch q)
def mixKind (prog : Program) (w : World) : PySem.KeyKind prog w Key where
  is := keyIs
  hash := keyH w
  inj := fun v a b ha hb => by
    rcases keyIs_shape ha with ⟨i, t, rfl, rfl⟩ | ⟨x, t, rfl, rfl⟩
    · rcases keyIs_shape hb with ⟨j, u, rfl, e⟩ | ⟨y, u, rfl, e⟩
      · injection e with e1 _; rw [e1]
      · exact nomatch e
    · rcases keyIs_shape hb with ⟨j, u, rfl, e⟩ | ⟨y, u, rfl, e⟩
      · exact nomatch e
      · injection e with e1 _; rw [e1]
  byValue := fun k v h => by
    rcases keyIs_shape h with ⟨i, t, rfl, rfl⟩ | ⟨x, t, rfl, rfl⟩ <;> rfl
  pyHash := fun hv h => by
    rcases keyIs_shape hv with ⟨i, t, rfl, rfl⟩ | ⟨x, t, rfl, rfl⟩
    · exact wpAny_pyHash_int h
    · exact wpAny_pyHash_str h
  eqBool := fun hu hv h => by
    rcases keyIs_shape hu with ⟨i, t, rfl, rfl⟩ | ⟨x, t, rfl, rfl⟩
    · rcases keyIs_shape hv with ⟨j, u, rfl, rfl⟩ | ⟨y, u, rfl, rfl⟩
      · rw [key_ll] at h; exact wpAny_eqBool_int h
      · rw [key_lr] at h; exact SeqAt.EqAt.int_str i t y u _ _ _ _ h
    · rcases keyIs_shape hv with ⟨j, u, rfl, rfl⟩ | ⟨y, u, rfl, rfl⟩
      · rw [key_rl] at h; exact SeqAt.EqAt.str_int x t j u _ _ _ _ h
      · rw [key_rr] at h; exact wpAny_eqBool_str h
  «strs» := fun k x t v h => by
    rcases keyIs_shape h with ⟨i, u, rfl, e⟩ | ⟨y, u, rfl, e⟩
    · exact nomatch e
    · injection e with e1 _
      subst e1
      cases v <;> rfl
theorem mixKind_int (prog : Program) (w : World) (i : Int) (t : Tok) : (mixKind prog w).is (.inl i) (.int i t) = true := keyIs_int i t
theorem mixKind_str (prog : Program) (w : World) (x : Str) (t : Tok) : (mixKind prog w).is (.inr x) (.str x t) = true := keyIs_str x t
end L2
namespace L2
open PySem PySem.Spec PyProof.Rows
inductive V where
  | non | bl (b : Bool) | int (i : Int) | str (x : Str) | byt (b : Array UInt8) | flt (b : UInt64) | ref (a : Addr) | ty (n : String)
  deriving DecidableEq
def RelV : V → Value → Prop
  | .non, u => u = Value.none
  | .bl b, u => u = Value.bool b
  | .int i, u => ∃ t, u = Value.int i t
  | .str x, u => ∃ t, u = Value.str x t
  | .byt b, u => ∃ t, u = Value.bytes b t
  | .flt b, u => ∃ t, u = Value.float b t
  | .ref a, u => u = Value.ref a
  | .ty n, u => u = Value.type n
abbrev Vals : List V → List Value → Prop := Paired RelV
theorem Vals.length {xs : List V} {us : List Value} (r : Vals xs us) : xs.length = us.length := Paired.length r
theorem Vals.get : ∀ {xs : List V} {us : List Value} {i : Nat} {x : V}, Vals xs us → xs[i]? = some x → ∃ u, us[i]? = some u ∧ RelV x u
  | _, _, _, _, .nil, e => by simp at e
  | _, _, 0, _, .cons r _, e => by simp at e; subst e; exact ⟨_, rfl, r⟩
  | _, _, i + 1, x, .cons _ t, e => by
    obtain ⟨u, h1, h2⟩ := Vals.get (i := i) (x := x) t (by simpa using e)
    exact ⟨u, by simpa using h1, h2⟩
theorem Vals.set {x : V} {u : Value} (r : RelV x u) : ∀ {xs : List V} {us : List Value} (i : Nat), Vals xs us → Vals (xs.set i x) (us.set i u)
  | _, _, _, .nil => .nil
  | _, _, 0, .cons _ t => .cons r t
  | _, _, i + 1, .cons q t => .cons q (Vals.set r i t)
theorem Vals.append : ∀ {xs ys : List V} {us ws : List Value}, Vals xs us → Vals ys ws → Vals (xs ++ ys) (us ++ ws)
  | _, _, _, _, .nil, s => s
  | _, _, _, _, .cons r t, s => .cons r (Vals.append t s)
theorem Vals.take : ∀ {xs : List V} {us : List Value} (n : Nat), Vals xs us → Vals (xs.take n) (us.take n)
  | _, _, 0, _ => .nil
  | _, _, _ + 1, .nil => .nil
  | _, _, n + 1, .cons r t => .cons r (Vals.take n t)
theorem Vals.drop : ∀ {xs : List V} {us : List Value} (n : Nat), Vals xs us → Vals (xs.drop n) (us.drop n)
  | _, _, 0, r => r
  | _, _, _ + 1, .nil => .nil
  | _, _, n + 1, .cons _ t => Vals.drop n t
def RelO : Option V → Option Value → Prop
  | some v, some u => RelV v u
  | none, none => True
  | _, _ => False
def KV {κ : Type} : List (κ × V) → List (κ × Value) → Prop := Paired fun (p : κ × V) (q : κ × Value) => p.1 = q.1 ∧ RelV p.2 q.2
def kV : Key → V
  | .inl i => .int i
  | .inr x => .str x
inductive HO where
    | lst (xs : List V)
    | tup (xs : List V)
    | dK (kvs : List (Key × V)) | dT (kvs : List (List Key × V))
    | set (S : Int → Bool) (n : Nat)
    | ins (C dx : Addr) (fs : List (Str × V))
    | own (x : Addr)
    | xd (fs : List (Str × V))
    | met (f x : Addr)
    | rng (lo hi : Int)
    | frz (o : Obj) (u : HO)
    | tbl (ps : Array Value)
    | ext (φ : Heap → Prop)
abbrev Hp := Addr → Option HO
def upd (H : Hp) (a : Addr) (o : HO) : Hp := fun b => if b = a then some o else H b
theorem upd_same {H : Hp} {a : Addr} {o : HO} : upd H a o a = some o := by unfold upd; rw [if_pos rfl]
theorem upd_ne {H : Hp} {a b : Addr} {o : HO} (h : b ≠ a) : upd H a o b = H b := by unfold upd; rw [if_neg h]
theorem upd_upd {H : Hp} {a : Addr} {o u : HO} : upd (upd H a o) a u = upd H a u := by
  funext b; unfold upd; split <;> rfl
theorem ne_of {H : Hp} {a b : Addr} {o u : HO} (h : H a = some o) (h' : H b = some u) (d : o ≠ u) : a ≠ b := by
  intro e; subst e; rw [h] at h'; exact d (Option.some.inj h')
theorem ne_of_none {H : Hp} {a b : Addr} {o : HO} (h : H a = some o) (h' : H b = none) : a ≠ b := by
  intro e; subst e; rw [h] at h'; cases h'
section
variable (P : Program) (w : World)
def ObjOk (H : Hp) (h : Heap) (a : Addr) : HO → Prop
  | .lst xs => xs.length ≤ sizeLine ∧ ∃ (its : List Value) (n : Nat), Vals xs its ∧ h.get? a = some { cls := .type "list", data := .seq its.toArray n }
  | .tup xs => xs.length ≤ sizeLine ∧ ∃ its : List Value, Vals xs its ∧ IsTup h a its.toArray
  | .dK kvs => kvs.length ≤ sizeLine ∧ (a == sysModules) = false ∧ ∃ vs, KV kvs vs ∧ h.DictOf (mixKind P w) a vs
  | .dT kvs => kvs.length ≤ sizeLine ∧ (a == sysModules) = false ∧ ∃ xs : List (List Key × Addr × Value),
      Paired (fun (p : List Key × V) (q : List Key × Addr × Value) => p.1 = q.1 ∧ H q.2.1 = some (.tup (p.1.map kV)) ∧ RelV p.2 q.2.2) kvs xs ∧
      ∃ o es ep, h.get? a = some o ∧ o.ExactDict ∧ o.data = .dict es ep ∧ es.toList = xs.map (entryOfKey (tupleKind (mixKind P w))) ∧ (xs.map (·.1)).Nodup
  | .set S n => h.SetOf (intKind P w) a S n
  | .ins C dx fs => H dx = some (.own a) ∧ fs.length ≤ 1000 ∧ dx ≠ a ∧ h.get? a = some (PySem.W.instObj C dx) ∧
      ∃ mA, h.Ns1 dx mA ∧ (∀ f, RelO (fs.lookup f) (mA f)) ∧ PySem.Within mA (fs.map (·.1))
  | .own _ => ∃ o, h.get? a = some o
  | .xd fs => ∃ mA, h.Ns1 a mA ∧ ∀ f, RelO (fs.lookup f) (mA f)
  | .rng lo hi => ∃ t u v, h.get? a = some { cls := .type "range", data := .fields #[.int lo t, .int hi u, .int 1 v] }
  | .frz o u => h.get? a = some o ∧ ObjOk H h a u
  | .tbl ps => h.get? a = some { cls := .none, data := .fields ps }
  | .met f x => h.get? a = some (PySem.W.methodObj (.ref f) (.ref x))
  | .ext φ => φ h ∧ (∃ o, h.get? a = some o) ∧ ∀ h1 h2 : Heap, φ h1 → (∀ o, h1.get? a = some o → h2.get? a = some o) → φ h2
def HOk (H : Hp) (h : Heap) : Prop := ∀ a o, H a = some o → ObjOk P w H h a o
end
section
variable {P : Program} {w : World} {H H' : Hp} {h h' : Heap} {a : Addr} {o : HO}
theorem ObjOk.lt (x : ObjOk P w H h a o) : a < h.objs.size := by
  cases o with
  | lst xs => obtain ⟨_, _, _, _, e⟩ := x; exact Heap.lt_size e
  | tup xs => obtain ⟨_, _, _, p⟩ := x; exact p.lt
  | dK kvs => obtain ⟨_, _, _, _, o, _, _, e, _⟩ := x; exact Heap.lt_size e
  | dT kvs => obtain ⟨_, _, _, _, o, _, _, e, _⟩ := x; exact Heap.lt_size e
  | set S n => obtain ⟨o, _, _, _, e, _⟩ := x; exact Heap.lt_size e
  | ins C dx fs => obtain ⟨_, _, _, e, _⟩ := x; exact Heap.lt_size e
  | own y => obtain ⟨_, e⟩ := x; exact Heap.lt_size e
  | xd fs => obtain ⟨_, ⟨_, _, _, e, _⟩, _⟩ := x; exact Heap.lt_size e
  | rng lo hi => obtain ⟨_, _, _, e⟩ := x; exact Heap.lt_size e
  | frz ob u => obtain ⟨e, _⟩ := x; exact Heap.lt_size e
  | tbl ps => exact Heap.lt_size (show h.get? a = some _ from x)
  | met f y => exact Heap.lt_size (show h.get? a = some _ from x)
  | ext φ => obtain ⟨_, ⟨_, e⟩, _⟩ := x; exact Heap.lt_size e
theorem Paired.mapP {α β : Type} {F G : α → β → Prop} : ∀ {l₁ : List α} {l₂ : List β}, Paired F l₁ l₂ → (∀ a b, F a b → G a b) → Paired G l₁ l₂
  | _, _, .nil, _ => .nil
  | _, _, .cons r t, f => .cons (f _ _ r) (Paired.mapP t f)
theorem ObjOk.stay (x : ObjOk P w H h a o) (k : ∀ b u, (b = a ∨ H b = some (.own a)) → h.get? b = some u → h'.get? b = some u)
    (ho : ∀ b, H b = some (.own a) → H' b = some (.own a)) (ht : ∀ b xs, H b = some (.tup xs) → H' b = some (.tup xs)) : ObjOk P w H' h' a o := by
  induction o with
  | lst xs => obtain ⟨z, its, n, r, e⟩ := x; exact ⟨z, its, n, r, k _ _ (.inl rfl) e⟩
  | tup xs => obtain ⟨z, its, r, ob, e, c⟩ := x; exact ⟨z, its, r, ob, k _ _ (.inl rfl) e, c⟩
  | dK kvs => obtain ⟨z, y, vs, r, ob, es, ep, e, c⟩ := x; exact ⟨z, y, vs, r, ob, es, ep, k _ _ (.inl rfl) e, c⟩
  | dT kvs =>
    obtain ⟨z, y, xs, r, ob, es, ep, e, c⟩ := x
    exact ⟨z, y, xs, Paired.mapP r fun p q z => ⟨z.1, ht _ _ z.2.1, z.2.2⟩, ob, es, ep, k _ _ (.inl rfl) e, c⟩
  | set S n => obtain ⟨ob, es, ep, t, e, c⟩ := x; exact ⟨ob, es, ep, t, k _ _ (.inl rfl) e, c⟩
  | ins C dx fs =>
    obtain ⟨d, z, ne, e, mA, ⟨od, es, ep, e2, c⟩, r⟩ := x
    exact ⟨ho _ d, z, ne, k _ _ (.inl rfl) e, mA, ⟨od, es, ep, k _ _ (.inr d) e2, c⟩, r⟩
  | own y => obtain ⟨ob, e⟩ := x; exact ⟨ob, k _ _ (.inl rfl) e⟩
  | xd fs => obtain ⟨mA, ⟨od, es, ep, e, c⟩, r⟩ := x; exact ⟨mA, ⟨od, es, ep, k _ _ (.inl rfl) e, c⟩, r⟩
  | rng lo hi => obtain ⟨t, u, v, e⟩ := x; exact ⟨t, u, v, k _ _ (.inl rfl) e⟩
  | frz ob u ih => obtain ⟨e, q⟩ := x; exact ⟨k _ _ (.inl rfl) e, ih q⟩
  | tbl ps =>
    have e : h.get? a = some { cls := .none, data := .fields ps } := x
    show h'.get? a = some { cls := .none, data := .fields ps }
    exact k a _ (.inl rfl) e
  | met f y =>
    have e : h.get? a = some (PySem.W.methodObj (.ref f) (.ref y)) := x
    show h'.get? a = some (PySem.W.methodObj (.ref f) (.ref y))
    exact k a _ (.inl rfl) e
  | ext φ => obtain ⟨p, ⟨o, e⟩, st⟩ := x; exact ⟨st _ _ p fun o q => k _ _ (.inl rfl) q, ⟨o, k _ _ (.inl rfl) e⟩, st⟩
theorem HOk.lt (x : HOk P w H h) (e : H a = some o) : a < h.objs.size := (x a o e).lt
theorem HOk.fresh (x : HOk P w H h) (e : h.objs.size ≤ a) : H a = none := by
  cases q : H a with
  | none => rfl
  | some u => exact absurd (Nat.lt_of_lt_of_le (x.lt q) e) (Nat.lt_irrefl _)
theorem HOk.kept (x : HOk P w H h) (k : ∀ b u, h.get? b = some u → h'.get? b = some u) : HOk P w H h' := fun a o e =>
  (x a o e).stay (fun b u _ q => k b u q) (fun _ q => q) fun _ _ q => q
theorem HOk.laid (x : HOk P w H h) (k : ∀ b u, h.get? b = some u → h'.get? b = some u) (hp : h.objs.size ≤ a) (new : ObjOk P w (upd H a o) h' a o) : HOk P w (upd H a o) h' := fun b u e => by
  have hn := x.fresh hp
  by_cases hb : b = a
  · subst hb; rw [upd_same] at e; cases e; exact new
  · rw [upd_ne hb] at e
    exact (x b u e).stay (fun c v _ q => k c v q) (fun c q => by rw [upd_ne (ne_of_none q hn)]; exact q) fun c xs q => by rw [upd_ne (ne_of_none q hn)]; exact q
end
def Rd (H : Hp) (a : Addr) (u : HO) : Prop := H a = some u ∨ ∃ o, H a = some (.frz o u)
theorem Rd.ok {P : Program} {w : World} {H : Hp} {h : Heap} {a : Addr} {u : HO} (r : Rd H a u) (x : HOk P w H h) : ObjOk P w H h a u := by
  rcases r with r | ⟨o, r⟩
  · exact x a u r
  · obtain ⟨_, q⟩ := x a _ r
    exact q
def Mut : Option HO → Prop
  | some (.lst _) => True
  | some (.dK _) => True
  | some (.dT _) => True
  | some (.set _ _) => True
  | some (.ins _ _ _) => True
  | some (.ext _) => True
  | _ => False
section
variable {P : Program} {w : World} {H : Hp} {h h' : Heap} {x e : Addr} {o' : HO}
theorem HOk.write (ok : HOk P w H h) (mu : Mut (H x)) (he : e = x ∨ H e = some (.own x)) (k : ∀ b u, b ≠ e → h.get? b = some u → h'.get? b = some u) (heo : ∃ u, h'.get? e = some u)
    (new : ObjOk P w (upd H x o') h' x o') : HOk P w (upd H x o') h' := fun b u q => by
  have nown : ∀ c y, H c = some (.own y) → c ≠ x := fun c y r z => by subst z; rw [r] at mu; exact mu
  have ntup : ∀ c xs, H c = some (.tup xs) → c ≠ x := fun c xs r z => by subst z; rw [r] at mu; exact mu
  by_cases hb : b = x
  · subst hb; rw [upd_same] at q; cases q; exact new
  · rw [upd_ne hb] at q
    by_cases hbe : b = e
    · have q' : H b = some (.own x) := by
        rcases he with z | z
        · exact absurd (hbe.trans z) hb
        · rw [hbe]; exact z
      rw [q] at q'; cases q'
      obtain ⟨v, hv⟩ := heo
      exact ⟨v, by rw [hbe]; exact hv⟩
    · refine (ok b u q).stay (fun c v hc r => k c v ?_ r) (fun c r => by rw [upd_ne (nown c b r)]; exact r) fun c xs r => by rw [upd_ne (ntup c xs r)]; exact r
      rcases hc with rfl | hc
      · exact hbe
      · rintro rfl
        rcases he with z | z
        · exact nown c b hc z
        · rw [hc] at z; cases z; exact hb rfl
end
structure Un (fs ex : List Addr) (H H' : Hp) (h h' : Heap) : Prop where
  keep : ∀ b o, h.get? b = some o → H b = none → b ∉ fs → b ∉ ex → h'.get? b = some o
  slot : ∀ b o, h.get? b = some o → H b = none → b ∈ fs → b ∉ ex → ∃ sl, h'.get? b = some { o with slots := sl }
  free : ∀ b o, h.get? b = some o → H b = none → b ∉ ex → H' b = none
  there : ∀ b o, h.get? b = some o → b ∉ ex → ∃ o', h'.get? b = some o'
  tups : ∀ b xs, H b = some (.tup xs) → H' b = some (.tup xs)
  frzs : ∀ b o u, H b = some (.frz o u) → H' b = some (.frz o u)
  tbls : ∀ b ps, H b = some (.tbl ps) → ∃ more, H' b = some (.tbl (ps ++ more))
section
variable {fs fs' ex ex' : List Addr} {H H1 H2 : Hp} {h h1 h2 h' : Heap} {a x e : Addr} {o : HO}
theorem Un.any (u : Un fs ex H H1 h h1) {b : Addr} {ob : Obj} (q : h.get? b = some ob) (n : H b = none) (hx : b ∉ ex) : ∃ sl, h1.get? b = some { ob with slots := sl } := by
  by_cases hb : b ∈ fs
  · exact u.slot b ob q n hb hx
  · exact ⟨ob.slots, u.keep b ob q n hb hx⟩
theorem Un.kept (k : ∀ b u, h.get? b = some u → h'.get? b = some u) : Un fs ex H H h h' :=
  ⟨fun b ob q _ _ _ => k b ob q, fun b ob q _ _ _ => ⟨ob.slots, k b ob q⟩, fun _ _ _ n _ => n, fun b ob q _ => ⟨ob, k b ob q⟩, fun _ _ q => q, fun _ _ _ q => q, fun _ ps q => ⟨#[], by rw [q]; simp⟩⟩
theorem Un.refl : Un fs ex H H h h := Un.kept fun _ _ q => q
theorem Un.laid (k : ∀ b u, h.get? b = some u → h'.get? b = some u) (hp : h.objs.size ≤ a) (hn : H a = none) : Un fs ex H (upd H a o) h h' where
  keep := fun b u q _ _ _ => k b u q
  slot := fun b u q _ _ _ => ⟨u.slots, k b u q⟩
  free := fun b u q n _ => by rw [upd_ne (Nat.ne_of_lt (Nat.lt_of_lt_of_le (Heap.lt_size q) hp))]; exact n
  there := fun b u q _ => ⟨u, k b u q⟩
  tups := fun b xs q => by rw [upd_ne (ne_of_none q hn)]; exact q
  frzs := fun b u xs q => by rw [upd_ne (ne_of_none q hn)]; exact q
  tbls := fun b ps q => ⟨#[], by rw [upd_ne (ne_of_none q hn), q]; simp⟩
theorem Un.write (mu : Mut (H x)) (he : e = x ∨ H e = some (.own x)) (k : ∀ b u, b ≠ e → h.get? b = some u → h'.get? b = some u) (heo : ∃ u, h'.get? e = some u) : Un fs ex H (upd H x o) h h' := by
  have hx : ∀ b, H b = none → b ≠ x := fun b n z => by subst z; rw [n] at mu; exact mu
  have hb : ∀ b, H b = none → b ≠ e := fun b n z => by
    subst z
    rcases he with r | r
    · exact hx b n r
    · rw [n] at r; cases r
  have hm : ∀ b u, H b = some u → ¬ Mut (some u) → b ≠ x := fun b u q nm z => by subst z; rw [q] at mu; exact nm mu
  refine ⟨fun b u q n _ _ => k b u (hb b n) q, fun b u q n _ _ => ⟨u.slots, k b u (hb b n) q⟩, fun b u q n _ => by rw [upd_ne (hx b n)]; exact n, fun b u q _ => ?_,
    fun b xs q => by rw [upd_ne (hm b _ q fun z => z)]; exact q, fun b u xs q => by rw [upd_ne (hm b _ q fun z => z)]; exact q, fun b ps q => ⟨#[], by rw [upd_ne (hm b _ q fun z => z), q]; simp⟩⟩
  by_cases hbe : b = e
  · subst hbe; exact heo
  · exact ⟨u, k b u hbe q⟩
end
def trk (h : Heap) (H : Hp) : List Addr := (List.range h.objs.size).filter fun a => (H a).isSome
def hidT (h : Heap) (H : Hp) : Heap := PySem.W.hideAll h (trk h H)
theorem hidT_size (h : Heap) (H : Hp) : (hidT h H).objs.size = h.objs.size := PySem.W.hideAll_size _ _
theorem hidT_get {h : Heap} {H : Hp} {b : Addr} {o : Obj} (e : h.get? b = some o) (n : H b = none) : (hidT h H).get? b = some o :=
  PySem.W.hideAll_get _ e fun hm => by
    have q : (H b).isSome = true := (List.mem_filter.mp hm).2
    rw [n] at q; simp at q
theorem of_hidT {h : Heap} {H : Hp} {b : Addr} {o : Obj} (e : (hidT h H).get? b = some o) : h.get? b = some o ∧ H b = none := by
  have e' : h.get? b = some o := PySem.W.of_hideAll (trk h H) e
  refine ⟨e', ?_⟩
  cases q : H b with
  | none => rfl
  | some x =>
    have hm : b ∈ trk h H := List.mem_filter.mpr ⟨List.mem_range.mpr (Heap.lt_size e'), by simp [q]⟩
    have z : (hidT h H).get? b = none := PySem.W.hideAll_none (trk h H) hm
    rw [z] at e; cases e
end L2
namespace L2
open PySem PySem.Spec PyProof.Rows
structure Mod (K : PySem.W.Frag) (mg : Str → Option Value) (base : Heap) : Prop where
  kin : K.In base
  glob : base.Ns mainGlobals mg
  blt : ∃ mb, base.Ns builtinsNs mb ∧ ∀ x : Str, x ≠ "__name__" → mb x = bootBuiltins x
  nolimit : base.NoLimit
structure Cx where
  prog : Program
  w : World
  K : PySem.W.Frag
  mg : Str → Option Value
  base : Heap
  A : Around
  N : List Str
  s₀ : Shared
  H₀ : Hp
  env : Env
  outer : List Env
  stack : List Env
  ex : List Addr
  fn : Str → Bool
  calm : Bool
  pn : List (Addr × Obj)
  xe : Value → Shared → Prop
def frs (l : List Env) : List Addr := l.filterMap (·.frame)
abbrev Cx.fs (X : Cx) : List Addr := frs X.outer
def Vis (sc : Scope) (x : Str) : Prop := sc.names.lookup x = some .local ∨ sc.names.lookup x = some .cell ∨ sc.names.lookup x = some .free
def Loc (sc : Scope) (x : Str) : Prop := sc.names.lookup x = some .local ∨ sc.names.lookup x = some .cell
def Look (env : Env) (h : Heap) (m : Str → Option Value) (x : Str) (u : Value) : Prop :=
  (env.kindOf x = some .local ∧ m x = some u) ∨ ((env.kindOf x = some .cell ∨ env.kindOf x = some .free) ∧ ∃ c, env.cells.lookup x = some c ∧ h.IsCell c (some u))
structure Cx.Ok (X : Cx) : Prop where
  mod : Mod X.K X.mg X.base
  kind : X.env.scope.kind = .function
  glob : X.env.globals = mainGlobals
  blt : X.env.builtins = builtinsNs
  above : X.s₀.heap.objs.size ≤ X.env.locals
  inj : ∀ x y c, X.env.cells.lookup x = some c → X.env.cells.lookup y = some c → x = y
  has : ∀ x, (X.env.kindOf x = some .cell ∨ X.env.kindOf x = some .free) → ∃ c, X.env.cells.lookup x = some c
  cab : ∀ x c, X.fn x = true → X.env.cells.lookup x = some c → X.s₀.heap.objs.size ≤ c
  hd : X.calm = true → X.A.handled = none
  frames : X.A.frames = some X.stack
  stk : X.stack = X.outer ∨ (X.stack = X.env :: X.outer ∧ X.env.frame = some X.env.locals)
  exf : ∀ b ∈ X.ex, b ≠ X.env.locals ∧ ∀ x c, X.env.cells.lookup x = some c → c ≠ b
  bs : ∀ b o, X.base.get? b = some o → X.s₀.heap.get? b = some o ∧ X.H₀ b = none
  bsz : X.base.objs.size ≤ X.s₀.heap.objs.size
  noex : ∀ b o, X.base.get? b = some o → b ∉ X.ex
  exfs : ∀ b ∈ X.ex, b ∉ X.fs
  funs : X.s₀.heap.FunFrames X.base X.outer
  frf : ∀ b ∈ X.fs, X.H₀ b = none
structure Inv (X : Cx) (pins : List (Addr × Obj)) (σ : List (Option V)) (H : Hp) (s : Shared) : Prop where
  ok : X.Ok
  os : s.os = X.s₀.os
  bare : AllBare s.gens
  base : Un X.fs X.ex X.H₀ H X.s₀.heap s.heap
  loc : ∃ m, s.heap.Ns X.env.locals m ∧ ∀ (i : Nat) (x : Str) (v : V), X.N[i]? = some x → σ[i]? = some (some v) → Vis X.env.scope x → ∃ u, RelV v u ∧ Look X.env s.heap m x u
  cell : ∀ x c, X.env.cells.lookup x = some c → ∃ v, s.heap.IsCell c v
  free : H X.env.locals = none
  freeC : ∀ x c, X.env.cells.lookup x = some c → H c = none
  pin : ∀ p ∈ X.pn ++ pins, s.heap.get? p.1 = some p.2 ∧ H p.1 = none ∧ p.1 ≠ X.env.locals ∧ p.1 ∉ X.fs ∧ ∀ v, p.2.data ≠ .cell v
  hok : HOk X.prog X.w H s.heap
  len : σ.length = X.N.length
section
variable {X : Cx} {pins : List (Addr × Obj)} {σ : List (Option V)} {H H' : Hp} {s : Shared} {h' : Heap}
theorem Cx.Ok.nofr (ok : X.Ok) {b : Addr} {o : Obj} (e : X.base.get? b = some o) : b ∉ X.fs := fun hb => by
  have := (ok.funs.mem hb).1
  rw [e] at this; cases this
theorem Inv.bs (I : Inv X pins σ H s) : ∀ b o, X.base.get? b = some o → s.heap.get? b = some o ∧ H b = none := fun b o e =>
  ⟨I.base.keep b o (I.ok.bs b o e).1 (I.ok.bs b o e).2 (I.ok.nofr e) (I.ok.noex b o e), I.base.free b o (I.ok.bs b o e).1 (I.ok.bs b o e).2 (I.ok.noex b o e)⟩
theorem Inv.bk (I : Inv X pins σ H s) : ∀ b o, X.base.get? b = some o → s.heap.get? b = some o := fun b o e => (I.bs b o e).1
theorem Inv.mod (I : Inv X pins σ H s) : Mod X.K X.mg X.base := I.ok.mod
theorem Inv.kIn (I : Inv X pins σ H s) : X.K.In s.heap := I.ok.mod.kin.keeps I.bk
theorem Inv.lt (I : Inv X pins σ H s) : X.env.locals < s.heap.objs.size := let ⟨_, hn, _⟩ := I.loc; hn.lt
theorem Inv.sz (I : Inv X pins σ H s) : X.s₀.heap.objs.size ≤ s.heap.objs.size := Nat.le_trans I.ok.above (Nat.le_of_lt I.lt)
theorem Inv.nofs (I : Inv X pins σ H s) {a : Addr} (h : s.heap.objs.size ≤ a) : a ∉ X.fs := fun hb => by
  obtain ⟨_, o, ho, _⟩ := I.ok.funs.mem hb
  exact absurd (Nat.lt_of_lt_of_le (Heap.lt_size ho) (Nat.le_trans I.sz h)) (Nat.lt_irrefl _)
theorem Inv.cne (I : Inv X pins σ H s) : ∀ x c, X.env.cells.lookup x = some c → c ≠ X.env.locals := fun x c e z => by
  obtain ⟨v, o, ho, hd⟩ := I.cell x c e
  obtain ⟨m, ⟨o', es, ep, ho', hd', _⟩, _⟩ := I.loc
  rw [z, ho'] at ho; cases ho; rw [hd'] at hd; cases hd
theorem Inv.funs (I : Inv X pins σ H s) : s.heap.FunFrames X.base X.outer := by
  have all : ∀ (l : List Env), (∀ b ∈ frs l, b ∈ X.fs) → X.s₀.heap.FunFrames X.base l → s.heap.FunFrames X.base l := by
    intro l
    induction l with
    | nil => intro _ _; trivial
    | cons env r ih =>
      intro hs hl
      obtain ⟨hk, ⟨L, o, hf, hn, ho, hd⟩, hr⟩ := hl
      have hL : L ∈ X.fs := hs L (by unfold frs; rw [List.filterMap_cons, hf]; exact List.mem_cons_self)
      obtain ⟨sl, e⟩ := I.base.slot L o ho (I.ok.frf L hL) hL fun z => I.ok.exfs L z hL
      exact ⟨hk, ⟨L, _, hf, hn, e, hd⟩, ih (fun b hb => hs b (by unfold frs; rw [List.filterMap_cons, hf]; exact List.mem_cons_of_mem _ hb)) hr⟩
  exact all X.outer (fun _ hb => hb) I.ok.funs
theorem Inv.stack (I : Inv X pins σ H s) : s.heap.FunFrames X.base X.stack := by
  rcases I.ok.stk with e | ⟨e, hf⟩
  · rw [e]; exact I.funs
  · rw [e]
    obtain ⟨m, hn, _⟩ := I.loc
    refine .cons (by rw [I.ok.kind]; decide) hf hn ?_ I.funs
    exact Heap.get?_none_of_le (Nat.le_trans I.ok.bsz I.ok.above)
theorem Inv.stkSub (I : Inv X pins σ H s) : ∀ b ∈ frs X.stack, b ∈ X.env.locals :: X.fs := fun b hb => by
  rcases I.ok.stk with e | ⟨e, hf⟩
  · rw [e] at hb; exact List.mem_cons_of_mem _ hb
  · rw [e] at hb
    unfold frs at hb
    rw [List.filterMap_cons, hf] at hb
    exact hb
theorem Inv.stkFree (I : Inv X pins σ H s) : ∀ b ∈ frs X.stack, H b = none := fun b hb => by
  rcases List.mem_cons.mp (I.stkSub b hb) with e | hb
  · rw [e]; exact I.free
  · obtain ⟨_, o, ho, _⟩ := I.ok.funs.mem hb
    exact I.base.free b o ho (I.ok.frf b hb) fun z => I.ok.exfs b z hb
theorem Inv.step {g' : Array GenState} {t' : Nat} {d' : Drawn} {ch : List Addr} (I : Inv X pins σ H s)
    (hch : ∀ b ∈ ch, (b ∈ X.ex ∨ X.s₀.heap.objs.size ≤ b) ∧ b ≠ X.env.locals ∧ (∀ x c, X.env.cells.lookup x = some c → c ≠ b) ∧ ∀ p ∈ X.pn ++ pins, p.1 ≠ b)
    (keep : ∀ b o, b ≠ X.env.locals → b ∉ X.fs → b ∉ ch → s.heap.get? b = some o → H b = none → h'.get? b = some o)
    (slot : ∀ b o, b ≠ X.env.locals → b ∈ X.fs → b ∉ ch → s.heap.get? b = some o → H b = none → ∃ sl, h'.get? b = some { o with slots := sl }) (free : ∀ b o, b ∉ ch → s.heap.get? b = some o → H b = none → H' b = none)
    (there : ∀ b o, b ∉ ch → s.heap.get? b = some o → ∃ o', h'.get? b = some o')
    (tups : ∀ b xs, H b = some (.tup xs) → H' b = some (.tup xs)) (frzs : ∀ b o u, H b = some (.frz o u) → H' b = some (.frz o u)) (tbls : ∀ b ps, H b = some (.tbl ps) → ∃ more, H' b = some (.tbl (ps ++ more)))
    (ns : ∀ m, s.heap.Ns X.env.locals m → h'.Ns X.env.locals m) (hok : HOk X.prog X.w H' h') (hg : AllBare g') :
    Inv X pins σ H' { s with heap := h', gens := g', drawn := d', toks := t' } := by
  have neL : ∀ b o, X.s₀.heap.get? b = some o → b ≠ X.env.locals := fun b o e => Nat.ne_of_lt (Nat.lt_of_lt_of_le (Heap.lt_size e) I.ok.above)
  have neC : ∀ b o, X.s₀.heap.get? b = some o → b ∉ X.ex → b ∉ ch := fun b o e hx hb => by
    rcases (hch b hb).1 with z | z
    · exact hx z
    · exact absurd (Nat.lt_of_lt_of_le (Heap.lt_size e) z) (Nat.lt_irrefl _)
  have cellK : ∀ x c, X.env.cells.lookup x = some c → ∀ v, s.heap.IsCell c v → h'.IsCell c v := fun x c e v ⟨o, ho, hd⟩ => by
    have nch : c ∉ ch := fun z => (hch c z).2.2.1 x c e rfl
    by_cases hc : c ∈ X.fs
    · obtain ⟨sl, q⟩ := slot c o (I.cne x c e) hc nch ho (I.freeC x c e)
      exact ⟨_, q, hd⟩
    · exact ⟨o, keep c o (I.cne x c e) hc nch ho (I.freeC x c e), hd⟩
  refine ⟨I.ok, I.os, hg, ⟨fun b o e n hb hx => ?_, fun b o e n hb hx => ?_, fun b o e n hx => ?_, fun b o e hx => ?_, fun b xs e => tups b xs (I.base.tups b xs e), fun b o xs e => frzs b o xs (I.base.frzs b o xs e), fun b ps e => ?_⟩, ?_, fun x c e => ?_, ?_, fun x c e => ?_, fun p hp => ?_, hok, I.len⟩
  · exact keep b o (neL b o e) hb (neC b o e hx) (I.base.keep b o e n hb hx) (I.base.free b o e n hx)
  · obtain ⟨sl, e1⟩ := I.base.slot b o e n hb hx
    obtain ⟨sl', e2⟩ := slot b _ (neL b o e) hb (neC b o e hx) e1 (I.base.free b o e n hx)
    exact ⟨sl', e2⟩
  · obtain ⟨o', e1⟩ := I.base.there b o e hx
    exact free b o' (neC b o e hx) e1 (I.base.free b o e n hx)
  · obtain ⟨o', e1⟩ := I.base.there b o e hx
    exact there b o' (neC b o e hx) e1
  · obtain ⟨m1, e1⟩ := I.base.tbls b ps e
    obtain ⟨m2, e2⟩ := tbls b _ e1
    exact ⟨m1 ++ m2, by rw [e2, Array.append_assoc]⟩
  · obtain ⟨m, hn, hl⟩ := I.loc
    refine ⟨m, ns m hn, fun i x v e1 e2 e3 => ?_⟩
    obtain ⟨u, r, l⟩ := hl i x v e1 e2 e3
    refine ⟨u, r, ?_⟩
    rcases l with l | ⟨k, c, e, z⟩
    · exact .inl l
    · exact .inr ⟨k, c, e, cellK x c e _ z⟩
  · obtain ⟨v, z⟩ := I.cell x c e
    exact ⟨v, cellK x c e v z⟩
  · obtain ⟨m, ⟨o, _, _, ho, _⟩, _⟩ := I.loc
    exact free _ o (fun z => (hch _ z).2.1 rfl) ho I.free
  · obtain ⟨v, o, ho, hd⟩ := I.cell x c e
    exact free c o (fun z => (hch c z).2.2.1 x c e rfl) ho (I.freeC x c e)
  · obtain ⟨e, n, ne, nf, d⟩ := I.pin p hp
    have nch : p.1 ∉ ch := fun z => (hch p.1 z).2.2.2 p hp rfl
    exact ⟨keep p.1 p.2 ne nf nch e n, free p.1 p.2 nch e n, ne, nf, d⟩
theorem Inv.un {t' : Nat} (I : Inv X pins σ H s) (u : Un X.fs [] H H' s.heap h') (hok : HOk X.prog X.w H' h') : Inv X pins σ H' { s with heap := h', toks := t' } := by
  obtain ⟨m, ⟨o, es, ep, ho, r⟩, _⟩ := id I.loc
  obtain ⟨sl, hL⟩ := u.any ho I.free (by simp)
  exact I.step (g' := s.gens) (d' := s.drawn) (ch := []) (fun _ z => nomatch z) (fun b o _ hb _ e n => u.keep b o e n hb (by simp)) (fun b o _ hb _ e n => u.slot b o e n hb (by simp)) (fun b o _ e n => u.free b o e n (by simp)) (fun b o _ e => u.there b o e (by simp)) u.tups u.frzs u.tbls (fun m' hm => by
    obtain ⟨o', es', ep', ho', r'⟩ := hm
    rw [ho] at ho'; cases ho'
    exact ⟨_, es', ep', hL, r'⟩) hok I.bare
theorem Inv.call {g' : Array GenState} {t' : Nat} {d' : Drawn} {ch : List Addr} (I : Inv X pins σ H s) (u : Un (frs X.stack) ch H H' s.heap h') (hok : HOk X.prog X.w H' h') (hg : AllBare g')
    (hch : ∀ b ∈ ch, (b ∈ X.ex ∨ X.s₀.heap.objs.size ≤ b) ∧ b ≠ X.env.locals ∧ (∀ x c, X.env.cells.lookup x = some c → c ≠ b) ∧ ∀ p ∈ X.pn ++ pins, p.1 ≠ b) :
    Inv X pins σ H' { s with heap := h', gens := g', drawn := d', toks := t' } := by
  obtain ⟨m, ⟨o, es, ep, ho, r⟩, _⟩ := id I.loc
  obtain ⟨sl, hL⟩ := u.any ho I.free fun z => (hch _ z).2.1 rfl
  exact I.step (ch := ch) hch (fun b o hL hb hc e n => u.keep b o e n (fun z => (List.mem_cons.mp (I.stkSub b z)).elim hL hb) hc) (fun b o _ _ hc e n => u.any e n hc) (fun b o hc e n => u.free b o e n hc) (fun b o hc e => u.there b o e hc) u.tups u.frzs u.tbls (fun m' hm => by
    obtain ⟨o', es', ep', ho', r'⟩ := hm
    rw [ho] at ho'; cases ho'
    exact ⟨_, es', ep', hL, r'⟩) hok hg
theorem Inv.turned {t' : Nat} {it : Addr} (I : Inv X pins σ H s) (k : ∀ b o, b ≠ it → s.heap.get? b = some o → h'.get? b = some o) (hn : H it = none) (hL : it ≠ X.env.locals)
    (h1 : it ∈ X.ex ∨ X.s₀.heap.objs.size ≤ it) (h2 : ∀ x c, X.env.cells.lookup x = some c → c ≠ it) (h3 : ∀ p ∈ X.pn ++ pins, p.1 ≠ it) : Inv X pins σ H { s with heap := h', toks := t' } := by
  have nit : ∀ b u, H b = some u → b ≠ it := fun b u e z => by rw [z, hn] at e; cases e
  refine I.step (g' := s.gens) (d' := s.drawn) (ch := [it]) (fun b hb => ?_) (fun b o _ _ hc e _ => k b o (fun z => hc (by simp [z])) e) (fun b o _ _ hc e _ => ⟨o.slots, k b o (fun z => hc (by simp [z])) e⟩) (fun _ _ _ _ n => n)
    (fun b o hc e => ⟨o, k b o (fun z => hc (by simp [z])) e⟩) (fun _ _ e => e) (fun _ _ _ e => e) (fun b ps e => ⟨#[], by rw [e]; simp⟩) (fun m hm => ?_) (fun b u e => ?_) I.bare
  · have e : b = it := by simpa using hb
    subst e
    exact ⟨h1, hL, h2, h3⟩
  · obtain ⟨o, es, ep, ho, r⟩ := hm
    exact ⟨o, es, ep, k _ o (Ne.symm hL) ho, r⟩
  · refine (I.hok b u e).stay (fun c v hc q => k c v ?_ q) (fun _ q => q) fun _ _ q => q
    rcases hc with z | z
    · rw [z]; exact nit b u e
    · exact nit c _ z
theorem Inv.tok (I : Inv X pins σ H s) (t : Nat) : Inv X pins σ H { s with toks := t } := I.un (h' := s.heap) (t' := t) Un.refl I.hok
theorem Inv.kept {t' : Nat} (I : Inv X pins σ H s) (k : ∀ b u, s.heap.get? b = some u → h'.get? b = some u) : Inv X pins σ H { s with heap := h', toks := t' } := I.un (Un.kept k) (I.hok.kept k)
theorem Inv.laid {a : Addr} {o : HO} {t' : Nat} (I : Inv X pins σ H s) (k : ∀ b u, s.heap.get? b = some u → h'.get? b = some u) (hp : s.heap.objs.size ≤ a) (new : ObjOk X.prog X.w (upd H a o) h' a o) :
    Inv X pins σ (upd H a o) { s with heap := h', toks := t' } := I.un (Un.laid k hp (I.hok.fresh hp)) (I.hok.laid k hp new)
theorem Inv.write {x e : Addr} {o : HO} {t' : Nat} (I : Inv X pins σ H s) (mu : Mut (H x)) (he : e = x ∨ H e = some (.own x)) (k : ∀ b u, b ≠ e → s.heap.get? b = some u → h'.get? b = some u) (heo : ∃ u, h'.get? e = some u)
    (new : ObjOk X.prog X.w (upd H x o) h' x o) : Inv X pins σ (upd H x o) { s with heap := h', toks := t' } := I.un (Un.write mu he k heo) (I.hok.write mu he k heo new)
theorem Inv.pins_of {pins' : List (Addr × Obj)} (I : Inv X pins σ H s) (h : ∀ p ∈ pins', s.heap.get? p.1 = some p.2 ∧ H p.1 = none ∧ p.1 ≠ X.env.locals ∧ p.1 ∉ X.fs ∧ ∀ v, p.2.data ≠ .cell v) : Inv X pins' σ H s :=
  ⟨I.ok, I.os, I.bare, I.base, I.loc, I.cell, I.free, I.freeC, fun p hp => (List.mem_append.mp hp).elim (fun z => I.pin p (List.mem_append_left _ z)) (h p), I.hok, I.len⟩
theorem nodup_ix {N : List Str} (hN : N.Nodup) {i j : Nat} {x : Str} (a : N[i]? = some x) (b : N[j]? = some x) : i = j := by
  obtain ⟨h1, e1⟩ := List.getElem?_eq_some_iff.mp a
  obtain ⟨h2, e2⟩ := List.getElem?_eq_some_iff.mp b
  exact (List.getElem_inj hN).mp (e1.trans e2.symm)
theorem store_ok2 {M : Model} {A : Around} {E : Value → Shared → Prop} {i : Nat} {x : Str} {v : V} {u : Value} {Q : Unit → Shared → Prop} (I : Inv X pins σ H s) (hN : X.N.Nodup) (hi : X.N[i]? = some x) (hx : Loc X.env.scope x) (r : RelV v u)
    (h : ∀ s', Inv X pins (σ.set i (some v)) H s' → (∃ a, Heap.SameBut a s.heap s'.heap ∧ (a = X.env.locals ∨ X.env.cells.lookup x = some a)) → Q () s') (hf : X.fn x = true ∨ X.env.scope.names.lookup x = some .local := by first | exact .inl rfl | exact .inr rfl | assumption) : wpAny M A (storeName X.env x u) Q E s := by
  obtain ⟨m, hn, hl⟩ := id I.loc
  have hcls : (X.env.scope.kind == .class || (X.env.scope.kind == .module && X.env.locals != X.env.globals)) = false := by rw [I.ok.kind]; rfl
  have hiσ : i < σ.length := by rw [I.len]; exact (List.getElem?_eq_some_iff.mp hi).1
  have cne := I.cne
  have tracked : ∀ {a : Addr} {h' : Heap}, (∃ o, s.heap.get? a = some o ∧ H a = none) → Heap.SameBut a s.heap h' → HOk X.prog X.w H h' := fun {a h'} ha hs b ob e => by
    obtain ⟨_, _, hfree⟩ := ha
    refine (I.hok b ob e).stay (fun c w' hc q => (hs.2 c ?_).trans q) (fun _ q => q) fun _ _ q => q
    rintro rfl
    rcases hc with rfl | hc
    · rw [hfree] at e; cases e
    · rw [hfree] at hc; cases hc
  rcases hx with hk | hk
  · refine wpAny_storeName_local hk hn (fun h' hn' hs => ?_) hcls
    obtain ⟨oL, _, _, hoL, _⟩ := id hn
    refine h _ ⟨I.ok, I.os, I.bare, ⟨fun b o e n hb hx => ?_, fun b o e n hb hx => ?_, I.base.free, fun b o e hx => ?_, I.base.tups, I.base.frzs, I.base.tbls⟩, ⟨_, hn', fun j y v' e1 e2 e3 => ?_⟩, fun y c e => ?_, I.free, I.freeC, fun p hp => ?_, tracked ⟨oL, hoL, I.free⟩ hs, by simpa using I.len⟩ ⟨_, hs, .inl rfl⟩
    · exact (hs.2 b (Nat.ne_of_lt (Nat.lt_of_lt_of_le (Heap.lt_size e) I.ok.above))).trans (I.base.keep b o e n hb hx)
    · obtain ⟨sl, e1⟩ := I.base.slot b o e n hb hx
      exact ⟨sl, (hs.2 b (Nat.ne_of_lt (Nat.lt_of_lt_of_le (Heap.lt_size e) I.ok.above))).trans e1⟩
    · obtain ⟨o', e1⟩ := I.base.there b o e hx
      exact ⟨o', (hs.2 b (Nat.ne_of_lt (Nat.lt_of_lt_of_le (Heap.lt_size e) I.ok.above))).trans e1⟩
    · by_cases hj : j = i
      · subst hj
        rw [hi] at e1; cases e1
        rw [List.getElem?_set_self hiσ] at e2
        cases e2
        exact ⟨u, r, .inl ⟨hk, by simp⟩⟩
      · rw [List.getElem?_set_ne (Ne.symm hj)] at e2
        obtain ⟨u', r', q⟩ := hl j y v' e1 e2 e3
        refine ⟨u', r', ?_⟩
        rcases q with ⟨k, e⟩ | ⟨k, c, e, z⟩
        · refine .inl ⟨k, ?_⟩
          have : y ≠ x := fun e => hj (nodup_ix hN e1 (e ▸ hi))
          simp [this, e]
        · exact .inr ⟨k, c, e, z.sameBut hs (cne y c e)⟩
    · obtain ⟨w', z⟩ := I.cell y c e
      exact ⟨w', z.sameBut hs (cne y c e)⟩
    · obtain ⟨e, n, ne, nf, d⟩ := I.pin p hp
      exact ⟨(hs.2 p.1 ne).trans e, n, ne, nf, d⟩
  · have hfn : X.fn x = true := by
      rcases hf with z | z
      · exact z
      · rw [z] at hk; cases hk
    obtain ⟨c, hc⟩ := I.ok.has x (.inl hk)
    obtain ⟨w', z⟩ := I.cell x c hc
    refine wpAny_storeName_cell I.ok.kind hk hc z (fun h' hc' hs => ?_)
    obtain ⟨oc, hoc, hocd⟩ := id z
    refine h { s with heap := h' } ⟨I.ok, I.os, I.bare, ⟨fun b o e n hb hx => ?_, fun b o e n hb hx => ?_, I.base.free, fun b o e hx => ?_, I.base.tups, I.base.frzs, I.base.tbls⟩, ⟨m, hn.sameBut hs (Ne.symm (cne x c hc)), fun j y v' e1 e2 e3 => ?_⟩, fun y c' e => ?_, I.free, I.freeC, fun p hp => ?_, tracked ⟨oc, hoc, I.freeC x c hc⟩ hs, by simpa using I.len⟩ ⟨c, hs, .inr hc⟩
    · exact (hs.2 b (Nat.ne_of_lt (Nat.lt_of_lt_of_le (Heap.lt_size e) (I.ok.cab x c hfn hc)))).trans (I.base.keep b o e n hb hx)
    · obtain ⟨sl, e1⟩ := I.base.slot b o e n hb hx
      exact ⟨sl, (hs.2 b (Nat.ne_of_lt (Nat.lt_of_lt_of_le (Heap.lt_size e) (I.ok.cab x c hfn hc)))).trans e1⟩
    · obtain ⟨o', e1⟩ := I.base.there b o e hx
      exact ⟨o', (hs.2 b (Nat.ne_of_lt (Nat.lt_of_lt_of_le (Heap.lt_size e) (I.ok.cab x c hfn hc)))).trans e1⟩
    · by_cases hj : j = i
      · subst hj
        rw [hi] at e1; cases e1
        rw [List.getElem?_set_self hiσ] at e2
        cases e2
        exact ⟨u, r, .inr ⟨.inl hk, c, hc, hc'⟩⟩
      · rw [List.getElem?_set_ne (Ne.symm hj)] at e2
        obtain ⟨u', r', q⟩ := hl j y v' e1 e2 e3
        refine ⟨u', r', ?_⟩
        rcases q with q | ⟨k, c', e, z'⟩
        · exact .inl q
        · refine .inr ⟨k, c', e, z'.sameBut hs ?_⟩
          rintro rfl
          exact hj (nodup_ix hN e1 (I.ok.inj _ _ _ e hc ▸ hi))
    · by_cases hcc : c' = c
      · subst hcc; exact ⟨_, hc'⟩
      · obtain ⟨w2, z2⟩ := I.cell y c' e
        exact ⟨w2, z2.sameBut hs hcc⟩
    · obtain ⟨e, n, ne, nf, d⟩ := I.pin p hp
      refine ⟨(hs.2 p.1 ?_).trans e, n, ne, nf, d⟩
      intro q
      rw [q, hoc] at e
      have q' : oc = p.2 := Option.some.inj e
      exact d w' (by rw [← q']; exact hocd)
theorem store_ok {M : Model} {A : Around} {E : Value → Shared → Prop} {i : Nat} {x : Str} {v : V} {u : Value} {Q : Unit → Shared → Prop} (I : Inv X pins σ H s) (hN : X.N.Nodup) (hi : X.N[i]? = some x) (hx : Loc X.env.scope x) (r : RelV v u)
    (h : ∀ s', Inv X pins (σ.set i (some v)) H s' → Q () s') (hf : X.fn x = true ∨ X.env.scope.names.lookup x = some .local := by first | exact .inl rfl | exact .inr rfl | assumption) : wpAny M A (storeName X.env x u) Q E s :=
  store_ok2 I hN hi hx r (fun s' I' _ => h s' I') hf
theorem Inv.call' {s' : Shared} {ch : List Addr} (I : Inv X pins σ H s) (ho : s'.os = s.os) (u : Un (frs X.stack) ch H H' s.heap s'.heap) (hok : HOk X.prog X.w H' s'.heap) (hg : AllBare s'.gens)
    (hch : ∀ b ∈ ch, (b ∈ X.ex ∨ X.s₀.heap.objs.size ≤ b) ∧ b ≠ X.env.locals ∧ (∀ x c, X.env.cells.lookup x = some c → c ≠ b) ∧ ∀ p ∈ X.pn ++ pins, p.1 ≠ b) : Inv X pins σ H' s' := by
  obtain ⟨h', g', d', t', o'⟩ := s'
  have e : o' = s.os := ho
  subst e
  exact I.call (g' := g') (t' := t') (d' := d') u hok hg hch
end
abbrev XK := Value → Option Addr → Hp → Prop
abbrev St := List (Option V)
abbrev VK := V → Hp → Prop
abbrev TE := St → Hp → VK → Prop
abbrev TT := St → Hp → (Bool → Hp → Prop) → Prop
abbrev TA := St → Hp → (List V → Hp → Prop) → Prop
structure Ends where
  nx : St → Hp → Prop
  rt : VK
  bk : St → Hp → Prop := fun _ _ => False
  ct : St → Hp → Prop := fun _ _ => False
abbrev TS := Ends → St → Hp → Prop
def EP (X : Cx) (pins : List (Addr × Obj)) (σ : St) (Q : VK) (u : Value) (s' : Shared) : Prop := ∃ v H', Inv X pins σ H' s' ∧ RelV v u ∧ Q v H'
def TP (X : Cx) (pins : List (Addr × Obj)) (σ : St) (Q : Bool → Hp → Prop) (b : Bool) (s' : Shared) : Prop := ∃ H', Inv X pins σ H' s' ∧ Q b H'
def AP (X : Cx) (pins : List (Addr × Obj)) (σ : St) (Q : List V → Hp → Prop) (us : List Value) (s' : Shared) : Prop := ∃ vs H', Inv X pins σ H' s' ∧ Vals vs us ∧ Q vs H'
def SP (X : Cx) (pins : List (Addr × Obj)) (D : Ends) (f : Flow) (s' : Shared) : Prop :=
  match f with
  | .next => ∃ σ' H', Inv X pins σ' H' s' ∧ D.nx σ' H'
  | .brk => ∃ σ' H', Inv X pins σ' H' s' ∧ D.bk σ' H'
  | .cont => ∃ σ' H', Inv X pins σ' H' s' ∧ D.ct σ' H'
  | .ret u => ∃ v σ' H', Inv X pins σ' H' s' ∧ RelV v u ∧ D.rt v H'
def PE (X : Cx) (e : Expr) (t : TE) : Prop :=
  ∀ (pins : List (Addr × Obj)) (s : Shared) (σ : St) (H : Hp) (Q : VK), Inv X pins σ H s → t σ H Q → wpAny (model X.prog X.w) X.A (eval e X.env) (EP X pins σ Q) X.xe s
def PT (X : Cx) (e : Expr) (t : TT) : Prop :=
  ∀ (pins : List (Addr × Obj)) (s : Shared) (σ : St) (H : Hp) (Q : Bool → Hp → Prop), Inv X pins σ H s → t σ H Q → wpAny (model X.prog X.w) X.A (isTrue e X.env (eval e X.env)) (TP X pins σ Q) X.xe s
def PW (X : Cx) (e : Expr) (t : TT) : Prop :=
  ∀ (whole : Sem Value) (pins : List (Addr × Obj)) (s : Shared) (σ : St) (H : Hp) (Q : Bool → Hp → Prop), Inv X pins σ H s → t σ H Q → wpAny (model X.prog X.w) X.A (isTrue e X.env whole) (TP X pins σ Q) X.xe s
theorem PW.pt {X : Cx} {e : Expr} {t : TT} (h : PW X e t) : PT X e t := h _
def PA (X : Cx) (es : List Expr) (t : TA) : Prop :=
  ∀ (pos : Pos) (pins : List (Addr × Obj)) (s : Shared) (σ : St) (H : Hp) (Q : List V → Hp → Prop), Inv X pins σ H s → t σ H Q → wpAny (model X.prog X.w) X.A (spliced (backTo pos (starEach es X.env))) (AP X pins σ Q) X.xe s
def PS (X : Cx) (st : Stmt) (t : TS) : Prop :=
  ∀ (pins : List (Addr × Obj)) (s : Shared) (σ : St) (H : Hp) (D : Ends), Inv X pins σ H s → t D σ H → wpAny (model X.prog X.w) X.A (exec st X.env) (SP X pins D) X.xe s
def PSs (X : Cx) (st : List Stmt) (t : TS) : Prop :=
  ∀ (pins : List (Addr × Obj)) (s : Shared) (σ : St) (H : Hp) (D : Ends), Inv X pins σ H s → t D σ H → wpAny (model X.prog X.w) X.A (execs st X.env) (SP X pins D) X.xe s
theorem thn {α : Type} {t : Sem α} {Q Q' : α → Shared → Prop} {M : Model} {A : Around} {E : Value → Shared → Prop} {s : Shared} (h : wpAny M A t Q E s) (hQ : ∀ a s, Q a s → Q' a s) : wpAny M A t Q' E s := wpAny_mono h hQ fun _ _ x => x
end L2
namespace L2
open PySem PySem.Spec PyProof.Rows
section
variable {X : Cx}
def tVar (i : Nat) : TE := fun σ H Q => ∃ v, σ[i]? = some (some v) ∧ Q v H
def tC (v : V) : TE := fun _ H Q => Q v H
theorem pe_var {i : Nat} {x : Str} {pos : Pos} (hN : X.N[i]? = some x) (hv : Vis X.env.scope x) (hd : (x == ("__debug__" : Str)) = false := by decide) (hcd : (x == ("__classdict__" : Str)) = false := by decide) : PE X (.Name x pos) (tVar i) := by
  intro pins s σ H Q I h
  obtain ⟨v, e, h⟩ := h
  obtain ⟨m, hn, hl⟩ := I.loc
  obtain ⟨u, r, l⟩ := hl i x v hN e hv
  have fin : EP X pins σ Q u s := ⟨v, H, I, r, h⟩
  rcases l with ⟨hk, hm⟩ | ⟨hk, c, hc, hcell⟩
  · exact wpAny_Name (wpAny_loadName_local I.ok.kind hk hn hm fin) hd
  · rcases hk with hk | hk
    · exact wpAny_Name (wpAny_loadName_cell I.ok.kind hk hc hcell fin) hd
    · exact wpAny_Name (wpAny_loadName_free I.ok.kind hk hc hcell fin hcd) hd
theorem pe_int {i j pos} : PE X (.Constant (.int i) j pos) (tC (.int i)) := fun _ _ _ H _ I h => wpAny_Constant_int ⟨.int i, H, I.tok _, ⟨_, rfl⟩, h⟩
theorem pe_bl {b j pos} : PE X (.Constant (.bool b) j pos) (tC (.bl b)) := fun _ _ _ H _ I h => Constant_bool ⟨.bl b, H, I, rfl, h⟩
theorem pe_str {x j pos} : PE X (.Constant (.str x) j pos) (tC (.str x)) := fun _ _ _ H _ I h => Calls.Constant_str ⟨.str x, H, I.tok _, ⟨_, rfl⟩, h⟩
def Gl (X : Cx) (x : Str) : Prop := X.env.kindOf x = some .globalImplicit
theorem ld_glob {E : Value → Shared → Prop} {pins : List (Addr × Obj)} {s : Shared} {σ : St} {H : Hp} {x : Str} {u : Value} {pos : Pos} {Q : Value → Shared → Prop} (I : Inv X pins σ H s) (hg : Gl X x) (hm : X.mg x = some u) (h : Q u s)
    (hd : (x == ("__debug__" : Str)) = false := by decide) : wpAny (model X.prog X.w) X.A (eval (.Name x pos) X.env) Q E s :=
  Calls.Name_function_global I.ok.kind hg (Calls.loadGlobal_global (by rw [I.ok.glob]; exact I.mod.glob.keeps I.bk) hm h) hd
theorem ld_blt {E : Value → Shared → Prop} {pins : List (Addr × Obj)} {s : Shared} {σ : St} {H : Hp} {x : Str} {u : Value} {pos : Pos} {Q : Value → Shared → Prop} (I : Inv X pins σ H s) (hg : Gl X x) (hm : X.mg x = none) (hv : bootBuiltins x = some u) (h : Q u s)
    (hn : x ≠ "__name__" := by decide) (hd : (x == ("__debug__" : Str)) = false := by decide) : wpAny (model X.prog X.w) X.A (eval (.Name x pos) X.env) Q E s := by
  obtain ⟨mb, h1, h2⟩ := I.mod.blt
  exact Calls.Name_function_global I.ok.kind hg (Calls.loadGlobal_builtin (by rw [I.ok.glob]; exact I.mod.glob.keeps I.bk) hm (by rw [I.ok.blt]; exact h1.keeps I.bk) ((h2 x hn).trans hv) h) hd
theorem pe_glob {x : Str} {v : V} {u : Value} {pos : Pos} (hg : Gl X x) (hm : X.mg x = some u) (r : RelV v u) (hd : (x == ("__debug__" : Str)) = false := by decide) : PE X (.Name x pos) (tC v) :=
  fun _ _ _ H _ I h => ld_glob I hg hm ⟨v, H, I, r, h⟩ hd
theorem pe_bltn {x : Str} {v : V} {u : Value} {pos : Pos} (hg : Gl X x) (hm : X.mg x = none) (hv : bootBuiltins x = some u) (r : RelV v u) (hn : x ≠ "__name__" := by decide) (hd : (x == ("__debug__" : Str)) = false := by decide) : PE X (.Name x pos) (tC v) :=
  fun _ _ _ H _ I h => ld_blt I hg hm hv ⟨v, H, I, r, h⟩ hn hd
variable {a b : Expr} {ta tb : TE} {pos : Pos}
def PC (X : Cx) (op : CmpOp) (a b : Expr) (t : TE) : Prop :=
  ∀ (pins : List (Addr × Obj)) (s : Shared) (σ : St) (H : Hp) (Q : VK), Inv X pins σ H s → t σ H Q →
    wpAny (model X.prog X.w) X.A (eval a X.env) (fun v s₁ => wpAny (model X.prog X.w) X.A (eval b X.env) (fun u s₂ => wpAny (model X.prog X.w) X.A (compareOp op v u) (EP X pins σ Q) X.xe s₂) X.xe s₁) X.xe s
def tB (t : TE) : TT := fun σ H Q => t σ H fun x H1 => ∃ c, x = .bl c ∧ Q c H1
theorem pt_cmp {op : CmpOp} {t : TE} (h : PC X op a b t) (h1 : behindInMarks op b = false := by first | exact nobehind _ (by decide) (by decide) | rfl) : PT X (.Compare a [op] [b] pos) (tB t) := by
  intro pins s σ H Q I hw
  refine wpAny_isTrue_Compare1 (thn (h pins s σ H _ I hw) fun v s1 h1 => thn h1 fun u s2 h2 => thn h2 fun c s3 ⟨x, H1, I1, r1, q1⟩ => ?_) h1
  obtain ⟨d, rfl, q⟩ := q1
  cases r1
  exact wpAny_truthy_bool ⟨H1, I1, q⟩
theorem pt_val {e : Expr} {t : TE} (h : PE X e t) (he : ∀ whole, isTrue e X.env whole = (do let v ← whole; standAt e.pos; holding [v] (truthy v)) := by intro _; rfl) : PT X e (tB t) := by
  intro pins s σ H Q I hw
  refine isTrue_plain (thn (h pins s σ H _ I hw) fun v s1 ⟨x, H1, I1, r1, q1⟩ => ?_) (he _)
  obtain ⟨d, rfl, q⟩ := q1
  cases r1
  exact wpAny_truthy_bool ⟨H1, I1, q⟩
variable {tA tB' : TT} {rest : List Expr}
def tOr (t u : TT) : TT := fun σ H Q => t σ H fun c H1 => if c = true then Q true H1 else u σ H1 Q
def tNot (t : TT) : TT := fun σ H Q => t σ H fun c H1 => Q (!c) H1
theorem pw_or1 (ha : PT X a tA) : PW X (.BoolOp .Or [a] pos) tA := by
  intro wh pins s σ H Q I h
  refine isTrue_or (thn (ha pins s σ H Q I h) fun c s1 e => ?_)
  cases c with
  | false => exact isTrue_or_nil e
  | true => exact e
theorem pw_or (ha : PT X a tA) (hb : PW X (.BoolOp .Or (b :: rest) pos) tB') : PW X (.BoolOp .Or (a :: b :: rest) pos) (tOr tA tB') := by
  intro wh pins s σ H Q I h
  refine isTrue_or (thn (ha pins s σ H _ I h) fun c s1 ⟨H1, I1, q1⟩ => ?_)
  cases c with
  | true => exact ⟨H1, I1, q1⟩
  | false => exact hb wh pins s1 σ H1 Q I1 q1
theorem pt_not (ha : PT X a tA) : PT X (.UnaryOp .Not a pos) (tNot tA) := by
  intro pins s σ H Q I h
  exact isTrue_not (ha pins s σ H (fun c H1 => Q (!c) H1) I h)
def tAndV (ta tb : TE) : TE := fun σ H Q => ta σ H fun x H1 => ∃ c, x = .bl c ∧ if c = true then tb σ H1 Q else Q (.bl false) H1
theorem pe_one {op} {t : TE} (h : PE X a t) : PE X (.BoolOp op [a] pos) t := fun pins s σ H Q I hw => BoolOp_one (h pins s σ H Q I hw)
theorem pe_and (ha : PE X a ta) (hb : PE X (.BoolOp .And (b :: rest) pos) tb) : PE X (.BoolOp .And (a :: b :: rest) pos) (tAndV ta tb) := by
  intro pins s σ H Q I h
  refine BoolOp_and (thn (ha pins s σ H _ I h) fun v s1 ⟨x, H1, I1, r1, q1⟩ => ?_)
  obtain ⟨c, rfl, q1⟩ := q1
  cases r1
  refine wpAny_truthy_bool ?_
  cases c with
  | true => exact hb pins s1 σ H1 Q I1 q1
  | false => exact ⟨.bl false, H1, I1, rfl, q1⟩
def tIf (t : TT) (ta tb : TE) : TE := fun σ H Q => t σ H fun c H1 => if c = true then ta σ H1 Q else tb σ H1 Q
theorem pe_ifExp {c : Expr} (hc : PT X c tA) (ha : PE X a ta) (hb : PE X b tb) : PE X (.IfExp c a b pos) (tIf tA ta tb) := by
  intro pins s σ H Q I h
  refine wpAny_IfExp (thn (hc pins s σ H _ I h) fun d s1 ⟨H1, I1, q1⟩ => ?_)
  cases d with
  | true => exact ha pins s1 σ H1 Q I1 q1
  | false => exact hb pins s1 σ H1 Q I1 q1
end
end L2
namespace L2
open PySem PySem.Spec PyProof.Rows
def SqL (K : PySem.W.Frag) (H : Hp) (a : Addr) (xs : List V) : Prop :=
  Rd H a (.lst xs) ∨
    ∃ (o : Obj) (its : Array Value) (n : Nat), K.lookup a = some o ∧ o.cls = .type "list" ∧ o.dict = none ∧ o.data = .seq its n ∧ its.size ≤ sizeLine ∧ Vals xs its.toList
def SqT (K : PySem.W.Frag) (H : Hp) (a : Addr) (xs : List V) : Prop :=
  Rd H a (.tup xs) ∨
    ∃ (o : Obj) (its : Array Value) (n : Nat), K.lookup a = some o ∧ o.cls = .type "tuple" ∧ o.data = .seq its n ∧ its.size ≤ sizeLine ∧ Vals xs its.toList
def absV : Value → Option V
  | .none => some .non
  | .bool b => some (.bl b)
  | .int i _ => some (.int i)
  | .str x _ => some (.str x)
  | .bytes b _ => some (.byt b)
  | .float b _ => some (.flt b)
  | .ref a => some (.ref a)
  | .type n => some (.ty n)
  | _ => none
theorem RelV.abs {x : V} {u : Value} (r : RelV x u) : absV u = some x := by
  cases x with
  | non => cases r; rfl
  | bl _ => cases r; rfl
  | int _ => obtain ⟨t, rfl⟩ := r; rfl
  | str _ => obtain ⟨t, rfl⟩ := r; rfl
  | byt _ => obtain ⟨t, rfl⟩ := r; rfl
  | flt _ => obtain ⟨t, rfl⟩ := r; rfl
  | ref _ => cases r; rfl
  | ty _ => cases r; rfl
theorem RelV.inj {x y : V} {u : Value} (r : RelV x u) (q : RelV y u) : x = y := Option.some.inj (r.abs.symm.trans q.abs)
theorem Vals.inj : ∀ {xs ys : List V} {us : List Value}, Vals xs us → Vals ys us → xs = ys
  | _, _, _, .nil, .nil => rfl
  | _, _, _, .cons r t, .cons r' t' => by rw [r.inj r', Vals.inj t t']
section
variable {X : Cx} {pins : List (Addr × Obj)} {σ : St} {H : Hp} {s : Shared} {a : Addr} {xs ys : List V}
theorem SqL.of {K : PySem.W.Frag} (h : H a = some (.lst xs)) : SqL K H a xs := .inl (.inl h)
theorem SqT.of {K : PySem.W.Frag} (h : H a = some (.tup xs)) : SqT K H a xs := .inl (.inl h)
theorem Inv.list (I : Inv X pins σ H s) (h : SqL X.K H a xs) : ∃ its : List Value, Vals xs its ∧ PlainL s.heap a its.toArray ∧ xs.length ≤ sizeLine := by
  rcases h with h | ⟨o, its, n, hk, hc, hd, hs, hz, r⟩
  · obtain ⟨z, its, n, r, e⟩ := h.ok I.hok
    exact ⟨its, r, ⟨_, n, e, rfl, rfl, rfl⟩, z⟩
  · refine ⟨its.toList, r, ⟨o, n, I.kIn a o hk, hc, hd, by simpa using hs⟩, ?_⟩
    have e := r.length
    simp only [Array.length_toList] at e
    omega
theorem Inv.tuple (I : Inv X pins σ H s) (h : SqT X.K H a xs) : ∃ its : List Value, Vals xs its ∧ IsTup s.heap a its.toArray ∧ xs.length ≤ sizeLine := by
  rcases h with h | ⟨o, its, n, hk, hc, hs, hz, r⟩
  · obtain ⟨z, its, r, p⟩ := h.ok I.hok
    exact ⟨its, r, p, z⟩
  · refine ⟨its.toList, r, ⟨o, I.kIn a o hk, hc, n, by simpa using hs⟩, ?_⟩
    have e := r.length
    simp only [Array.length_toList] at e
    omega
theorem Inv.list_inj (I : Inv X pins σ H s) (h : SqL X.K H a xs) (h' : SqL X.K H a ys) : xs = ys := by
  obtain ⟨its, r, ⟨o, n, e, _, _, d⟩, _⟩ := I.list h
  obtain ⟨its', r', ⟨o', n', e', _, _, d'⟩, _⟩ := I.list h'
  rw [e] at e'; cases e'
  rw [d] at d'
  injection d' with d1 _
  have : its = its' := by simpa using congrArg Array.toList d1
  subst this
  exact r.inj r'
theorem Inv.tuple_inj (I : Inv X pins σ H s) (h : SqT X.K H a xs) (h' : SqT X.K H a ys) : xs = ys := by
  obtain ⟨its, r, ⟨o, e, _, n, d⟩, _⟩ := I.tuple h
  obtain ⟨its', r', ⟨o', e', _, n', d'⟩, _⟩ := I.tuple h'
  rw [e] at e'; cases e'
  rw [d] at d'
  injection d' with d1 _
  have : its = its' := by simpa using congrArg Array.toList d1
  subst this
  exact r.inj r'
end
abbrev Cx.wish (X : Cx) (E : Value → Shared → Prop) : Cx := { X with xe := E }
abbrev Cx.nox (X : Cx) : Cx := X.wish fun _ _ => False
theorem Cx.Ok.wish {X : Cx} (ok : X.Ok) (E : Value → Shared → Prop) : (X.wish E).Ok :=
  ⟨ok.mod, ok.kind, ok.glob, ok.blt, ok.above, ok.inj, ok.has, ok.cab, ok.hd, ok.frames, ok.stk, ok.exf, ok.bs, ok.bsz, ok.noex, ok.exfs, ok.funs, ok.frf⟩
theorem Cx.Ok.unwish {X : Cx} {E : Value → Shared → Prop} (ok : (X.wish E).Ok) : X.Ok :=
  ⟨ok.mod, ok.kind, ok.glob, ok.blt, ok.above, ok.inj, ok.has, ok.cab, ok.hd, ok.frames, ok.stk, ok.exf, ok.bs, ok.bsz, ok.noex, ok.exfs, ok.funs, ok.frf⟩
section
variable {X : Cx} {pins : List (Addr × Obj)} {σ : St} {H : Hp} {s : Shared} {E : Value → Shared → Prop}
theorem Inv.wish (I : Inv X pins σ H s) (E : Value → Shared → Prop) : Inv (X.wish E) pins σ H s := ⟨I.ok.wish E, I.os, I.bare, I.base, I.loc, I.cell, I.free, I.freeC, I.pin, I.hok, I.len⟩
theorem Inv.unwish (I : Inv (X.wish E) pins σ H s) : Inv X pins σ H s := ⟨I.ok.unwish, I.os, I.bare, I.base, I.loc, I.cell, I.free, I.freeC, I.pin, I.hok, I.len⟩
theorem SP.unwish {D : Ends} {f : Flow} {s' : Shared} (h : SP (X.wish E) pins D f s') : SP X pins D f s' := by
  cases f with
  | next => obtain ⟨σ', H', I, q⟩ := h; exact ⟨σ', H', I.unwish, q⟩
  | brk => obtain ⟨σ', H', I, q⟩ := h; exact ⟨σ', H', I.unwish, q⟩
  | cont => obtain ⟨σ', H', I, q⟩ := h; exact ⟨σ', H', I.unwish, q⟩
  | ret u => obtain ⟨v, σ', H', I, r, q⟩ := h; exact ⟨v, σ', H', I.unwish, r, q⟩
theorem PSs.nox {st : List Stmt} {t : TS} (h : PSs X.nox st t) : PSs X st t := fun pins s σ H D I hw =>
  wpAny_mono (h pins s σ H D (I.wish _) hw) (fun _ _ q => q.unwish) fun _ _ z => False.elim z
end
section
variable {X : Cx} {st : Stmt} {rest : List Stmt} {t u : TS} {e : Expr} {te : TE} {pos : Pos}
def tNext : TS := fun D σ H => D.nx σ H
def tSeq (t u : TS) : TS := fun D σ H => t { D with nx := u D } σ H
theorem pss_nil : PSs X [] tNext := fun _ _ σ H _ I h => wpAny_execs_nil ⟨σ, H, I, h⟩
theorem pss_cons (h1 : PS X st t) (h2 : PSs X rest u) : PSs X (st :: rest) (tSeq t u) := by
  intro pins s σ H D I h
  refine wpAny_execs_cons (thn (h1 pins s σ H { D with nx := u D } I h) fun f s1 q => ?_)
  cases f with
  | next =>
    obtain ⟨σ', H', I', q⟩ := q
    exact h2 pins s1 σ' H' D I' q
  | ret v => exact q
  | brk => exact q
  | cont => exact q
theorem pss_one (h1 : PS X st t) : PSs X [st] t := by
  intro pins s σ H D I h
  refine wpAny_execs_cons (thn (h1 pins s σ H D I h) fun f s1 q => ?_)
  cases f with
  | next => exact wpAny_execs_nil q
  | ret v => exact q
  | brk => exact q
  | cont => exact q
theorem Inv.quiet {pins : List (Addr × Obj)} {σ : St} {H : Hp} {s : Shared} (I : Inv X pins σ H s) : interactive X.env = false := by simp [interactive, I.ok.kind]
def tDrop (te : TE) : TS := fun D σ H => te σ H fun _ H1 => D.nx σ H1
theorem ps_expr (he : PE X e te) (hs : swapsWith e none pos.line X.env = pure false := by rfl) : PS X (.Expr e pos) (tDrop te) := by
  intro pins s σ H D I h
  exact wpAny_Expr_any (thn (he pins s σ H _ I h) fun v s1 ⟨x, H1, I1, r1, q1⟩ => ⟨σ, H1, I1, q1⟩) I.quiet hs
def tRet (te : TE) : TS := fun D σ H => te σ H D.rt
theorem ps_ret (he : PE X e te) : PS X (.Return (some e) pos) (tRet te) := by
  intro pins s σ H D I h
  exact wpAny_Return_some (thn (he pins s σ H _ I h) fun v s1 ⟨x, H1, I1, r1, q1⟩ => ⟨x, σ, H1, I1, r1, q1⟩)
def tIfS (c : TT) (t u : TS) : TS := fun D σ H => c σ H fun b H1 => if b = true then t D σ H1 else u D σ H1
theorem ps_if {c : Expr} {a b : List Stmt} {tc : TT} (hc : PT X c tc) (ha : PSs X a t) (hb : PSs X b u) : PS X (.If c a b pos) (tIfS tc t u) := by
  intro pins s σ H D I h
  refine wpAny_If (thn (hc pins s σ H _ I h) fun d s1 ⟨H1, I1, q1⟩ => ?_)
  cases d with
  | true => exact ha pins s1 σ H1 D I1 q1
  | false => exact hb pins s1 σ H1 D I1 q1
end
abbrev TG := V → St → Hp → (St → Hp → Prop) → Prop
abbrev TGs := List V → St → Hp → (St → Hp → Prop) → Prop
def PG (X : Cx) (target : Expr) (t : TG) : Prop :=
  ∀ (pins : List (Addr × Obj)) (s : Shared) (σ : St) (H : Hp) (v : V) (u : Value) (Q : St → Hp → Prop), Inv X pins σ H s → RelV v u → t v σ H Q →
    wpAny (model X.prog X.w) X.A (assign target X.env u) (fun _ s' => ∃ σ' H', Inv X pins σ' H' s' ∧ Q σ' H') X.xe s
def PGs (X : Cx) (ts : List Expr) (t : TGs) : Prop :=
  ∀ (pins : List (Addr × Obj)) (s : Shared) (σ : St) (H : Hp) (vs : List V) (us : List Value) (Q : St → Hp → Prop), Inv X pins σ H s → Vals vs us → t vs σ H Q →
    wpAny (model X.prog X.w) X.A (assignInOrder ((assignEach ts X.env).map (·.2)) us) (fun _ s' => ∃ σ' H', Inv X pins σ' H' s' ∧ Q σ' H') X.xe s
abbrev TSet := V → V → V → Hp → (Hp → Prop) → Prop
def PSet (X : Cx) (t : TSet) : Prop :=
  ∀ (pins : List (Addr × Obj)) (s : Shared) (σ : St) (H : Hp) (o i v : V) (ov iv u : Value) (Q : Hp → Prop), Inv X pins σ H s → RelV o ov → RelV i iv → RelV v u → t o i v H Q →
    wpAny (model X.prog X.w) X.A (setItem ov iv u) (fun _ s' => ∃ H', Inv X pins σ H' s' ∧ Q H') X.xe s
section
variable {X : Cx} {pos : Pos}
def gName (i : Nat) : TG := fun v σ H Q => Q (σ.set i (some v)) H
theorem pg_name {i : Nat} {x : Str} (hN : X.N.Nodup) (hi : X.N[i]? = some x) (hx : Loc X.env.scope x) (hf : X.fn x = true ∨ X.env.scope.names.lookup x = some .local := by first | exact .inl rfl | exact .inr rfl | assumption) : PG X (.Name x pos) (gName i) := by
  intro pins s σ H v u Q I r h
  exact wpAny_assign_Name (store_ok I hN hi hx r (fun s' I' => ⟨_, H, I', h⟩) hf)
def gNil : TGs := fun vs σ H Q => vs = [] ∧ Q σ H
def gCons (t : TG) (u : TGs) : TGs := fun vs σ H Q => ∃ v r, vs = v :: r ∧ t v σ H fun σ' H' => u r σ' H' Q
theorem pgs_nil : PGs X [] gNil := by
  intro pins s σ H vs us Q I r h
  obtain ⟨e, h⟩ := h
  subst e
  cases r
  exact assignInOrder_nil ⟨σ, H, I, h⟩
theorem pgs_cons {e : Expr} {es : List Expr} {t : TG} {u : TGs} (h1 : PG X e t) (h2 : PGs X es u)
    (hs : (assignEach (e :: es) X.env).map (·.2) = assign e X.env :: (assignEach es X.env).map (·.2) := by rfl) : PGs X (e :: es) (gCons t u) := by
  intro pins s σ H vs us Q I r h
  obtain ⟨v, vr, e1, h⟩ := h
  subst e1
  cases r with
  | cons r rr =>
    rw [hs]
    refine assignInOrder_cons (thn (h1 pins s σ H _ _ _ I r h) fun _ s1 ⟨σ1, H1, I1, q1⟩ => ?_)
    exact h2 pins s1 σ1 H1 _ _ Q I1 rr q1
def gTup (K : PySem.W.Frag) (n : Nat) (t : TGs) : TG := fun v σ H Q => ∃ a xs, v = .ref a ∧ SqT K H a xs ∧ xs.length = n ∧ t xs σ H Q
theorem pg_tup {es : List Expr} {k : Nat} {t : TGs} {n : Nat} (hc : X.calm = true) (h : PGs X es t)
    (hn : (assignEach es X.env).length = n := by rfl) (hst : (assignEach es X.env).findIdx? (·.1) = none := by rfl) : PG X (.Tuple es k pos) (gTup X.K n t) := by
  intro pins s σ H v u Q I r hw
  obtain ⟨a, xs, e1, hq, hl, hw⟩ := hw
  subst e1
  cases r
  obtain ⟨its, rv, ht, hz⟩ := I.tuple hq
  refine assign_Tuple_tuple (I.ok.hd hc) ht (by simp [hn, ← hl, rv.length]) hst fun h' hx => ?_
  have I1 : Inv X pins σ H { s with heap := h' } := I.kept (t' := s.toks) fun b o e => hx b o (Nat.ne_of_lt (Heap.lt_size e)) e
  exact h pins _ σ H xs _ Q I1 (by simpa using rv) hw
def gSub (to ti : TE) (t : TSet) : TG := fun v σ H Q => to σ H fun o H1 => ti σ H1 fun i H2 => t o i v H2 fun H3 => Q σ H3
theorem pg_sub {o i : Expr} {to ti : TE} {t : TSet} (ho : PE X o to) (hi : PE X i ti) (hs : PSet X t)
    (ha : ∀ v, assign (.Subscript o i pos) X.env v = (do
      let ov ← holding [v] (eval o X.env)
      let iv ← holding [v, ov] (eval i X.env)
      standAt pos
      holding [v, ov, iv] (setItem ov iv v)
      release [v, ov, iv] []) := by intro _; rfl) : PG X (.Subscript o i pos) (gSub to ti t) := by
  intro pins s σ H v u Q I r h
  rw [ha]
  refine wpAny_bind (wpAny_holding (thn (ho pins s σ H _ I h) fun ov s1 ⟨x, H1, I1, r1, q1⟩ => ?_))
  refine wpAny_bind (wpAny_holding (thn (hi pins s1 σ H1 _ I1 q1) fun iv s2 ⟨y, H2, I2, r2, q2⟩ => ?_))
  refine wpAny_bind (wpAny_standAt (wpAny_bind (wpAny_holding (thn (hs pins s2 σ H2 x y v ov iv u _ I2 r1 r2 r q2) fun _ s3 ⟨H3, I3, q3⟩ => ?_))))
  exact wpAny_release ⟨σ, H3, I3, q3⟩
def tAsg (te : TE) (g : TG) : TS := fun D σ H => te σ H fun x H1 => g x σ H1 D.nx
theorem ps_asg {tg e : Expr} {te : TE} {g : TG} (he : PE X e te) (hg : PG X tg g) (hs : swapsWithSole [tg] e pos.line X.env = pure false := by rfl) (hw : swappedStores [tg] e X.env = pure none := by rfl)
    (h1 : (assignEach [tg] X.env).map (·.2) = [assign tg X.env] := by rfl) : PS X (.Assign [tg] e pos) (tAsg te g) := by
  intro pins s σ H D I h
  refine wpAny_Assign_stores (thn (he pins s σ H _ I h) fun v s1 ⟨x, H1, I1, r1, q1⟩ => ?_) hs hw
  rw [h1]
  exact thn (hg pins s1 σ H1 x v _ I1 r1 q1) fun _ s2 q => q
theorem ps_set {i : Nat} {x : Str} {e : Expr} {te : TE} {pos' : Pos} (hN : X.N.Nodup) (hi : X.N[i]? = some x) (hx : Loc X.env.scope x) (he : PE X e te) (hs : swapsWith e (some (.Name x pos')) pos.line X.env = pure false := by rfl) (hf : X.fn x = true ∨ X.env.scope.names.lookup x = some .local := by first | exact .inl rfl | exact .inr rfl | assumption) :
    PS X (.Assign [.Name x pos'] e pos) (tAsg te (gName i)) := by
  intro pins s σ H D I h
  refine wpAny_Assign_Name (thn (he pins s σ H _ I h) fun v s1 ⟨y, H1, I1, r1, q1⟩ => ?_) hs
  exact store_ok I1 hN hi hx r1 (fun s2 I2 => ⟨_, H1, I2, q1⟩) hf
end
structure It where
  go : Nat → Hp → Prop
  yld : Nat → Hp → V → Hp → Prop
  stop : Nat → Hp → Prop
def FpOk (X : Cx) (pins : List (Addr × Obj)) (H : Hp) (b : Addr) : Prop :=
  H b = none ∧ b ≠ X.env.locals ∧ b ∉ X.fs ∧ (b ∈ X.ex ∨ X.s₀.heap.objs.size ≤ b) ∧ (∀ x c, X.env.cells.lookup x = some c → c ≠ b) ∧ ∀ p ∈ X.pn ++ pins, p.1 ≠ b
theorem Inv.fpOk {X : Cx} {pins : List (Addr × Obj)} {σ : St} {H H' : Hp} {s : Shared} {b : Addr} (I : Inv X pins σ H s) (hb : s.heap.objs.size ≤ b) (hn : H' b = none) : FpOk X pins H' b := by
  refine ⟨hn, Nat.ne_of_gt (Nat.lt_of_lt_of_le I.lt hb), I.nofs hb, .inr (Nat.le_trans I.sz hb), fun x c e z => ?_, fun p hp z => ?_⟩
  · obtain ⟨v, q⟩ := I.cell x c e
    exact absurd (Nat.lt_of_lt_of_le q.lt (by rw [z]; exact hb)) (Nat.lt_irrefl _)
  · exact absurd (Nat.lt_of_lt_of_le (Heap.lt_size (I.pin p hp).1) (by rw [z]; exact hb)) (Nat.lt_irrefl _)
structure Turn (P : Program) (w : World) (K : PySem.W.Frag) (tg : Expr) (J : It) (fp : List Addr) (it : Addr) (tn : Nat → Heap → Prop) : Prop where
  mem : it ∈ fp
  obj : ∀ i h, tn i h → ∀ b ∈ fp, ∃ o, h.get? b = some o ∧ ∀ v, o.data ≠ .cell v
  keep : ∀ i h h', tn i h → (∀ b ∈ fp, ∀ o, h.get? b = some o → h'.get? b = some o) → tn i h'
  item : ∀ (X : Cx), X.prog = P → X.w = w → X.K = K → X.calm = true → ∀ (i : Nat) (pins : List (Addr × Obj)) (s : Shared) (σ : St) (H : Hp) (E : Value → Shared → Prop), Inv X pins σ H s → (∀ b ∈ fp, FpOk X pins H b) → tn i s.heap → J.go i H →
    wpAny (model P w) X.A (pyNext (.ref it)) (fun r s1 => ∃ u, r = some u ∧
      wpAny (model P w) X.A (letOwnedTupleGo tg (.ref it) u) (fun _ s2 => ∃ x H', Inv X pins σ H' s2 ∧ RelV x u ∧ J.yld i H x H' ∧ tn (i + 1) s2.heap ∧ ∀ b ∈ fp, H' b = none) E s1) E s
  done : ∀ (X : Cx), X.prog = P → X.w = w → X.K = K → X.calm = true → ∀ (i : Nat) (pins : List (Addr × Obj)) (s : Shared) (σ : St) (H : Hp) (E : Value → Shared → Prop), Inv X pins σ H s → (∀ b ∈ fp, FpOk X pins H b) → tn i s.heap → J.stop i H →
    wpAny (model P w) X.A (pyNext (.ref it)) (fun r s1 => r = none ∧ Inv X pins σ H s1) E s
  self : ∀ (A : Around) (i : Nat) (s : Shared) (Q : Value → Shared → Prop) (E : Value → Shared → Prop), tn i s.heap → Q (.ref it) s → wpAny (model P w) A (pyIter (.ref it)) Q E s
abbrev TI := St → Hp → (It → Hp → Prop) → Prop
def PIE (X : Cx) (pins : List (Addr × Obj)) (σ : St) (tg : Expr) (R : It → Hp → Prop) (itv : Value) (s2 : Shared) : Prop :=
  ∃ (it : Addr) (fp : List Addr) (tn : Nat → Heap → Prop) (J : It) (H' : Hp), itv = .ref it ∧ Inv X pins σ H' s2 ∧ Turn X.prog X.w X.K tg J fp it tn ∧ tn 0 s2.heap ∧ (∀ b ∈ fp, FpOk X pins H' b) ∧ R J H'
def PI (X : Cx) (tg iter : Expr) (wi : TI) : Prop :=
  ∀ (pins : List (Addr × Obj)) (s : Shared) (σ : St) (H : Hp) (R : It → Hp → Prop), Inv X pins σ H s → wi σ H R →
    wpAny (model X.prog X.w) X.A (eval iter X.env) (fun v s1 => wpAny (model X.prog X.w) X.A (pyIter v) (PIE X pins σ tg R) X.xe s1) X.xe s
theorem go_of {M : Model} {A : Around} {E : Value → Shared → Prop} {s : Shared} {tg : Expr} {it : Addr} {u : Value} {o : Obj} {n : String} {vs : Array Value} {Q : Unit → Shared → Prop} (ho : s.heap.get? it = some o) (hc : o.cls = .type n) (hd : o.data = .fields vs)
    (hn : ["enumerate", "zip", "dict_itemiterator", "dict_reverseitemiterator", "odict_iterator", "itertools.zip_longest", "itertools.pairwise"].contains n = false) (hQ : Q () s) : wpAny M A (letOwnedTupleGo tg (.ref it) u) Q E s := by
  unfold letOwnedTupleGo
  cases tg <;> first
    | exact wpAny_pure hQ
    | (cases u <;> first
        | exact wpAny_pure hQ
        | (refine wpAny_bind (wpAny_load ho ?_)
           rw [hc, hd]
           show wpAny M A (if (["enumerate", "zip", "dict_itemiterator", "dict_reverseitemiterator", "odict_iterator", "itertools.zip_longest", "itertools.pairwise"].contains n && vs[0]? == some (rawInt _)) = true then _ else _) Q E s
           rw [if_neg (by intro h; rw [hn, Bool.false_and] at h; cases h)]
           exact wpAny_pure hQ))
def Itl (K : PySem.W.Frag) (a : Addr) : It :=
  ⟨fun i H => ∃ xs x, SqL K H a xs ∧ xs[i]? = some x, fun i H x H' => H' = H ∧ ∀ xs, SqL K H a xs → xs[i]? = some x, fun i H => ∃ xs, SqL K H a xs ∧ xs.length ≤ i⟩
def Itt (K : PySem.W.Frag) (a : Addr) : It :=
  ⟨fun i H => ∃ xs x, SqT K H a xs ∧ xs[i]? = some x, fun i H x H' => H' = H ∧ ∀ xs, SqT K H a xs → xs[i]? = some x, fun i H => ∃ xs, SqT K H a xs ∧ xs.length ≤ i⟩
def Itr (lo : Int) (n : Nat) : It := ⟨fun i _ => i < n, fun i H x H' => H' = H ∧ x = .int (lo + i), fun i _ => n ≤ i⟩
theorem turn_list {P : Program} {w : World} {K : PySem.W.Frag} {tg : Expr} (a it : Addr) : Turn P w K tg (Itl K a) [it] it (fun i h => h.IsListIter it a i) where
  mem := by simp
  obj := fun i h st b hb => by
    have e : b = it := by simpa using hb
    subst e
    obtain ⟨o, e, c, d⟩ := st
    exact ⟨o, e, fun v z => by rw [d] at z; cases z⟩
  keep := fun i h h' st k => st.at fun o e => k it (by simp) o e
  item := by
    intro X hP hw hK hc i pins s σ H E I hf st hg
    subst hP hw hK
    obtain ⟨xs, x, hq, hx⟩ := hg
    obtain ⟨its, rv, p, hz⟩ := I.list hq
    obtain ⟨u, hu, ru⟩ := rv.get hx
    obtain ⟨f0, f1, f2, f3, f4, f5⟩ := hf it (by simp)
    refine wpAny_pyNext_list_item st p.isList (x := u) (by simpa using hu) fun h' st' sb => ?_
    have I1 : Inv X pins σ H { s with heap := h' } := I.turned (t' := s.toks) (fun b o hb e => (sb.2 b hb).trans e) f0 f1 f3 f4 f5
    obtain ⟨o, e, c, d⟩ := id st'
    exact ⟨u, rfl, go_of (s := { s with heap := h' }) e c d (by decide) ⟨x, H, I1, ru, ⟨rfl, fun ys hy => by rw [I.list_inj hy hq]; exact hx⟩, st', fun b hb => (hf b hb).1⟩⟩
  done := by
    intro X hP hw hK hc i pins s σ H E I hf st hg
    subst hP hw hK
    obtain ⟨xs, hq, hx⟩ := hg
    obtain ⟨its, rv, p, hz⟩ := I.list hq
    obtain ⟨f0, f1, f2, f3, f4, f5⟩ := hf it (by simp)
    have hl := rv.length
    exact wpAny_pyNext_list_end (I.ok.hd hc) st p.isList (by simp; omega) fun h' eb => ⟨rfl, I.turned (t' := s.toks) (fun b o hb e => eb b o hb e) f0 f1 f3 f4 f5⟩
  self := fun _ _ _ _ _ st h => wpAny_pyIter_listiter st h
theorem turn_tuple {P : Program} {w : World} {K : PySem.W.Frag} {tg : Expr} (a it : Addr) : Turn P w K tg (Itt K a) [it] it (fun i h => h.IsTupleIter it a i) where
  mem := by simp
  obj := fun i h st b hb => by
    have e : b = it := by simpa using hb
    subst e
    obtain ⟨o, e, c, d⟩ := st
    exact ⟨o, e, fun v z => by rw [d] at z; cases z⟩
  keep := fun i h h' st k => st.at fun o e => k it (by simp) o e
  item := by
    intro X hP hw hK hc i pins s σ H E I hf st hg
    subst hP hw hK
    obtain ⟨xs, x, hq, hx⟩ := hg
    obtain ⟨its, rv, p, hz⟩ := I.tuple hq
    obtain ⟨u, hu, ru⟩ := rv.get hx
    obtain ⟨f0, f1, f2, f3, f4, f5⟩ := hf it (by simp)
    refine wpAny_pyNext_tuple_item st (show s.heap.IsTuple a its.toArray from p) (x := u) (by simpa using hu) fun h' st' sb => ?_
    have I1 : Inv X pins σ H { s with heap := h' } := I.turned (t' := s.toks) (fun b o hb e => (sb.2 b hb).trans e) f0 f1 f3 f4 f5
    obtain ⟨o, e, c, d⟩ := id st'
    exact ⟨u, rfl, go_of (s := { s with heap := h' }) e c d (by decide) ⟨x, H, I1, ru, ⟨rfl, fun ys hy => by rw [I.tuple_inj hy hq]; exact hx⟩, st', fun b hb => (hf b hb).1⟩⟩
  done := by
    intro X hP hw hK hc i pins s σ H E I hf st hg
    subst hP hw hK
    obtain ⟨xs, hq, hx⟩ := hg
    obtain ⟨its, rv, p, hz⟩ := I.tuple hq
    obtain ⟨f0, f1, f2, f3, f4, f5⟩ := hf it (by simp)
    have hl := rv.length
    exact wpAny_pyNext_tuple_end (I.ok.hd hc) st (show s.heap.IsTuple a its.toArray from p) (by simp; omega) fun h' eb => ⟨rfl, I.turned (t' := s.toks) (fun b o hb e => eb b o hb e) f0 f1 f3 f4 f5⟩
  self := fun _ _ _ _ _ st h => wpAny_pyIter_tupleiter st h
theorem turn_range {P : Program} {w : World} {K : PySem.W.Frag} {tg : Expr} (it : Addr) (lo : Int) (n : Nat) : Turn P w K tg (Itr lo n) [it] it (fun i h => IsRangeIter h it (lo + (i : Nat) * 1) ((n : Int) - (i : Nat)) 1) where
  mem := by simp
  obj := fun i h st b hb => by
    have e : b = it := by simpa using hb
    subst e
    exact ⟨_, st, fun v z => by
      have z' : Data.fields _ = Data.cell v := z
      cases z'⟩
  keep := fun i h h' st k => k it (by simp) _ st
  item := by
    intro X hP hw hK hc i pins s σ H E I hf st hg
    subst hP hw hK
    obtain ⟨f0, f1, f2, f3, f4, f5⟩ := hf it (by simp)
    have W := Walks.range (prog := X.prog) (w := X.w) (I.ok.hd hc) it lo 1 n
    refine W.item i s _ _ hg st fun v h' tk hv st' kk => ?_
    obtain ⟨t, rfl⟩ := hv
    have I1 : Inv X pins σ H { s with heap := h', toks := tk } := I.turned (fun b o hb e => kk b o (by simpa using hb) e) f0 f1 f3 f4 f5
    refine ⟨_, rfl, go_of (s := { s with heap := h', toks := tk }) (n := "range_iterator") st' rfl rfl (by decide) ⟨.int (lo + i), H, I1, ⟨t, ?_⟩, ⟨rfl, rfl⟩, st', fun b hb => (hf b hb).1⟩⟩
    rw [Int.mul_one]
  done := by
    intro X hP hw hK hc i pins s σ H E I hf st hg
    subst hP hw hK
    obtain ⟨f0, f1, f2, f3, f4, f5⟩ := hf it (by simp)
    exact wpAny_pyNext_range_end (I.ok.hd hc) st (by have : n ≤ i := hg; omega) fun h' eb => ⟨rfl, I.turned (t' := s.toks) (fun b o hb e => eb b o hb e) f0 f1 f3 f4 f5⟩
  self := fun _ _ _ _ _ st h => wpAny_pyIter_rangeiter st h
end L2
namespace L2
open PySem PySem.Spec PyProof.Rows
section
variable {X : Cx} {tg : Expr}
theorem range_it {pins : List (Addr × Obj)} {σ : St} {H : Hp} {s : Shared} {R : It → Hp → Prop} {E : Value → Shared → Prop} {lo hi : Int} {t u v : Tok} {tk : Nat} (I : Inv X pins σ H s) (h1 : -(2 ^ 62) ≤ lo) (h2 : lo < 2 ^ 62) (h3 : -(2 ^ 62) ≤ hi) (h4 : hi < 2 ^ 62)
    (q : R (Itr lo (hi - lo).toNat) H) : wpAny (model X.prog X.w) X.A (pyIter (.ref s.heap.objs.size)) (PIE X pins σ tg R) E { s with heap := s.heap.push { cls := .type "range", data := .fields #[.int lo t, .int hi u, .int 1 v] }, toks := tk } := by
  refine wpAny_pyIter_range (IsRange.new ..) (small_one h1 h2 h3 h4) ?_
  have I1 : Inv X pins σ H { s with heap := s.heap.push { cls := .type "range", data := .fields #[.int lo t, .int hi u, .int 1 v] }, toks := tk } := I.kept fun b o e => Heap.get?_push_of_some _ e
  refine ⟨(s.heap.push { cls := .type "range", data := .fields #[.int lo t, .int hi u, .int 1 v] }).objs.size, [(s.heap.push { cls := .type "range", data := .fields #[.int lo t, .int hi u, .int 1 v] }).objs.size], _, _, H, rfl,
    I1.kept (t' := tk) fun b o e => Heap.get?_push_of_some _ e, turn_range _ lo (hi - lo).toNat, ?_, fun b hb => ?_, q⟩
  · have e1 : lo + ((0 : Nat) : Int) * 1 = lo := by simp
    have e2 : (((hi - lo).toNat : Nat) : Int) - ((0 : Nat) : Int) = Builtin.Range.rangeSize lo hi 1 := by rw [rangeSize_one]; split <;> omega
    show IsRangeIter _ _ (lo + ((0 : Nat) : Int) * 1) ((((hi - lo).toNat : Nat) : Int) - ((0 : Nat) : Int)) 1
    rw [e1, e2]
    exact Heap.get?_push_size _ rfl
  · have e : b = (s.heap.push { cls := .type "range", data := .fields #[.int lo t, .int hi u, .int 1 v] }).objs.size := by simpa using hb
    subst e
    exact I1.fpOk (Nat.le_refl _) (I1.hok.fresh (Nat.le_refl _))
def iRng1 (ta : TA) : TI := fun σ H R => ta σ H fun vs H1 => ∃ j : Int, vs = [.int j] ∧ -(2 ^ 62) ≤ j ∧ j < 2 ^ 62 ∧ R (Itr 0 j.toNat) H1
def iRng2 (ta : TA) : TI := fun σ H R => ta σ H fun vs H1 => ∃ i j : Int, vs = [.int i, .int j] ∧ (-(2 ^ 62) ≤ i ∧ i < 2 ^ 62 ∧ -(2 ^ 62) ≤ j ∧ j < 2 ^ 62) ∧ R (Itr i (j - i).toNat) H1
theorem pi_range1 {a : Expr} {ta : TA} {p pos : Pos} (hg : Gl X "range") (hm : X.mg "range" = none) (ha : PA X [a] ta) (hs : starEach [a] X.env = [(false, eval a X.env)] := by rfl) : PI X tg (.Call (.Name "range" p) [a] [] pos) (iRng1 ta) := by
  intro pins s σ H R I h
  refine Call_ (ld_blt I hg hm boot_range (PyProof.Rows.callWith_type1 (thn (ha pos pins s σ H _ I h) fun us s1 ⟨vs, H1, I1, r1, q1⟩ => ?_) hs rfl))
  obtain ⟨j, e, q1, q2, q⟩ := q1
  subst e
  cases r1 with
  | cons r rr =>
    cases rr
    obtain ⟨t, rfl⟩ := r
    exact call_range_1 (range_it I1 (by omega) (by omega) q1 q2 (by simpa using q))
theorem pi_range2 {a b : Expr} {ta : TA} {p pos : Pos} (hg : Gl X "range") (hm : X.mg "range" = none) (ha : PA X [a, b] ta) (hs : starEach [a, b] X.env = [(false, eval a X.env), (false, eval b X.env)] := by rfl) (hs2 : starEach [b] X.env = [(false, eval b X.env)] := by rfl) :
    PI X tg (.Call (.Name "range" p) [a, b] [] pos) (iRng2 ta) := by
  intro pins s σ H R I h
  refine Call_ (ld_blt I hg hm boot_range (PyProof.Rows.callWith_type1 (thn (ha pos pins s σ H _ I h) fun us s1 ⟨vs, H1, I1, r1, q1⟩ => ?_) (by rw [hs, hs2]) (by rw [hs2]; rfl)))
  obtain ⟨i, j, e, ⟨q1, q2, q3, q4⟩, q⟩ := q1
  subst e
  cases r1 with
  | cons r rr =>
    cases rr with
    | cons r' rr =>
      cases rr
      obtain ⟨t, rfl⟩ := r
      obtain ⟨t', rfl⟩ := r'
      exact call_range_2 (range_it I1 q1 q2 q3 q4 q)
def tFor (wi : TI) (g : TG) (tb : TS) : TS := fun D σ H => wi σ H fun J H1 => ∃ W : Nat → Nat → St → Hp → Prop, (∃ m, W 0 m σ H1) ∧ ∀ i m σ H, W i m σ H →
  (J.stop i H ∧ D.nx σ H) ∨ (J.go i H ∧ ∃ N : St → Hp → Prop, (∀ σ' H', N σ' H' → ∃ m', m' < m ∧ W (i + 1) m' σ' H') ∧ ∀ x H', J.yld i H x H' → g x σ H' fun σ2 H2 => tb { D with nx := N, ct := N, bk := D.nx } σ2 H2)
def pinsAt (fp : List Addr) (h : Heap) : List (Addr × Obj) := fp.filterMap fun b => (h.get? b).map fun o => (b, o)
theorem mem_pinsAt {fp : List Addr} {h : Heap} {b : Addr} {o : Obj} (hb : b ∈ fp) (e : h.get? b = some o) : (b, o) ∈ pinsAt fp h := List.mem_filterMap.mpr ⟨b, hb, by rw [e]; rfl⟩
theorem of_pinsAt {fp : List Addr} {h : Heap} {p : Addr × Obj} (hp : p ∈ pinsAt fp h) : p.1 ∈ fp ∧ h.get? p.1 = some p.2 := by
  obtain ⟨b, hb, e⟩ := List.mem_filterMap.mp hp
  cases q : h.get? b with
  | none => rw [q] at e; cases e
  | some o =>
    rw [q] at e
    have e' : (b, o) = p := Option.some.inj e
    subst e'
    exact ⟨hb, q⟩
theorem Inv.pinned {pins : List (Addr × Obj)} {σ : St} {H : Hp} {s : Shared} {fp : List Addr} (I : Inv X pins σ H s) (hf : ∀ b ∈ fp, FpOk X pins H b) (ho : ∀ b ∈ fp, ∃ o, s.heap.get? b = some o ∧ ∀ v, o.data ≠ .cell v) : Inv X (pins ++ pinsAt fp s.heap) σ H s :=
  I.pins_of fun p hp => (List.mem_append.mp hp).elim (fun z => I.pin p (List.mem_append_right _ z)) fun z => by
    obtain ⟨hb, e⟩ := of_pinsAt z
    obtain ⟨f0, f1, f2, _⟩ := hf p.1 hb
    obtain ⟨o, e', d⟩ := ho p.1 hb
    rw [e] at e'; cases e'
    exact ⟨e, f0, f1, f2, d⟩
theorem Inv.unpinned {pins pl : List (Addr × Obj)} {σ : St} {H : Hp} {s : Shared} (I : Inv X (pins ++ pl) σ H s) : Inv X pins σ H s := I.pins_of fun p hp => I.pin p (List.mem_append_right _ (List.mem_append_left _ hp))
theorem ps_for {iter : Expr} {body : List Stmt} {wi : TI} {g : TG} {tb : TS} {pos : Pos} (hp : PassesOwn (model X.prog X.w) X.A X.env X.xe) (hc : X.calm = true) (hi : PI X tg iter wi) (hg : PG X tg g) (hb : PSs X body tb)
    (hs : ∀ x, foldedSetIterable iter X.env x = pure x := by intro _; rfl) : PS X (.For tg iter body [] pos) (tFor wi g tb) := by
  intro pins s σ H D I h
  refine wpAny_For (thn (hi pins s σ H _ I h) fun v s1 h1 => thn h1 fun itv s2 h2 => ?_) hs
  obtain ⟨it, fp, tn, J, H2, e, I2, T, st2, f2, W, ⟨m0, w0⟩, turn⟩ := h2
  subst e
  -- what stays true of the iterator's objects through the loop
  have stat : ∀ {H' : Hp}, (∀ b ∈ fp, H' b = none) → ∀ b ∈ fp, FpOk X pins H' b := fun hn b hb => ⟨hn b hb, (f2 b hb).2⟩
  refine codeAny_forLoop_any (fun n s' => ∃ i σ' H', Inv X pins σ' H' s' ∧ tn i s'.heap ∧ (∀ b ∈ fp, H' b = none) ∧ W i n σ' H') ?_ m0 ⟨0, σ, H2, I2, st2, fun b hb => (f2 b hb).1, w0⟩
  rintro n s3 ⟨i, σ3, H3, I3, st3, fr3, w3⟩
  rcases turn i n σ3 H3 w3 with ⟨stop, qn⟩ | ⟨go, N, hN, step⟩
  · refine wpAny_passesOwn hp (thn (T.done X rfl rfl rfl hc i pins s3 σ3 H3 X.xe I3 (stat fr3) st3 stop) fun r s4 ⟨hr, I4⟩ => ?_)
    subst hr
    exact wpAny_execs_nil ⟨σ3, H3, I4, qn⟩
  · refine wpAny_passesOwn hp (thn (T.item X rfl rfl rfl hc i pins s3 σ3 H3 X.xe I3 (stat fr3) st3 go) fun r s4 ⟨u, hr, h4⟩ => ?_)
    subst hr
    refine wpAny_passesOwn hp (thn h4 fun _ s5 ⟨x, H5, I5, r5, y5, st5, fr5⟩ => ?_)
    have I5' := I5.pinned (stat fr5) (T.obj _ _ st5)
    refine wpAny_passesOwn hp (thn (hg _ s5 σ3 H5 x u _ I5' r5 (step x H5 y5)) fun _ s6 ⟨σ6, H6, I6, q6⟩ => ?_)
    refine wpAny_passesOwn hp (thn (hb _ s6 σ6 H6 _ I6 q6) fun f s7 q7 => ?_)
    have again : ∀ {σ7 : St} {H7 : Hp}, Inv X (pins ++ pinsAt fp s5.heap) σ7 H7 s7 → N σ7 H7 → ∃ m, m < n ∧ ∃ i σ' H', Inv X pins σ' H' s7 ∧ tn i s7.heap ∧ (∀ b ∈ fp, H' b = none) ∧ W i m σ' H' := fun {σ7 H7} I7 n7 => by
      obtain ⟨m', hm, w7⟩ := hN σ7 H7 n7
      refine ⟨m', hm, i + 1, σ7, H7, I7.unpinned, T.keep _ _ _ st5 fun b hb o e => (I7.pin (b, o) (List.mem_append_right _ (List.mem_append_right _ (mem_pinsAt hb e)))).1, fun b hb => ?_, w7⟩
      obtain ⟨o, e, d⟩ := T.obj _ _ st5 b hb
      exact (I7.pin (b, o) (List.mem_append_right _ (List.mem_append_right _ (mem_pinsAt hb e)))).2.1
    cases f with
    | next => obtain ⟨σ7, H7, I7, n7⟩ := q7; exact again I7 n7
    | cont => obtain ⟨σ7, H7, I7, n7⟩ := q7; exact again I7 n7
    | brk => obtain ⟨σ7, H7, I7, q7⟩ := q7; exact ⟨σ7, H7, I7.unpinned, q7⟩
    | ret v => obtain ⟨x7, σ7, H7, I7, r7, q7⟩ := q7; exact ⟨x7, σ7, H7, I7.unpinned, r7, q7⟩
end
theorem for_list {K : PySem.W.Frag} {a : Addr} {xs : List V} {g : TG} {tb : TS} {D : Ends} {σ : St} {H : Hp} (Pv : Nat → St → Hp → Prop) (h0 : Pv 0 σ H) (hl : ∀ i σ H, i ≤ xs.length → Pv i σ H → SqL K H a xs)
    (hs : ∀ i x σ H, xs[i]? = some x → Pv i σ H → g x σ H fun σ2 H2 => tb { D with nx := Pv (i + 1), ct := Pv (i + 1), bk := D.nx } σ2 H2) (hd : ∀ σ H, Pv xs.length σ H → D.nx σ H) :
    ∃ W : Nat → Nat → St → Hp → Prop, (∃ m, W 0 m σ H) ∧ ∀ i m σ H, W i m σ H →
      ((Itl K a).stop i H ∧ D.nx σ H) ∨ ((Itl K a).go i H ∧ ∃ N : St → Hp → Prop, (∀ σ' H', N σ' H' → ∃ m', m' < m ∧ W (i + 1) m' σ' H') ∧ ∀ x H', (Itl K a).yld i H x H' → g x σ H' fun σ2 H2 => tb { D with nx := N, ct := N, bk := D.nx } σ2 H2) := by
  refine ⟨fun i m σ H => m = xs.length - i ∧ i ≤ xs.length ∧ Pv i σ H, ⟨xs.length, by simp, Nat.zero_le _, h0⟩, ?_⟩
  rintro i m σ H ⟨rfl, hi, p⟩
  have q := hl i σ H hi p
  by_cases hlt : i < xs.length
  · refine .inr ⟨⟨xs, xs[i], q, by simp [hlt]⟩, Pv (i + 1), fun σ' H' p' => ⟨xs.length - (i + 1), by omega, rfl, hlt, p'⟩, fun x H' y => ?_⟩
    obtain ⟨e, y⟩ := y
    subst e
    exact hs i x σ _ (y xs q) p
  · have e : i = xs.length := by omega
    subst e
    exact .inl ⟨⟨xs, q, Nat.le_refl _⟩, hd σ H p⟩
theorem for_tup {K : PySem.W.Frag} {a : Addr} {xs : List V} {g : TG} {tb : TS} {D : Ends} {σ : St} {H : Hp} (Pv : Nat → St → Hp → Prop) (h0 : Pv 0 σ H) (hl : ∀ i σ H, i ≤ xs.length → Pv i σ H → SqT K H a xs)
    (hs : ∀ i x σ H, xs[i]? = some x → Pv i σ H → g x σ H fun σ2 H2 => tb { D with nx := Pv (i + 1), ct := Pv (i + 1), bk := D.nx } σ2 H2) (hd : ∀ σ H, Pv xs.length σ H → D.nx σ H) :
    ∃ W : Nat → Nat → St → Hp → Prop, (∃ m, W 0 m σ H) ∧ ∀ i m σ H, W i m σ H →
      ((Itt K a).stop i H ∧ D.nx σ H) ∨ ((Itt K a).go i H ∧ ∃ N : St → Hp → Prop, (∀ σ' H', N σ' H' → ∃ m', m' < m ∧ W (i + 1) m' σ' H') ∧ ∀ x H', (Itt K a).yld i H x H' → g x σ H' fun σ2 H2 => tb { D with nx := N, ct := N, bk := D.nx } σ2 H2) := by
  refine ⟨fun i m σ H => m = xs.length - i ∧ i ≤ xs.length ∧ Pv i σ H, ⟨xs.length, by simp, Nat.zero_le _, h0⟩, ?_⟩
  rintro i m σ H ⟨rfl, hi, p⟩
  have q := hl i σ H hi p
  by_cases hlt : i < xs.length
  · refine .inr ⟨⟨xs, xs[i], q, by simp [hlt]⟩, Pv (i + 1), fun σ' H' p' => ⟨xs.length - (i + 1), by omega, rfl, hlt, p'⟩, fun x H' y => ?_⟩
    obtain ⟨e, y⟩ := y
    subst e
    exact hs i x σ _ (y xs q) p
  · have e : i = xs.length := by omega
    subst e
    exact .inl ⟨⟨xs, q, Nat.le_refl _⟩, hd σ H p⟩
theorem for_range {lo : Int} {n : Nat} {g : TG} {tb : TS} {D : Ends} {σ : St} {H : Hp} (Pv : Nat → St → Hp → Prop) (h0 : Pv 0 σ H)
    (hs : ∀ i σ H, i < n → Pv i σ H → g (.int (lo + i)) σ H fun σ2 H2 => tb { D with nx := Pv (i + 1), ct := Pv (i + 1), bk := D.nx } σ2 H2) (hd : ∀ σ H, Pv n σ H → D.nx σ H) :
    ∃ W : Nat → Nat → St → Hp → Prop, (∃ m, W 0 m σ H) ∧ ∀ i m σ H, W i m σ H →
      ((Itr lo n).stop i H ∧ D.nx σ H) ∨ ((Itr lo n).go i H ∧ ∃ N : St → Hp → Prop, (∀ σ' H', N σ' H' → ∃ m', m' < m ∧ W (i + 1) m' σ' H') ∧ ∀ x H', (Itr lo n).yld i H x H' → g x σ H' fun σ2 H2 => tb { D with nx := N, ct := N, bk := D.nx } σ2 H2) := by
  refine ⟨fun i m σ H => m = n - i ∧ i ≤ n ∧ Pv i σ H, ⟨n, by simp, Nat.zero_le _, h0⟩, ?_⟩
  rintro i m σ H ⟨rfl, hi, p⟩
  by_cases hlt : i < n
  · refine .inr ⟨hlt, Pv (i + 1), fun σ' H' p' => ⟨n - (i + 1), by omega, rfl, hlt, p'⟩, fun x H' y => ?_⟩
    obtain ⟨e, y⟩ := y
    subst e y
    exact hs i σ _ hlt p
  · have e : i = n := by omega
    subst e
    exact .inl ⟨Nat.le_refl _, hd σ H p⟩
end L2
namespace L2
open PySem PySem.Spec PyProof.Rows
abbrev R2 := V → V → Hp → VK → Prop
def OpR (X : Cx) (f : Value → Value → Sem Value) (r : R2) : Prop :=
  ∀ (pins : List (Addr × Obj)) (s : Shared) (σ : St) (H : Hp) (x y : V) (v u : Value) (Q : VK), Inv X pins σ H s → RelV x v → RelV y u → r x y H Q →
    wpAny (model X.prog X.w) X.A (f v u) (EP X pins σ Q) X.xe s
def CallR (X : Cx) (f : Value) (r : List V → Hp → VK → Prop) : Prop :=
  ∀ (pins : List (Addr × Obj)) (s : Shared) (σ : St) (H : Hp) (xs : List V) (us : List Value) (Q : VK), Inv X pins σ H s → Vals xs us → r xs H Q →
    wpAny (model X.prog X.w) X.A (call f us) (EP X pins σ Q) X.xe s
def tOp (r : R2) (ta tb : TE) : TE := fun σ H Q => ta σ H fun x H1 => tb σ H1 fun y H2 => r x y H2 Q
def rI (C : Int → Int → Prop) (g : Int → Int → V) : R2 := fun x y H Q => ∃ i j, x = .int i ∧ y = .int j ∧ C i j ∧ Q (g i j) H
def rI0 (g : Int → Int → V) : R2 := fun x y H Q => ∃ i j, x = .int i ∧ y = .int j ∧ Q (g i j) H
section
variable {X : Cx} {a b c : Expr} {ta tb tc : TE} {pos : Pos}
theorem binT (ha : PE X a ta) (hb : PE X b tb) {pins : List (Addr × Obj)} {s : Shared} {σ : St} {H : Hp} {R : V → V → Hp → Prop} (I : Inv X pins σ H s)
    (h : ta σ H fun x H1 => tb σ H1 fun y H2 => R x y H2) {Q : Value → Shared → Prop} {f : Value → Value → Sem Value}
    (hf : ∀ v u s2 x y H2, Inv X pins σ H2 s2 → RelV x v → RelV y u → R x y H2 → wpAny (model X.prog X.w) X.A (f v u) Q X.xe s2) :
    wpAny (model X.prog X.w) X.A (eval a X.env) (fun v s₁ => wpAny (model X.prog X.w) X.A (eval b X.env) (fun u s₂ => wpAny (model X.prog X.w) X.A (f v u) Q X.xe s₂) X.xe s₁) X.xe s := by
  refine thn (ha pins s σ H _ I h) fun v s1 ⟨x, H1, I1, r1, q1⟩ => ?_
  refine thn (hb pins s1 σ H1 _ I1 q1) fun u s2 ⟨y, H2, I2, r2, q2⟩ => ?_
  exact hf v u s2 x y H2 I2 r1 r2 q2
theorem pe_op {op : Operator} {r : R2} (ho : OpR X (binaryOp op) r) (ha : PE X a ta) (hb : PE X b tb) : PE X (.BinOp a op b pos) (tOp r ta tb) := by
  intro pins s σ H Q I h
  exact wpAny_BinOp (binT ha hb I h fun v u s2 x y H2 I2 rx ry q => ho pins s2 σ H2 x y v u Q I2 rx ry q)
theorem opI {f : Value → Value → Sem Value} {C : Int → Int → Prop} {g : Int → Int → Int}
    (rule : ∀ (i j : Int) (t u : Tok) (s : Shared) (Q : Value → Shared → Prop) (E : Value → Shared → Prop), C i j → Q (.int (g i j) s.toks) { s with toks := s.toks + 1 } → wpAny (model X.prog X.w) X.A (f (.int i t) (.int j u)) Q E s) :
    OpR X f (rI C fun i j => .int (g i j)) := by
  intro pins s σ H x y v u Q I rx ry h
  obtain ⟨i, j, rfl, rfl, hc, q⟩ := h
  obtain ⟨t, rfl⟩ := rx
  obtain ⟨t', rfl⟩ := ry
  exact rule i j t t' s _ _ hc ⟨.int (g i j), H, I.tok _, ⟨_, rfl⟩, q⟩
theorem opI0 {f : Value → Value → Sem Value} {g : Int → Int → Int}
    (rule : ∀ (i j : Int) (t u : Tok) (s : Shared) (Q : Value → Shared → Prop) (E : Value → Shared → Prop), Q (.int (g i j) s.toks) { s with toks := s.toks + 1 } → wpAny (model X.prog X.w) X.A (f (.int i t) (.int j u)) Q E s) :
    OpR X f (rI0 fun i j => .int (g i j)) := by
  intro pins s σ H x y v u Q I rx ry h
  obtain ⟨i, j, rfl, rfl, q⟩ := h
  obtain ⟨t, rfl⟩ := rx
  obtain ⟨t', rfl⟩ := ry
  exact rule i j t t' s _ _ ⟨.int (g i j), H, I.tok _, ⟨_, rfl⟩, q⟩
theorem opB0 {f : Value → Value → Sem Value} {g : Int → Int → Bool}
    (rule : ∀ (i j : Int) (t u : Tok) (s : Shared) (Q : Value → Shared → Prop) (E : Value → Shared → Prop), Q (.bool (g i j)) s → wpAny (model X.prog X.w) X.A (f (.int i t) (.int j u)) Q E s) :
    OpR X f (rI0 fun i j => .bl (g i j)) := by
  intro pins s σ H x y v u Q I rx ry h
  obtain ⟨i, j, rfl, rfl, q⟩ := h
  obtain ⟨t, rfl⟩ := rx
  obtain ⟨t', rfl⟩ := ry
  exact rule i j t t' s _ _ ⟨.bl (g i j), H, I, rfl, q⟩
def CDiv (i j : Int) : Prop := 0 < j ∧ j < 1073741824
def CPow (i j : Int) : Prop := 0 ≤ j ∧ j ≤ 1000000 ∧ i.natAbs < 2 ^ 64
def CMul (i j : Int) : Prop := (-(2 ^ 64) < i ∧ i < 2 ^ 64) ∨ (-(2 ^ 64) < j ∧ j < 2 ^ 64)
theorem CMul.ok {i j : Int} (h : CMul i j) : IntMulOk i j := by
  rcases h with ⟨h1, h2⟩ | ⟨h1, h2⟩
  · exact .of_left (intBits_le_64 h1 h2)
  · exact .of_right (intBits_le_64 h1 h2)
theorem op_add : OpR X (binaryOp .Add) (rI0 fun i j => .int (i + j)) := opI0 fun _ _ _ _ _ _ _ q => add_int q
theorem op_sub : OpR X (binaryOp .Sub) (rI0 fun i j => .int (i - j)) := opI0 fun _ _ _ _ _ _ _ q => sub_int q
theorem op_mul : OpR X (binaryOp .Mult) (rI CMul fun i j => .int (i * j)) := opI fun _ _ _ _ _ _ _ hc q => mul_int q hc.ok
theorem op_fdiv : OpR X (binaryOp .FloorDiv) (rI CDiv fun i j => .int (i / j)) := opI fun i j _ _ _ _ _ hc q => by
  have h1 : (0 : Int) < j := hc.1
  have h2 : j < 1073741824 := hc.2
  exact floordiv_int (by omega) (by rw [Int.fdiv_eq_ediv_of_nonneg i (by omega)]; exact q) (.inl (PyProof.noPylong_small (by omega)))
theorem op_mod : OpR X (binaryOp .Mod) (rI (fun _ j => 0 < j) fun i j => .int (i % j)) := opI fun i j _ _ _ _ _ hc q => by
  have h1 : (0 : Int) < j := hc
  exact mod_int' (by omega) (by rw [Int.fmod_eq_emod_of_nonneg i (by omega)]; exact q)
theorem op_pow : OpR X (binaryOp .Pow) (rI CPow fun i j => .int (i ^ j.toNat)) := opI fun _ _ _ _ _ _ _ hc q => pow_int_small hc.1 hc.2.1 hc.2.2 q
end
def scal : V → V → Bool
  | .non, .non => true | .non, .int _ => true | .int _, .non => true | .non, .bl _ => true | .bl _, .non => true | .non, .str _ => true | .str _, .non => true
  | .int _, .int _ => true | .bl _, .bl _ => true | .str _, .str _ => true | .byt _, .byt _ => true
  | .int _, .str _ => true | .str _, .int _ => true | .bl _, .str _ => true | .str _, .bl _ => true
  | _, _ => false
def rEq : R2 := fun x y H Q => scal x y = true ∧ Q (.bl (decide (x = y))) H
def rNe : R2 := fun x y H Q => scal x y = true ∧ Q (.bl (!decide (x = y))) H
theorem dec_int {i j : Int} : decide (V.int i = V.int j) = (i == j) := by
  rw [Bool.eq_iff_iff]
  simp
theorem dec_bl {i j : Bool} : decide (V.bl i = V.bl j) = (i == j) := by
  rw [Bool.eq_iff_iff]
  simp
theorem dec_str {i j : Str} : decide (V.str i = V.str j) = (i == j) := by
  rw [Bool.eq_iff_iff]
  simp
theorem dec_byt {i j : Array UInt8} : decide (V.byt i = V.byt j) = (i.toList == j.toList) := by
  rw [Bool.eq_iff_iff]
  cases i
  cases j
  simp
section
variable {X : Cx} {a b c : Expr} {ta tb tc : TE} {pos : Pos}
theorem fin_bl {pins : List (Addr × Obj)} {σ : St} {H : Hp} {s : Shared} {Q : VK} {k k' : Bool} (I : Inv X pins σ H s) (q : Q (.bl k) H) (e : k = k') : EP X pins σ Q (.bool k') s := by
  subst e
  exact ⟨.bl k, H, I, rfl, q⟩
theorem op_eq : OpR X (compareOp .Eq) rEq := by
  intro pins s σ H x y v u Q I rx ry h
  obtain ⟨hs, q⟩ := h
  cases x with
  | non =>
    cases rx
    cases y with
    | non => cases ry; exact PySem.EqNone.eq_none_none (fin_bl I q (by simp))
    | bl j => cases ry; exact PySem.EqNone.eq_none_bool (fin_bl I q (by simp))
    | int j => obtain ⟨t', rfl⟩ := ry; exact PySem.EqNone.eq_none_int (fin_bl I q (by simp))
    | str j => obtain ⟨t', rfl⟩ := ry; exact PySem.EqNone.eq_none_str (fin_bl I q (by simp))
    | _ => exact absurd (show false = true from hs) Bool.false_ne_true
  | bl i =>
    cases rx
    cases y with
    | non => cases ry; exact PySem.EqNone.eq_bool_none (fin_bl I q (by simp))
    | bl j => cases ry; exact eq_bool (fin_bl I q dec_bl)
    | str j => obtain ⟨t', rfl⟩ := ry; exact PySem.EqMixed.eq_bool_str (fin_bl I q (by simp))
    | _ => exact absurd (show false = true from hs) Bool.false_ne_true
  | int i =>
    obtain ⟨t, rfl⟩ := rx
    cases y with
    | non => cases ry; exact PySem.EqNone.eq_int_none (fin_bl I q (by simp))
    | int j => obtain ⟨t', rfl⟩ := ry; exact eq_int (fin_bl I q dec_int)
    | str j => obtain ⟨t', rfl⟩ := ry; exact PySem.EqMixed.eq_int_str (fin_bl I q (by simp))
    | _ => exact absurd (show false = true from hs) Bool.false_ne_true
  | str i =>
    obtain ⟨t, rfl⟩ := rx
    cases y with
    | non => cases ry; exact PySem.EqNone.eq_str_none (fin_bl I q (by simp))
    | bl j => cases ry; exact PySem.EqMixed.eq_str_bool (fin_bl I q (by simp))
    | int j => obtain ⟨t', rfl⟩ := ry; exact PySem.EqMixed.eq_str_int (fin_bl I q (by simp))
    | str j => obtain ⟨t', rfl⟩ := ry; exact eq_str (fin_bl I q dec_str)
    | _ => exact absurd (show false = true from hs) Bool.false_ne_true
  | byt i =>
    obtain ⟨t, rfl⟩ := rx
    cases y with
    | byt j => obtain ⟨t', rfl⟩ := ry; exact PySem.W.eq_bytes (fin_bl I q dec_byt)
    | _ => exact absurd (show false = true from hs) Bool.false_ne_true
  | _ => cases y <;> exact absurd (show false = true from hs) Bool.false_ne_true
theorem op_ne : OpR X (compareOp .NotEq) rNe := by
  intro pins s σ H x y v u Q I rx ry h
  obtain ⟨hs, q⟩ := h
  cases x with
  | non =>
    cases rx
    cases y with
    | non => cases ry; exact PySem.EqNone.ne_none_none (fin_bl I q (by simp))
    | bl j => cases ry; exact PySem.EqNone.ne_none_bool (fin_bl I q (by simp))
    | int j => obtain ⟨t', rfl⟩ := ry; exact PySem.EqNone.ne_none_int (fin_bl I q (by simp))
    | str j => obtain ⟨t', rfl⟩ := ry; exact PySem.EqNone.ne_none_str (fin_bl I q (by simp))
    | _ => exact absurd (show false = true from hs) Bool.false_ne_true
  | bl i =>
    cases rx
    cases y with
    | non => cases ry; exact PySem.EqNone.ne_bool_none (fin_bl I q (by simp))
    | bl j => cases ry; exact ne_bool (fin_bl I q (congrArg not dec_bl))
    | str j => obtain ⟨t', rfl⟩ := ry; exact PySem.EqMixed.ne_bool_str (fin_bl I q (by simp))
    | _ => exact absurd (show false = true from hs) Bool.false_ne_true
  | int i =>
    obtain ⟨t, rfl⟩ := rx
    cases y with
    | non => cases ry; exact PySem.EqNone.ne_int_none (fin_bl I q (by simp))
    | int j => obtain ⟨t', rfl⟩ := ry; exact ne_int (fin_bl I q (congrArg not dec_int))
    | str j => obtain ⟨t', rfl⟩ := ry; exact PySem.EqMixed.ne_int_str (fin_bl I q (by simp))
    | _ => exact absurd (show false = true from hs) Bool.false_ne_true
  | str i =>
    obtain ⟨t, rfl⟩ := rx
    cases y with
    | non => cases ry; exact PySem.EqNone.ne_str_none (fin_bl I q (by simp))
    | bl j => cases ry; exact PySem.EqMixed.ne_str_bool (fin_bl I q (by simp))
    | int j => obtain ⟨t', rfl⟩ := ry; exact PySem.EqMixed.ne_str_int (fin_bl I q (by simp))
    | str j => obtain ⟨t', rfl⟩ := ry; exact ne_str (fin_bl I q (congrArg not dec_str))
    | _ => exact absurd (show false = true from hs) Bool.false_ne_true
  | byt i =>
    obtain ⟨t, rfl⟩ := rx
    cases y with
    | byt j => obtain ⟨t', rfl⟩ := ry; exact PySem.W.ne_bytes (fin_bl I q (congrArg not dec_byt))
    | _ => exact absurd (show false = true from hs) Bool.false_ne_true
  | _ => cases y <;> exact absurd (show false = true from hs) Bool.false_ne_true
theorem op_lt : OpR X (compareOp .Lt) (rI0 fun i j => .bl (decide (i < j))) := opB0 fun _ _ _ _ _ _ _ q => lt_int q
theorem op_gt : OpR X (compareOp .Gt) (rI0 fun i j => .bl (decide (j < i))) := opB0 fun _ _ _ _ _ _ _ q => gt_int q
theorem op_ge : OpR X (compareOp .GtE) (rI0 fun i j => .bl (decide (j ≤ i))) := opB0 fun _ _ _ _ _ _ _ q => ge_int q
theorem op_lt_str : OpR X (compareOp .Lt) (fun x y H Q => ∃ i j, x = .str i ∧ y = .str j ∧ Q (.bl (decide (i.cps.toList < j.cps.toList))) H) := by
  intro pins s σ H x y v u Q I rx ry h
  obtain ⟨i, j, rfl, rfl, q⟩ := h
  obtain ⟨t, rfl⟩ := rx
  obtain ⟨t', rfl⟩ := ry
  exact lt_str (fin_bl I q rfl)
theorem nomark (b : Expr) {op : CmpOp} (h : op ≠ .In := by decide) (h2 : op ≠ .NotIn := by decide) : behindInMarks op b = false := by
  have e1 : (op == CmpOp.In) = false := by cases op <;> first | rfl | exact absurd rfl h
  have e2 : (op == CmpOp.NotIn) = false := by cases op <;> first | rfl | exact absurd rfl h2
  cases b <;> simp [behindInMarks, e1, e2]
theorem pe_cmpR {op : CmpOp} {r : R2} (ho : OpR X (compareOp op) r) (ha : PE X a ta) (hb : PE X b tb) (hm : behindInMarks op b = false) : PE X (.Compare a [op] [b] pos) (tOp r ta tb) := by
  intro pins s σ H Q I h
  exact wpAny_Compare1 (binT ha hb I h fun v u s2 x y H2 I2 rx ry q => ho pins s2 σ H2 x y v u Q I2 rx ry q) hm
def tTest (t : TE) : TT := fun σ H Q => t σ H fun x H' => ∃ k, x = .bl k ∧ Q k H'
theorem pt_cmpR {op : CmpOp} {r : R2} (ho : OpR X (compareOp op) r) (ha : PE X a ta) (hb : PE X b tb) (hm : behindInMarks op b = false) : PT X (.Compare a [op] [b] pos) (tTest (tOp r ta tb)) := by
  intro pins s σ H Q I h
  refine wpAny_isTrue_Compare1 (thn (ha pins s σ H _ I h) fun v s1 ⟨x, H1, I1, r1, q1⟩ => thn (hb pins s1 σ H1 _ I1 q1) fun u s2 ⟨y, H2, I2, r2, q2⟩ =>
    thn (ho pins s2 σ H2 x y v u _ I2 r1 r2 q2) fun c s3 ⟨z, H3, I3, r3, k, e, q3⟩ => ?_) hm
  subst e
  cases r3
  exact wpAny_truthy_bool ⟨H3, I3, q3⟩
theorem line63 : (sizeLine : Nat) < 2 ^ 63 := by rw [sizeLine_eq]; decide
theorem op_add_str : OpR X (binaryOp .Add) (fun x y H Q => ∃ i j, x = .str i ∧ y = .str j ∧ i.length + j.length ≤ sizeLine ∧ Q (.str (i ++ j)) H) := by
  intro pins s σ H x y v u Q I rx ry h
  obtain ⟨i, j, rfl, rfl, hz, q⟩ := h
  obtain ⟨t, rfl⟩ := rx
  obtain ⟨t', rfl⟩ := ry
  exact add_str (fun t' tk => ⟨.str (i ++ j), H, I.tok _, ⟨_, rfl⟩, q⟩) hz
theorem vals1 {x : V} {us : List Value} (r : Vals [x] us) : ∃ u, us = [u] ∧ RelV x u := by
  cases r with
  | cons r1 r2 => cases r2; exact ⟨_, rfl, r1⟩
theorem vals2 {x y : V} {us : List Value} (r : Vals [x, y] us) : ∃ u w', us = [u, w'] ∧ RelV x u ∧ RelV y w' := by
  cases r with
  | cons r1 r2 =>
    cases r2 with
    | cons r3 r4 => cases r4; exact ⟨_, _, rfl, r1, r3⟩
theorem call_max2 (hc : X.calm = true) : CallR X (.builtin "max") (fun xs H Q => ∃ i j, xs = [.int i, .int j] ∧ Q (.int (if j > i then j else i)) H) := by
  intro pins s σ H xs us Q I r h
  obtain ⟨i, j, rfl, q⟩ := h
  obtain ⟨u, w', rfl, ⟨t, rfl⟩, ⟨t', rfl⟩⟩ := vals2 r
  refine max_two_ints (I.ok.hd hc) fun h' tk k => ⟨_, H, I.kept k, ?_, q⟩
  by_cases hj : j > i
  · rw [if_pos hj, if_pos hj]; exact ⟨_, rfl⟩
  · rw [if_neg hj, if_neg hj]; exact ⟨_, rfl⟩
theorem call_min2 (hc : X.calm = true) : CallR X (.builtin "min") (fun xs H Q => ∃ i j, xs = [.int i, .int j] ∧ Q (.int (if j < i then j else i)) H) := by
  intro pins s σ H xs us Q I r h
  obtain ⟨i, j, rfl, q⟩ := h
  obtain ⟨u, w', rfl, ⟨t, rfl⟩, ⟨t', rfl⟩⟩ := vals2 r
  refine min_two_ints (I.ok.hd hc) fun h' tk k => ⟨_, H, I.kept k, ?_, q⟩
  by_cases hj : j < i
  · rw [if_pos hj, if_pos hj]; exact ⟨_, rfl⟩
  · rw [if_neg hj, if_neg hj]; exact ⟨_, rfl⟩
theorem call_int1 : CallR X (.type "int") (fun xs H Q => (∃ i, xs = [.int i] ∧ Q (.int i) H) ∨ ∃ k, xs = [.bl k] ∧ Q (.int (if k then 1 else 0)) H) := by
  intro pins s σ H xs us Q I r h
  rcases h with ⟨i, rfl, q⟩ | ⟨k, rfl, q⟩
  · obtain ⟨u, rfl, t, rfl⟩ := vals1 r
    exact call_int_int ⟨.int i, H, I, ⟨_, rfl⟩, q⟩
  · obtain ⟨u, rfl, r1⟩ := vals1 r
    cases r1
    exact call_int_bool ⟨.int (if k then 1 else 0), H, I.tok _, ⟨_, rfl⟩, q⟩
end
end L2
namespace L2
open PySem PySem.Spec PyProof.Rows
structure ObjM (h : Heap) (x dx C : Addr) (mA : Str → Option Value) : Prop where
  obj : h.get? x = some (PySem.W.instObj C dx)
  ns : h.Ns1 dx mA
  ne : dx ≠ x
theorem lookIn_ns {h : Heap} {dx : Addr} {mA : Str → Option Value} (n : h.Ns1 dx mA) : ∃ od, h.get? dx = some od ∧ ∀ name, PySem.W.lookIn name od = some (mA name) := by
  obtain ⟨o, es, ep, ho, hd, hk, _, hm⟩ := n
  refine ⟨o, ho, fun name => ?_⟩
  have e := hm name
  unfold nsFind findBy at e
  rw [← Array.find?_toList] at e
  unfold PySem.W.lookIn
  rw [hd]
  dsimp only
  split
  · rename_i y q
    rw [q] at e
    exact congrArg some e
  · rename_i q
    rw [q] at e
    have a : es.toList.any (·.refKey) = false := by
      rw [List.any_eq_false]
      intro y hy
      obtain ⟨z, t, hkey⟩ := hk y (Array.mem_toList_iff.mp hy)
      simp [DictEntry.refKey, hkey]
    have a' : ¬ es.toList.any (·.refKey) = true := by rw [a]; exact Bool.false_ne_true
    rw [if_neg a']
    exact congrArg some e
theorem ObjM.look {h : Heap} {x dx C : Addr} {mA : Str → Option Value} (I : ObjM h x dx C mA) : ∃ od, PySem.W.InstAt h x (PySem.W.instObj C dx) C (some od) ∧ ∀ name, PySem.W.lookIn name od = some (mA name) :=
  let ⟨od, ho, hl⟩ := lookIn_ns I.ns
  ⟨od, ⟨I.obj, rfl, rfl, ho⟩, hl⟩
section
variable {prog : Program} {w : World} {A : Around} {E : Value → Shared → Prop} {s : Shared} {K : PySem.W.Frag} {x dx C f : Addr} {mA : Str → Option Value} {name : Str} {v : Value}
theorem get_map {expr : Bool} {Q : Value → Shared → Prop} (X : K.In s.heap) (I : ObjM s.heap x dx C mA) (hg : PySem.W.plainGet K C name = true) (hh : PySem.W.hasDictIn K C = true)
    (ha : PySem.W.findIn K (.ref C) name = some none) (hv : mA name = some v) (hv' : PySem.W.handedIn v = true) (h : Q v { s with toks := s.toks + 1 }) :
    wpAny (model prog w) A (getAttr (.ref x) name expr) Q E s := by
  obtain ⟨od, J, hl⟩ := I.look
  exact PySem.W.get_value X J (PySem.W.plainGet_of hg).1 (PySem.W.findObj_own hh ha rfl (by rw [hl, hv])) hv' h
theorem get_meth {pl : Sem Bool} {Q : Value × List Value → Shared → Prop} (X : K.In s.heap) (I : ObjM s.heap x dx C mA) (hg : PySem.W.plainGet K C name = true)
    (hf : PySem.W.findIn K (.ref C) name = some (some (.ref f))) (ht : PySem.W.isFn K (.ref f) = true) (hv : mA name = none) (h : Q (.ref f, [.ref x]) s) :
    wpAny (model prog w) A (getMethod (.ref x) name pl) Q E s := by
  obtain ⟨od, J, hl⟩ := I.look
  exact PySem.W.method_fn X J (PySem.W.plainGet_of hg).1 (PySem.W.plainGet_of hg).2 hf (beq_iff_eq.mp ht) (by show (PySem.W.lookIn name od).map (·.isSome) = some false; rw [hl, hv]; rfl) h
theorem set_map {ns : List Str} {Q : Unit → Shared → Prop} (X : K.In s.heap) (I : ObjM s.heap x dx C mA)
    (hs : PySem.W.findIn K (.ref C) "__setattr__" = some (some (.builtin "object.__setattr__"))) (hp : PySem.W.plainOver K C = true) (ht : PySem.W.takerIn K C name = some none) (hh : PySem.W.hasDictIn K C = true)
    (hw : PySem.Within mA ns) (hsz : ns.length ≤ sizeLine)
    (h : ∀ h', ObjM h' x dx C (fun y => if y = name then some v else mA y) → Heap.SameBut dx s.heap h' → Q () { s with heap := h', toks := s.toks + 2 }) :
    wpAny (model prog w) A (setAttr (.ref x) name v) Q E s := by
  obtain ⟨od, J, hl⟩ := I.look
  refine PySem.W.set_plain X J hs (PySem.W.osa_open (s := { s with toks := s.toks + 1 }) (r := none) X J hp ht fun b => ?_)
  obtain ⟨cd, hc, hd'⟩ := PySem.W.any_some hh
  have hx : s.heap.get? x = some ⟨.ref C, some dx, .plain, #[]⟩ := I.obj
  refine wpAny_bind (wpAny_pure (wpAny_bind (wpAny_bind (wpAny_loadPart hx (wpAny_bind (PySem.W.Looks.here (s := { s with toks := s.toks + 1 }) (PySem.W.looks_clsIn X hc) ?_))))))
  rw [hd']
  refine wpAny_pure (a := some dx) (wpAny_bind (wpAny_pure (wpAny_bind ?_)))
  refine wpAny_nsSet1 (s := { s with toks := s.toks + 1 }) I.ns fun h' hn2 hs2 => ?_
  obtain ⟨oD, esD, epD, hoD, hdD, hcD⟩ := hn2.count (PySem.Within.cons name v hw)
  refine wpAny_bind (wpAny_lookBehind hoD (by rw [hdD]; exact pastItsLine_dict (Nat.le_trans hcD (by rw [List.length_cons]; omega))) ?_)
  exact wpAny_pure (h _ ⟨(hs2.2 _ (Ne.symm I.ne)).trans I.obj, hn2, I.ne⟩ hs2)
theorem make_map {R : Result → Shared → Prop} {vs : List Value} {kw : List (Str × Value)} (X : K.In s.heap) (hm : PySem.W.makesIn K C = true)
    (hi : PySem.W.findIn K (.ref C) "__init__" = some (some (.ref f))) (hf : PySem.W.typeIn K (.ref f) = some (.type "function"))
    (h : codeAny (model prog w) (A.under (.builtin "type.__call__" ⟨.ref C :: vs, kw⟩)) (.call (.ref f) ⟨.ref (s.heap.objs.size + 1) :: vs, kw⟩) (PySem.W.InitBack (s.heap.objs.size + 1) R)
      { s with heap := (s.heap.push PySem.W.emptyDict).push (PySem.W.instObj C s.heap.objs.size) }) :
    codeAny (model prog w) A (.call (.ref C) ⟨vs, kw⟩) R s := by
  obtain ⟨hh, g, d, t, os⟩ := s
  exact PySem.W.make_core (PySem.W.makes_of X hm) (PySem.W.looks_findIn X hi) (fun self => PySem.W.bind_fn X self hf) (.inl rfl) h
end
def putF (f : Str) (v : V) : List (Str × V) → List (Str × V)
  | [] => [(f, v)]
  | (g, x) :: r => if g = f then (g, v) :: r else (g, x) :: putF f v r
theorem lookup_putF (f g : Str) (v : V) : ∀ fs : List (Str × V), (putF f v fs).lookup g = if g = f then some v else fs.lookup g
  | [] => by
    show List.lookup g [(f, v)] = _
    by_cases h : g = f
    · have hb : (g == f) = true := beq_iff_eq.mpr h
      simp only [List.lookup, hb, if_pos h]
    · have hb : (g == f) = false := beq_eq_false_iff_ne.mpr h
      simp only [List.lookup, hb, if_neg h]
  | (k, x) :: r => by
    have ih := lookup_putF f g v r
    rw [show putF f v ((k, x) :: r) = (if k = f then (k, v) :: r else (k, x) :: putF f v r) from rfl]
    by_cases hk : k = f
    · rw [if_pos hk]
      by_cases h : g = k
      · have hb : (g == k) = true := beq_iff_eq.mpr h
        simp only [List.lookup, hb, if_pos (h.trans hk)]
      · have hb : (g == k) = false := beq_eq_false_iff_ne.mpr h
        simp only [List.lookup, hb, if_neg (fun e : g = f => h (e.trans hk.symm))]
    · rw [if_neg hk]
      by_cases h : g = k
      · have hb : (g == k) = true := beq_iff_eq.mpr h
        simp only [List.lookup, hb, if_neg (fun e : g = f => hk (h.symm.trans e))]
      · have hb : (g == k) = false := beq_eq_false_iff_ne.mpr h
        simp only [List.lookup, hb]
        exact ih
theorem keys_putF (f : Str) (v : V) : ∀ fs : List (Str × V), f ∈ (putF f v fs).map (·.1) ∧ ∀ g, g ∈ fs.map (·.1) → g ∈ (putF f v fs).map (·.1)
  | [] => ⟨by simp [putF], fun g h => by simp at h⟩
  | (k, x) :: r => by
    obtain ⟨i1, i2⟩ := keys_putF f v r
    rw [show putF f v ((k, x) :: r) = (if k = f then (k, v) :: r else (k, x) :: putF f v r) from rfl]
    by_cases hk : k = f
    · rw [if_pos hk]
      subst hk
      exact ⟨by simp, fun g h => by simpa using h⟩
    · rw [if_neg hk]
      refine ⟨?_, fun g h => ?_⟩
      · rw [List.map_cons]
        exact List.mem_cons_of_mem _ i1
      · rw [List.map_cons] at h ⊢
        rcases List.mem_cons.mp h with e | e
        · exact List.mem_cons.mpr (.inl e)
        · exact List.mem_cons_of_mem _ (i2 g e)
theorem length_putF (f : Str) (v : V) : ∀ fs : List (Str × V), (putF f v fs).length ≤ fs.length + 1
  | [] => by simp [putF]
  | (k, x) :: r => by
    have ih := length_putF f v r
    rw [show putF f v ((k, x) :: r) = (if k = f then (k, v) :: r else (k, x) :: putF f v r) from rfl]
    by_cases hk : k = f
    · rw [if_pos hk, List.length_cons, List.length_cons]; omega
    · rw [if_neg hk, List.length_cons, List.length_cons]; omega
theorem RelO.some_of {v : V} {o : Option Value} (r : RelO (some v) o) : ∃ u, o = some u ∧ RelV v u := by
  cases o with
  | none => exact (show False from r).elim
  | some u => exact ⟨u, rfl, r⟩
theorem RelO.none_of {o : Option Value} (r : RelO none o) : o = none := by
  cases o with
  | none => rfl
  | some u => exact (show False from r).elim
theorem handed_of {v : V} {u : Value} (r : RelV v u) : PySem.W.handedIn u = true := by
  cases v with
  | non => cases (show u = Value.none from r); rfl
  | bl b => cases (show u = Value.bool b from r); rfl
  | int i => obtain ⟨t, e⟩ := (show ∃ t, u = Value.int i t from r); cases e; rfl
  | str x => obtain ⟨t, e⟩ := (show ∃ t, u = Value.str x t from r); cases e; rfl
  | byt b => obtain ⟨t, e⟩ := (show ∃ t, u = Value.bytes b t from r); cases e; rfl
  | flt b => obtain ⟨t, e⟩ := (show ∃ t, u = Value.float b t from r); cases e; rfl
  | ref a => cases (show u = Value.ref a from r); rfl
  | ty n => cases (show u = Value.type n from r); rfl
section
variable {P : Program} {w : World} {H H' : Hp} {h h' : Heap} {a C dx : Addr} {fs fs' : List (Str × V)}
theorem ins_get (hok : HOk P w H h) (e : H a = some (.ins C dx fs)) : ∃ mA, ObjM h a dx C mA ∧ (∀ f, RelO (fs.lookup f) (mA f)) ∧ PySem.Within mA (fs.map (·.1)) ∧ fs.length ≤ 1000 ∧ H dx = some (.own a) := by
  obtain ⟨d, z, ne, ob, mA, n, r, q⟩ := (show ObjOk P w H h a (.ins C dx fs) from hok a _ e)
  exact ⟨mA, ⟨ob, n, ne⟩, r, q, z, d⟩
end
structure Cls (K : PySem.W.Frag) (C : Addr) : Prop where
  pg : PySem.W.plainGet K C Str.empty = true
  hd : PySem.W.hasDictIn K C = true
  po : PySem.W.plainOver K C = true
  sa : PySem.W.findIn K (.ref C) "__setattr__" = some (some (.builtin "object.__setattr__"))
theorem Cls.get {K : PySem.W.Frag} {C : Addr} (c : Cls K C) (f : Str) : PySem.W.plainGet K C f = true := c.pg
def NoAttr (K : PySem.W.Frag) (C : Addr) (f : Str) : Prop := PySem.W.findIn K (.ref C) f = some none
theorem NoAttr.taker {K : PySem.W.Frag} {C : Addr} {f : Str} (n : NoAttr K C f) : PySem.W.takerIn K C f = some none := by
  unfold PySem.W.takerIn
  rw [show PySem.W.findIn K (.ref C) f = some none from n]
  rfl
structure Meth (K : PySem.W.Frag) (C : Addr) (m : Str) (f : Addr) : Prop where
  at_ : PySem.W.findIn K (.ref C) m = some (some (.ref f))
  fn : PySem.W.isFn K (.ref f) = true
  kp : PySem.W.keepIn K (.ref f) = true
section
variable {X : Cx} {pins : List (Addr × Obj)} {σ : St} {H : Hp} {s : Shared} {a C dx : Addr} {fs : List (Str × V)} {f : Str} {v : V} {A : Around} {E : Value → Shared → Prop}
theorem getattr_ok {b : Bool} {Q : Value → Shared → Prop} (I : Inv X pins σ H s) (e : H a = some (.ins C dx fs)) (c : Cls X.K C) (n : NoAttr X.K C f) (l : fs.lookup f = some v)
    (h : ∀ u s', Inv X pins σ H s' → RelV v u → Q u s') : wpAny (model X.prog X.w) A (getAttr (.ref a) f b) Q E s := by
  obtain ⟨mA, O, r, _, _, _⟩ := ins_get I.hok e
  obtain ⟨u, hu, ru⟩ := RelO.some_of (v := v) (o := mA f) (by rw [← l]; exact r f)
  exact get_map I.kIn O (c.get f) c.hd n hu (handed_of ru) (h u _ (I.tok _) ru)
theorem getmeth_ok {m : Str} {g : Addr} {pl : Sem Bool} {Q : Value × List Value → Shared → Prop} (I : Inv X pins σ H s) (e : H a = some (.ins C dx fs)) (c : Cls X.K C) (k : Meth X.K C m g) (l : fs.lookup m = none)
    (h : Q (.ref g, [.ref a]) s) : wpAny (model X.prog X.w) A (getMethod (.ref a) m pl) Q E s := by
  obtain ⟨mA, O, r, _, _, _⟩ := ins_get I.hok e
  have hn : mA m = none := RelO.none_of (by rw [← l]; exact r m)
  exact get_meth I.kIn O (c.get m) k.at_ k.fn hn h
theorem setattr_ok {y : V} {u : Value} {Q : Unit → Shared → Prop} (I : Inv X pins σ H s) (e : H a = some (.ins C dx fs)) (c : Cls X.K C) (n : NoAttr X.K C f) (hl : fs.length < 1000) (ry : RelV y u)
    (h : ∀ s', Inv X pins σ (upd H a (.ins C dx (putF f y fs))) s' → Q () s') : wpAny (model X.prog X.w) A (setAttr (.ref a) f u) Q E s := by
  obtain ⟨mA, O, r, wi, _, ho⟩ := ins_get I.hok e
  have hz : (fs.map (·.1)).length ≤ sizeLine := by rw [List.length_map, sizeLine_eq]; omega
  refine set_map I.kIn O c.sa c.po n.taker c.hd wi hz fun h' O' sb => h _ ?_
  have hd : ∃ o, h'.get? dx = some o := let ⟨o, _, _, e', _⟩ := O'.ns; ⟨o, e'⟩
  refine I.write (x := a) (e := dx) (by rw [e]; exact True.intro) (.inr ho) (fun b q hb z => (sb.2 b hb).trans z) hd ?_
  refine ⟨by rw [upd_ne O.ne]; exact ho, ?_, O.ne, O'.obj, _, O'.ns, fun g => ?_, fun g hg => ?_⟩
  · have := length_putF f y fs; omega
  · show RelO ((putF f y fs).lookup g) (if g = f then some u else mA g)
    rw [lookup_putF]
    by_cases q : g = f
    · rw [if_pos q, if_pos q]; exact ry
    · rw [if_neg q, if_neg q]; exact r g
  · by_cases q : g = f
    · rw [q]; exact (keys_putF f y fs).1
    · refine (keys_putF f y fs).2 g (wi g fun z => hg ?_)
      show (if g = f then some u else mA g) = none
      rw [if_neg q]; exact z
theorem Inv.made (I : Inv X pins σ H s) : Inv X pins σ (upd (upd H s.heap.objs.size (.own (s.heap.objs.size + 1))) (s.heap.objs.size + 1) (.ins C s.heap.objs.size []))
    { s with heap := (s.heap.push PySem.W.emptyDict).push (PySem.W.instObj C s.heap.objs.size) } := by
  have e1 : (s.heap.push PySem.W.emptyDict).get? s.heap.objs.size = some PySem.W.emptyDict := Heap.get?_push_size s.heap rfl
  have e2 : ((s.heap.push PySem.W.emptyDict).push (PySem.W.instObj C s.heap.objs.size)).get? (s.heap.objs.size + 1) = some (PySem.W.instObj C s.heap.objs.size) := by
    have := Heap.get?_push_size (s.heap.push PySem.W.emptyDict) (o := PySem.W.instObj C s.heap.objs.size) rfl
    rwa [Heap.size_push] at this
  have e3 : (s.heap.push PySem.W.emptyDict).Ns s.heap.objs.size (fun _ => none) := ⟨PySem.W.emptyDict, #[], _, e1, rfl, (fun e he => absurd he (by simp)), fun _ => rfl⟩
  have I1 := I.laid (a := s.heap.objs.size) (o := .own (s.heap.objs.size + 1)) (h' := s.heap.push PySem.W.emptyDict) (t' := s.toks) (fun b u q => Heap.get?_push_of_some _ q) (Nat.le_refl _) ⟨_, e1⟩
  refine I1.laid (a := s.heap.objs.size + 1) (o := .ins C s.heap.objs.size []) (t' := s.toks) (fun b u q => Heap.get?_push_of_some _ q) (Nat.le_of_eq (Heap.size_push _ _)) ?_
  have ne : s.heap.objs.size ≠ s.heap.objs.size + 1 := Nat.ne_of_lt (Nat.lt_succ_self _)
  refine ⟨by rw [upd_ne ne, upd_same], Nat.zero_le _, ne, e2, fun _ => none, (Heap.Ns1.of_empty e3).at fun o q => Heap.get?_push_of_some _ q, fun _ => True.intro, fun y hy => absurd rfl hy⟩
theorem attr_of {prog : Program} {w : World} {env : Env} {e : Expr} {f : Str} {pos : Pos} {s : Shared} {Q : Value → Shared → Prop} (hb : attributeBase e f env (eval e env) = eval e env)
    (h : wpAny (model prog w) A (eval e env) (fun o s₁ => wpAny (model prog w) A (getAttr o f true) Q E s₁) E s) : wpAny (model prog w) A (eval (.Attribute e f pos) env) Q E s :=
  Attribute_any_ h (by rw [arm_eval_Attribute, hb])
end
def tFld (K : PySem.W.Frag) (ta : TE) (f : Str) : TE := fun σ H Q => ta σ H fun x H1 => ∃ a C dx fs v, x = .ref a ∧ H1 a = some (.ins C dx fs) ∧ Cls K C ∧ NoAttr K C f ∧ fs.lookup f = some v ∧ Q v H1
def sFld (K : PySem.W.Frag) (ta tv : TE) (f : Str) : TS := fun D σ H => tv σ H fun y H1 => ta σ H1 fun x H2 => ∃ a C dx fs, x = .ref a ∧ H2 a = some (.ins C dx fs) ∧ Cls K C ∧ NoAttr K C f ∧ fs.length < 1000 ∧
  D.nx σ (upd H2 a (.ins C dx (putF f y fs)))
section
variable {X : Cx} {o e value : Expr} {f : Str} {pos pos' tpos : Pos} {ta tv : TE}
theorem pe_fld (he : PE X e ta) (hb : attributeBase e f X.env (eval e X.env) = eval e X.env) : PE X (.Attribute e f pos) (tFld X.K ta f) := by
  intro pins s σ H Q I h
  refine attr_of hb (thn (he pins s σ H _ I h) fun u s1 ⟨x, H1, I1, rx, a, C, dx, fs, v, ex, ea, c, n, l, q⟩ => ?_)
  subst ex
  obtain rfl : u = Value.ref a := rx
  exact getattr_ok I1 ea c n l fun u' s2 I2 ru => ⟨v, H1, I2, ru, q⟩
theorem ps_fld (ha : PE X o ta) (hv : PE X value tv) (hs : swapsWith value (some (.Attribute o f pos')) pos.line X.env = pure false) : PS X (.Assign [.Attribute o f pos'] value pos) (sFld X.K ta tv f) := by
  intro pins s σ H D I h
  refine plainObj_wpAny_Assign_Attribute (thn (hv pins s σ H _ I h) fun u s1 ⟨y, H1, I1, ry, q⟩ => thn (ha pins s1 σ H1 _ I1 q) fun ov s2 ⟨x, H2, I2, rx, a, C, dx, fs, ex, ea, c, n, l, q2⟩ => ?_) hs
  subst ex
  obtain rfl : ov = Value.ref a := rx
  exact setattr_ok I2 ea c n l ry fun s3 I3 => ⟨σ, _, I3, q2⟩
end
section
variable {X : Cx} {pins : List (Addr × Obj)} {σ : St} {H : Hp} {s : Shared} {A : Around} {E : Value → Shared → Prop} {Q : Value → Shared → Prop} {c : Value} {b : Bool}
inductive TyOf (K : PySem.W.Frag) (H : Hp) : V → Value → Prop where
  | non : TyOf K H .non (.type "NoneType")
  | bl (x : Bool) : TyOf K H (.bl x) (.type "bool")
  | int (i : Int) : TyOf K H (.int i) (.type "int")
  | str (x : Str) : TyOf K H (.str x) (.type "str")
  | flt (x : UInt64) : TyOf K H (.flt x) (.type "float")
  | lst {a : Addr} {xs : List V} (e : H a = some (.lst xs)) : TyOf K H (.ref a) (.type "list")
  | frz {a : Addr} {o : Obj} {xs : List V} (e : H a = some (.frz o (.lst xs))) : TyOf K H (.ref a) (.type "list")
  | tup {a : Addr} {xs : List V} (e : H a = some (.tup xs)) : TyOf K H (.ref a) (.type "tuple")
  | dK {a : Addr} {kvs : List (Key × V)} (e : H a = some (.dK kvs)) : TyOf K H (.ref a) (.type "dict")
  | dT {a : Addr} {kvs : List (List Key × V)} (e : H a = some (.dT kvs)) : TyOf K H (.ref a) (.type "dict")
  | ins {a C dx : Addr} {fs : List (Str × V)} (e : H a = some (.ins C dx fs)) (cl : Cls K C) (ha : PySem.W.findIn K (.ref C) "__class__" = some (some (.builtin "object.__class__")))
      (hn : PySem.W.specialIn K (.builtin "object.__class__") "__get__" = some (some (.builtin "getset_descriptor.__get__"))) (htk : PySem.W.takesIn K (.builtin "object.__class__") = some true)
      (hm : PySem.W.mroIn K C (.type "object") = some true) : TyOf K H (.ref a) (.ref C)
theorem isinst_ok {x : V} {u t : Value} (I : Inv X pins σ H s) (rx : RelV x u) (ty : TyOf X.K H x t) (e : PySem.W.kitOne X.K t c = some b) (h : ∀ tk, Q (.bool b) { s with toks := tk }) :
    wpAny (model X.prog X.w) A (call (.builtin "isinstance") [u, c]) Q E s := by
  cases ty with
  | non => cases (show u = Value.none from rx); exact PySem.W.kia_one PySem.W.kitx_none I.kIn True.intro e (fun z => nomatch z) h
  | bl y => cases (show u = Value.bool y from rx); exact PySem.W.kia_one PySem.W.kitx_bool I.kIn True.intro e (fun z => nomatch z) h
  | int i => obtain ⟨t, q⟩ := (show ∃ t, u = Value.int i t from rx); cases q; exact PySem.W.kia_one PySem.W.kitx_int I.kIn True.intro e (fun z => nomatch z) h
  | str y => obtain ⟨t, q⟩ := (show ∃ t, u = Value.str y t from rx); cases q; exact PySem.W.kia_one PySem.W.kitx_str I.kIn True.intro e (fun z => nomatch z) h
  | flt y => obtain ⟨t, q⟩ := (show ∃ t, u = Value.float y t from rx); cases q; exact PySem.W.kia_one PySem.W.kitx_float I.kIn True.intro e (fun z => nomatch z) h
  | @lst a xs ea =>
    cases (show u = Value.ref a from rx)
    obtain ⟨_, _, n, _, h1⟩ := (show ObjOk X.prog X.w H s.heap a (.lst xs) from I.hok a _ ea)
    exact PySem.W.kia_one PySem.W.kitx_list I.kIn ⟨_, h1, rfl⟩ e (fun z => nomatch z) h
  | @frz a ob xs ea =>
    cases (show u = Value.ref a from rx)
    obtain ⟨_, _, _, n, _, h1⟩ := (show ObjOk X.prog X.w H s.heap a (.frz ob (.lst xs)) from I.hok a _ ea)
    exact PySem.W.kia_one PySem.W.kitx_list I.kIn ⟨_, h1, rfl⟩ e (fun z => nomatch z) h
  | @tup a xs ea =>
    cases (show u = Value.ref a from rx)
    obtain ⟨_, _, _, p⟩ := (show ObjOk X.prog X.w H s.heap a (.tup xs) from I.hok a _ ea)
    obtain ⟨o, h1, h2, _⟩ := p
    exact PySem.W.kia_one PySem.W.kitx_tuple I.kIn ⟨o, h1, h2⟩ e (fun z => nomatch z) h
  | @dK a kvs ea =>
    cases (show u = Value.ref a from rx)
    obtain ⟨_, _, vs, _, p⟩ := (show ObjOk X.prog X.w H s.heap a (.dK kvs) from I.hok a _ ea)
    obtain ⟨o, es, ep, h1, h2, _⟩ := p
    exact PySem.W.kia_one PySem.W.kitx_dict I.kIn ⟨o, h1, h2.1⟩ e (fun z => nomatch z) h
  | @dT a kvs ea =>
    cases (show u = Value.ref a from rx)
    obtain ⟨_, _, xs, _, o, es, ep, h1, h2, _⟩ := (show ObjOk X.prog X.w H s.heap a (.dT kvs) from I.hok a _ ea)
    exact PySem.W.kia_one PySem.W.kitx_dict I.kIn ⟨o, h1, h2.1⟩ e (fun z => nomatch z) h
  | @ins a C dx fs ea cl ha hn htk hm =>
    cases (show u = Value.ref a from rx)
    obtain ⟨mA, O, _⟩ := ins_get I.hok ea
    obtain ⟨od, J, _⟩ := O.look
    exact PySem.W.kia_one (PySem.W.kitx_own (cl.get _) cl.hd ha hn htk hm) I.kIn J e (fun z => nomatch z) h
end
end L2
namespace L2
open PySem PySem.Spec PyProof.Rows
structure Room (k : Nat) (A : Around) : Prop where
  hd : A.handled = none
  dp : A.depth + 3 * k + 5 < recursionLimit
  un : A.units + 16 * k + 200 < cLine
  gd : A.guards = some []
theorem Room.mono {j k : Nat} {A : Around} (r : Room k A) (h : j ≤ k) : Room j A := ⟨r.hd, by have := r.dp; omega, by have := r.un; omega, r.gd⟩
theorem Room.deeper {k : Nat} {A : Around} (r : Room (k + 1) A) (env : Env) : Room k (A.deeper env) :=
  ⟨r.hd, by have := r.dp; show A.depth + 1 + 3 * k + 5 < _; omega, by have := r.un; show A.units + 3 + 16 * k + 200 < _; omega, r.gd⟩
theorem make_depth {A : Around} {C : Addr} {us : List Value} {kw : List (Str × Value)} : (A.under (.builtin "type.__call__" ⟨.ref C :: us, kw⟩)).depth = A.depth + 1 := by
  first | rfl | simp [Around.under, Code.weight, Code.isCreation, Code.isGuard, Code.isCaller, Code.frames, Code.isFrame, guardIds]
theorem make_units {A : Around} {C : Addr} {us : List Value} {kw : List (Str × Value)} : (A.under (.builtin "type.__call__" ⟨.ref C :: us, kw⟩)).units = A.units + 1 := by
  first | rfl | simp [Around.under, Code.cUnits, Code.frames, Code.isFrame]
theorem Room.make {k : Nat} {A : Around} (r : Room (k + 1) A) (C : Addr) (us : List Value) (kw : List (Str × Value)) : Room k (A.under (.builtin "type.__call__" ⟨.ref C :: us, kw⟩)) :=
  ⟨r.hd, by have := r.dp; rw [make_depth]; omega, by have := r.un; rw [make_units]; omega, by first | exact r.gd | (simpa [Around.under, Code.isGuard, guardIds] using r.gd)⟩
theorem Room.depth {k : Nat} {A : Around} (r : Room k A) : A.depth < recursionLimit := by have := r.dp; omega
theorem Room.units {k : Nat} {A : Around} (r : Room k A) : A.units + 64 < cLine := by have := r.un; omega
def tNil : TA := fun _ H Q => Q [] H
def tCons (ta : TE) (tr : TA) : TA := fun σ H Q => ta σ H fun x H1 => tr σ H1 fun xs H2 => Q (x :: xs) H2
section
variable {X : Cx} {e : Expr} {es : List Expr} {te : TE} {t : TA} {pos : Pos}
theorem pa_nil : PA X [] tNil := fun _ _ _ _ H Q I h => Calls.spliced_nil ⟨[], H, I, .nil, h⟩
theorem pa_cons (ha : PE X e te) (hr : PA X es t) (hs : starEach (e :: es) X.env = (false, eval e X.env) :: starEach es X.env := by rfl) : PA X (e :: es) (tCons te t) := by
  intro pos pins s σ H Q I h
  rw [hs]
  show wpAny _ _ (spliced ((false, eval e X.env) :: backTo pos (starEach es X.env))) _ _ s
  refine Calls.spliced_cons (thn (ha pins s σ H _ I h) fun u s1 ⟨x, H1, I1, r1, q1⟩ => ?_)
  exact thn (hr pos pins s1 σ H1 _ I1 q1) fun us s2 ⟨xs, H2, I2, r2, q2⟩ => ⟨x :: xs, H2, I2, .cons r1 r2, q2⟩
def tTup (t : TA) : TE := fun σ H Q => t σ H fun xs H1 => xs.length ≤ sizeLine ∧ ∀ p, H1 p = none → Q (.ref p) (upd H1 p (.tup xs))
def tLst (t : TA) : TE := fun σ H Q => t σ H fun xs H1 => xs.length ≤ sizeLine ∧ ∀ p, H1 p = none → Q (.ref p) (upd H1 p (.lst xs))
theorem pe_tup {x1} (h : PA X es t) : PE X (.Tuple es x1 pos) (tTup t) := by
  intro pins s σ H Q I hq
  refine wpAny_Tuple_spliced (thn (h pos pins s σ H _ I hq) fun us s1 ⟨xs, H1, I1, r, z, q⟩ => ⟨by rw [← r.length]; exact z, ?_⟩)
  have hf : H1 s1.heap.objs.size = none := I1.hok.fresh (Nat.le_refl _)
  refine ⟨.ref s1.heap.objs.size, upd H1 s1.heap.objs.size (.tup xs), I1.laid (t' := s1.toks) (fun b u e => Heap.get?_push_of_some _ e) (Nat.le_refl _) ?_, rfl, q _ hf⟩
  exact ⟨z, us, r, ⟨_, Heap.get?_push_size _ rfl, rfl, _, rfl⟩⟩
theorem pe_lst (h : PA X es t) : PE X (.List es pos) (tLst t) := by
  intro pins s σ H Q I hq
  refine wpAny_List_spliced (thn (h pos pins s σ H _ I hq) fun us s1 ⟨xs, H1, I1, r, z, q⟩ => ⟨by rw [← r.length]; exact z, ?_⟩)
  have hf : H1 s1.heap.objs.size = none := I1.hok.fresh (Nat.le_refl _)
  refine ⟨.ref s1.heap.objs.size, upd H1 s1.heap.objs.size (.lst xs), I1.laid (t' := s1.toks) (fun b u e => Heap.get?_push_of_some _ e) (Nat.le_refl _) ?_, rfl, q _ hf⟩
  exact ⟨z, us, 0, r, Heap.get?_push_size _ rfl⟩
end
abbrev Sp := List V → Hp → VK → XK → Prop
abbrev CXT := List Env → Hp → Shared → XK → Value → Shared → Prop
structure Env0 (P : Program) (w : World) (K : PySem.W.Frag) (mg : Str → Option Value) (base : Heap) (A : Around) (outer : List Env) (s : Shared) (H : Hp) : Prop where
  frames : A.frames = some outer
  mod : Mod K mg base
  bs : ∀ b o, base.get? b = some o → s.heap.get? b = some o ∧ H b = none
  bsz : base.objs.size ≤ s.heap.objs.size
  funs : s.heap.FunFrames base outer
  frf : ∀ b ∈ frs outer, H b = none
  hok : HOk P w H s.heap
  bare : AllBare s.gens
def CE (outer : List Env) (P : Program) (w : World) (H : Hp) (s : Shared) (Q : VK) (u : Value) (s' : Shared) : Prop :=
  ∃ v H', s'.os = s.os ∧ AllBare s'.gens ∧ Un (frs outer) [] H H' s.heap s'.heap ∧ HOk P w H' s'.heap ∧ RelV v u ∧ Q v H'
def CR (CX : CXT) (outer : List Env) (P : Program) (w : World) (H : Hp) (s : Shared) (Q : VK) (E : XK) (r : Result) (s' : Shared) : Prop :=
  match r with
  | .ok (.ret u) => CE outer P w H s Q u s'
  | .ok _ => False
  | .error e => CX outer H s E e s'
structure FnOk (P : Program) (w : World) (K : PySem.W.Frag) (mg : Str → Option Value) (base : Heap) (CX : CXT) (k : Nat) (f : Addr) (fd : FuncData) (ps : List Str) (sp : Sp) : Prop where
  len : ∀ vs H Q E, sp vs H Q E → vs.length = ps.length
  run : ∀ (A : Around) (outer : List Env) (s : Shared) (H : Hp) (args : Args) (us : List Value) (vs : List V) (Q : VK) (E : XK), Room k A → Env0 P w K mg base A outer s H → BindsTo s fd args (ps.zip us) → Vals vs us → sp vs H Q E →
    codeAny (model P w) A (.call (.ref f) args) (CR CX outer P w H s Q E) s
theorem FnOk.mono {P : Program} {w : World} {K : PySem.W.Frag} {mg : Str → Option Value} {base : Heap} {CX : CXT} {j k : Nat} {f : Addr} {fd : FuncData} {ps : List Str} {sp : Sp} (F : FnOk P w K mg base CX j f fd ps sp) (h : j ≤ k) :
    FnOk P w K mg base CX k f fd ps sp := ⟨F.len, fun A outer s H args us vs Q E hr => F.run A outer s H args us vs Q E (hr.mono h)⟩
theorem Env0.make {P : Program} {w : World} {K : PySem.W.Frag} {mg : Str → Option Value} {base : Heap} {A : Around} {outer : List Env} {s : Shared} {H : Hp} (e : Env0 P w K mg base A outer s H) (C : Addr) (us : List Value) (kw : List (Str × Value)) :
    Env0 P w K mg base (A.under (.builtin "type.__call__" ⟨.ref C :: us, kw⟩)) outer s H := ⟨by first | exact e.frames | (simpa [Around.under, Code.envs, Code.isFrame, pushEnvs] using e.frames), e.mod, e.bs, e.bsz, e.funs, e.frf, e.hok, e.bare⟩
section
variable {X : Cx} {pins : List (Addr × Obj)} {σ : St} {H : Hp} {s s' : Shared}
theorem Inv.env0 (I : Inv X pins σ H s) : Env0 X.prog X.w X.K X.mg X.base X.A X.stack s H :=
  ⟨I.ok.frames, I.ok.mod, I.bs, Nat.le_trans I.ok.bsz I.sz, I.stack, I.stkFree, I.hok, I.bare⟩
theorem Inv.after {Q : VK} {u : Value} (I : Inv X pins σ H s) (h : CE X.stack X.prog X.w H s Q u s') : EP X pins σ Q u s' := by
  obtain ⟨v, H', os, bare, un, hok, r, q⟩ := h
  obtain ⟨hh, g, d, t, os'⟩ := s'
  obtain rfl : os' = s.os := os
  exact ⟨v, H', I.call (h' := hh) (g' := g) (d' := d) (t' := t) (ch := []) un hok bare (fun b z => absurd z (by simp)), r, q⟩
end
def tCall (sp : Sp) (dvs : List V) (E : XK) (t : TA) : TE := fun σ H Q => t σ H fun vs H1 => sp (vs ++ dvs) H1 Q E
def tMeth (C : Addr) (m : Str) (sp : Sp) (dvs : List V) (E : XK) (ta : TE) (t : TA) : TE := fun σ H Q => ta σ H fun x H1 => ∃ a dx fs, x = .ref a ∧ H1 a = some (.ins C dx fs) ∧ fs.lookup m = none ∧
  t σ H1 fun vs H2 => sp (x :: (vs ++ dvs)) H2 Q E
def tMake (C : Addr) (sp : Sp) (dvs : List V) (E : XK) (t : TA) : TE := fun σ H Q => t σ H fun vs H1 => ∀ x dx, H1 x = none → H1 dx = none → dx ≠ x →
  sp (.ref x :: (vs ++ dvs)) (upd (upd H1 dx (.own x)) x (.ins C dx [])) (fun v H2 => v = .non ∧ Q (.ref x) H2) E
def Binds (K : PySem.W.Frag) (fd : FuncData) (ps : List Str) (ds : List Value) : Prop :=
  ∀ (s : Shared) (us : List Value), K.In s.heap → (us ++ ds).length = ps.length → BindsTo s fd ⟨us, []⟩ (ps.zip (us ++ ds))
theorem Binds.all {K : PySem.W.Frag} {fd : FuncData} {ps : List Str} (h : ∀ us : List Value, us.length = ps.length → bindArgs fd ⟨us, []⟩ = pure (ps.zip us)) : Binds K fd ps [] := fun s us _ hl => by
  rw [List.append_nil] at hl ⊢
  exact .of_eq (h us hl)
def Passes (CX : CXT) (X : Cx) (E : XK) : Prop := ∀ (pins : List (Addr × Obj)) (σ : St) (H : Hp) (s : Shared) (e : Value) (s' : Shared), Inv X pins σ H s → CX X.stack H s E e s' → X.xe e s'
section
variable {X : Cx} {CX : CXT} {k : Nat} {f C : Addr} {fd : FuncData} {ps : List Str} {sp : Sp} {dvs : List V} {ds : List Value} {E : XK} {x m : Str} {p pos apos : Pos} {e o : Expr} {es : List Expr} {ta : TE} {t : TA}
theorem run_fn {pins : List (Addr × Obj)} {σ : St} {H : Hp} {s : Shared} {Q : VK} {us : List Value} {vs : List V} (F : FnOk X.prog X.w X.K X.mg X.base CX k f fd ps sp) (hr : Room k X.A) (hb : Binds X.K fd ps ds) (hd : Vals dvs ds) (hx : Passes CX X E)
    (I : Inv X pins σ H s) (r : Vals vs us) (h : sp (vs ++ dvs) H Q E) : wpAny (model X.prog X.w) X.A (call (.ref f) us) (EP X pins σ Q) X.xe s := by
  have r2 : Vals (vs ++ dvs) (us ++ ds) := r.append hd
  have hl : (us ++ ds).length = ps.length := by rw [← r2.length]; exact F.len _ _ _ _ h
  refine wpAny_call (codeAny_mono (F.run X.A X.stack s H ⟨us, []⟩ (us ++ ds) (vs ++ dvs) Q E hr I.env0 (hb s us I.kIn hl) r2 h) fun r s' hq => ?_)
  cases r with
  | error e => exact hx pins σ H s e s' I hq
  | ok fl =>
    cases fl with
    | ret u => exact I.after hq
    | next => exact False.elim hq
    | brk => exact False.elim hq
    | cont => exact False.elim hq
theorem pe_call (F : FnOk X.prog X.w X.K X.mg X.base CX k f fd ps sp) (hr : Room k X.A) (hg : Gl X x) (hm : X.mg x = some (.ref f)) (hk : PySem.W.keepIn X.K (.ref f) = true) (hb : Binds X.K fd ps ds) (hd : Vals dvs ds) (hx : Passes CX X E)
    (ha : PA X (e :: es) t) (hdb : (x == ("__debug__" : Str)) = false := by decide) (he : starEach (e :: es) X.env = (false, eval e X.env) :: starEach es X.env := by rfl) (hpl : (backTo pos (starEach es X.env)).any (·.1) = false := by rfl) :
    PE X (.Call (.Name x p) (e :: es) [] pos) (tCall sp dvs E t) := by
  intro pins s σ H Q I h
  refine wpAny_Call_Name_kw (ld_glob I hg hm ?_ hdb)
  refine PySem.W.callWith_K (h₀ := X.base) I.ok.mod.kin hk (thn (ha pos pins s σ H _ I h) fun us s1 ⟨vs, H1, I1, r, q⟩ => ⟨I1.kIn, ?_⟩) he hpl
  exact run_fn F hr hb hd hx I1 r q
theorem pe_meth {pl : Sem Bool} (he : PE X o ta) (c : Cls X.K C) (hm : Meth X.K C m f) (F : FnOk X.prog X.w X.K X.mg X.base CX k f fd ps sp) (hr : Room k X.A) (hb : Binds X.K fd ps ds) (hd : Vals dvs ds) (hx : Passes CX X E) (ha : PA X (e :: es) t)
    (hst : starEach (e :: es) X.env = (false, eval e X.env) :: starEach es X.env := by rfl) (hpl : (backTo pos (starEach es X.env)).any (·.1) = false := by rfl)
    (ht : eval (.Call (.Attribute o m apos) (e :: es) [] pos) X.env = (do
      let ov ← eval o X.env
      standAt apos.atName
      let (f, first) ← holding [ov] (getMethod ov m pl)
      callWith pos f first (backTo pos (starEach (e :: es) X.env)) (backToKw pos (keywordEach [] X.env))) := by rfl) :
    PE X (.Call (.Attribute o m apos) (e :: es) [] pos) (tMeth C m sp dvs E ta t) := by
  intro pins s σ H Q I h
  refine PySem.W.methodCall_KW (pl := pl) (thn (he pins s σ H _ I h) fun u s1 ⟨x, H1, I1, rx, a, dx, fs, ex, ea, l, q⟩ => ?_) ht
  subst ex
  obtain rfl : u = Value.ref a := rx
  refine getmeth_ok I1 ea c hm l ?_
  refine PySem.W.callWith_K (first := [.ref a]) (h₀ := X.base) I.ok.mod.kin hm.kp (thn (ha pos pins s1 σ H1 _ I1 q) fun us s2 ⟨vs, H2, I2, r, q2⟩ => ⟨I2.kIn, ?_⟩) hst hpl
  exact run_fn (us := .ref a :: us) (vs := .ref a :: vs) F hr hb hd hx I2 (.cons rfl r) q2
structure Mk (K : PySem.W.Frag) (C f : Addr) : Prop where
  makes : PySem.W.makesIn K C = true
  init : PySem.W.findIn K (.ref C) "__init__" = some (some (.ref f))
  fn : PySem.W.isFn K (.ref f) = true
  kp : PySem.W.keepIn K (.ref C) = true
theorem run_make {pins : List (Addr × Obj)} {σ : St} {H : Hp} {s : Shared} {Q : VK} {us : List Value} {vs : List V} (M : Mk X.K C f) (F : FnOk X.prog X.w X.K X.mg X.base CX k f fd ps sp) (hr : Room (k + 1) X.A) (hb : Binds X.K fd ps ds) (hd : Vals dvs ds)
    (hx : Passes CX X E) (I : Inv X pins σ H s) (r : Vals vs us)
    (h : ∀ x dx, H x = none → H dx = none → dx ≠ x → sp (.ref x :: (vs ++ dvs)) (upd (upd H dx (.own x)) x (.ins C dx [])) (fun v H2 => v = .non ∧ Q (.ref x) H2) E) :
    wpAny (model X.prog X.w) X.A (call (.ref C) us) (EP X pins σ Q) X.xe s := by
  have hq := h (s.heap.objs.size + 1) s.heap.objs.size (I.hok.fresh (Nat.le_succ _)) (I.hok.fresh (Nat.le_refl _)) (Nat.ne_of_lt (Nat.lt_succ_self _))
  have I2 := Inv.made (C := C) I
  have r2 : Vals (V.ref (s.heap.objs.size + 1) :: (vs ++ dvs)) (Value.ref (s.heap.objs.size + 1) :: (us ++ ds)) := .cons rfl (r.append hd)
  have hl : (Value.ref (s.heap.objs.size + 1) :: us ++ ds).length = ps.length := by
    have e := r2.length
    rw [F.len _ _ _ _ hq] at e
    exact e.symm
  refine wpAny_call (make_map (f := f) I.kIn M.makes M.init (beq_iff_eq.mp M.fn) (codeAny_mono (F.run _ X.stack _ _ ⟨Value.ref (s.heap.objs.size + 1) :: us, []⟩ (Value.ref (s.heap.objs.size + 1) :: (us ++ ds)) _ _ E (hr.make C us [])
    (I2.env0.make C us []) (hb _ (Value.ref (s.heap.objs.size + 1) :: us) I2.kIn hl) r2 hq) fun r s' hq' => ?_))
  cases r with
  | error e => exact hx pins σ _ _ e s' I2 hq'
  | ok fl =>
    cases fl with
    | ret u =>
      obtain ⟨v, H', I3, rv, ev, q3⟩ := I2.after hq'
      subst ev
      exact ⟨rv, ⟨V.ref (s.heap.objs.size + 1), H', I3, rfl, q3⟩⟩
    | next => exact False.elim hq'
    | brk => exact False.elim hq'
    | cont => exact False.elim hq'
theorem pe_make0 (M : Mk X.K C f) (F : FnOk X.prog X.w X.K X.mg X.base CX k f fd ps sp) (hr : Room (k + 1) X.A) (hg : Gl X x) (hm : X.mg x = some (.ref C)) (hb : Binds X.K fd ps ds) (hd : Vals dvs ds) (hx : Passes CX X E)
    (hdb : (x == ("__debug__" : Str)) = false := by decide) : PE X (.Call (.Name x p) [] [] pos) (tMake C sp dvs E tNil) := by
  intro pins s σ H Q I h
  refine wpAny_Call_Name_kw (ld_glob I hg hm ?_ hdb)
  exact PySem.W.callWith_K0 I.kIn M.kp (run_make (us := []) M F hr hb hd hx I .nil h)
end
structure FnScope (N P : List Str) (sc : Scope) : Prop where
  kind : sc.kind = .function
  co : sc.isCoroutine = false
  gen : sc.isGenerator = false
  nd : N.Nodup
  pre : N.take P.length = P
  par : ∀ x ∈ P, sc.names.lookup x = some .local ∨ sc.names.lookup x = some .cell
  nofree : ∀ y ∈ sc.names, y.2 ≠ .free
theorem bindL_out {kindOf : Str → Option NameKind} {x : Str} : ∀ {binds : List (Str × Value)} {m : Str → Option Value}, (∀ v, (x, v) ∉ binds) → bindL kindOf binds m x = m x
  | [], _, _ => rfl
  | (n, v) :: r, m, h => by
    unfold bindL
    rw [bindL_out fun w hw => h w (List.mem_cons_of_mem _ hw)]
    split
    · have : x ≠ n := by rintro rfl; exact h v List.mem_cons_self
      simp [this]
    · rfl
theorem bindC_out {kindOf : Str → Option NameKind} {x : Str} : ∀ {binds : List (Str × Value)} {m : Str → Option Value}, (∀ v, (x, v) ∉ binds) → bindC kindOf binds m x = m x
  | [], _, _ => rfl
  | (n, v) :: r, m, h => by
    unfold bindC
    rw [bindC_out fun w hw => h w (List.mem_cons_of_mem _ hw)]
    split
    · rfl
    · have : x ≠ n := by rintro rfl; exact h v List.mem_cons_self
      simp [this]
theorem bindL_get {kindOf : Str → Option NameKind} {x : Str} {v : Value} : ∀ {P : List Str} {vs : List Value} {i : Nat} {m : Str → Option Value}, P.Nodup → P[i]? = some x → vs[i]? = some v → kindOf x = some .local →
    bindL kindOf (P.zip vs) m x = some v
  | [], _, _, _, _, h, _, _ => by simp at h
  | _ :: _, [], _, _, _, _, h, _ => by simp at h
  | p :: P, w :: vs, 0, m, nd, h1, h2, hk => by
    simp at h1 h2; subst h1; subst h2
    show bindL kindOf ((p, w) :: P.zip vs) m p = _
    unfold bindL
    rw [bindL_out fun v hv => (List.nodup_cons.mp nd).1 (List.of_mem_zip hv).1, if_pos hk]
    simp
  | p :: P, w :: vs, i + 1, m, nd, h1, h2, hk => by
    show bindL kindOf ((p, w) :: P.zip vs) m x = _
    unfold bindL
    exact bindL_get (i := i) (List.nodup_cons.mp nd).2 (by simpa using h1) (by simpa using h2) hk
theorem bindC_get {kindOf : Str → Option NameKind} {x : Str} {v : Value} : ∀ {P : List Str} {vs : List Value} {i : Nat} {m : Str → Option Value}, P.Nodup → P[i]? = some x → vs[i]? = some v → kindOf x ≠ some .local →
    bindC kindOf (P.zip vs) m x = some v
  | [], _, _, _, _, h, _, _ => by simp at h
  | _ :: _, [], _, _, _, _, h, _ => by simp at h
  | p :: P, w :: vs, 0, m, nd, h1, h2, hk => by
    simp at h1 h2; subst h1; subst h2
    show bindC kindOf ((p, w) :: P.zip vs) m p = _
    unfold bindC
    rw [bindC_out fun v hv => (List.nodup_cons.mp nd).1 (List.of_mem_zip hv).1, if_neg hk]
    simp
  | p :: P, w :: vs, i + 1, m, nd, h1, h2, hk => by
    show bindC kindOf ((p, w) :: P.zip vs) m x = _
    unfold bindC
    exact bindC_get (i := i) (List.nodup_cons.mp nd).2 (by simpa using h1) (by simpa using h2) hk
def start (N : List Str) (vs : List V) : St := vs.map some ++ List.replicate (N.length - vs.length) none
def cxOf (CX : CXT) (P : Program) (w : World) (K : PySem.W.Frag) (mg : Str → Option Value) (base : Heap) (N : List Str) (qual : Str) (scope : Scope) (f : Addr) (cd : Value) (A : Around) (outer : List Env) (s : Shared) (H : Hp) (E : XK) : Cx where
  prog := P
  w := w
  K := K
  mg := mg
  base := base
  A := A.deeper (envOfC qual scope s.heap.objs.size f cd)
  N := N
  s₀ := s
  H₀ := H
  env := envOfC qual scope s.heap.objs.size f cd
  outer := outer
  stack := envOfC qual scope s.heap.objs.size f cd :: outer
  ex := []
  calm := true
  fn := fun _ => true
  pn := []
  xe := fun e s' => wpAny (model P w) (A.deeper (envOfC qual scope s.heap.objs.size f cd)) (leaving (envOfC qual scope s.heap.objs.size f cd) e) (fun _ s'' => CX outer H s E e s'') (fun e' s'' => CX outer H s E e' s'') s'
theorem cell_has {sc : Scope} {n : Nat} {x : Str} (h : sc.names.lookup x = some .cell) : ∃ c, (cellsFrom n sc.names []).lookup x = some c := by
  have q := PySem.W.cellsFrom_some sc.names n [] (.inl h)
  exact Option.isSome_iff_exists.mp q
theorem inv_start {CX : CXT} {P : Program} {w : World} {K : PySem.W.Frag} {mg : Str → Option Value} {base : Heap} {N ps : List Str} {qual : Str} {scope : Scope} {f : Addr} {cd : Value} {A : Around} {outer : List Env} {s s1 : Shared} {H : Hp} {E : XK} {us : List Value} {vs : List V}
    (S : FnScope N ps scope) (hd : A.handled = none) (e0 : Env0 P w K mg base A outer s H) (hl : vs.length = ps.length) (r : Vals vs us)
    (x : InCallC s s.heap.objs.size (bindL (envOfC qual scope s.heap.objs.size f cd).kindOf (ps.zip us) fun _ => none) (cellsFrom (s.heap.objs.size + 1) scope.names []) (bindC (envOfC qual scope s.heap.objs.size f cd).kindOf (ps.zip us) fun _ => none) s1) :
    Inv (cxOf CX P w K mg base N qual scope f cd A outer s H E) [] (start N vs) H s1 := by
  have hpl : ps.length ≤ N.length := by have := congrArg List.length S.pre; rw [List.length_take] at this; omega
  obtain ⟨h1, tk, rfl, hk⟩ := x.done
  have noA : ∀ b : Addr, b ∉ (cxOf CX P w K mg base N qual scope f cd A outer s H E).ex := fun b z => absurd (show b ∈ ([] : List Addr) from z) (by simp)
  refine ⟨⟨e0.mod, S.kind, rfl, rfl, Nat.le_refl _, fun y z c h1 h2 => ?_, fun y hy => ?_, fun y c _ h => ?_, fun _ => hd, Around.frames_deeper e0.frames, .inr ⟨rfl, rfl⟩, fun b z => absurd z (noA b), e0.bs, e0.bsz, fun b _ _ => noA b, fun b z => absurd z (noA b), e0.funs, e0.frf⟩,
    rfl, e0.bare, Un.kept hk, ⟨_, x.toInCall.ns, fun i y v h1 h2 h3 => ?_⟩, fun y c h => ⟨_, x.cell y c h⟩, e0.hok.fresh (Nat.le_refl _), fun y c h => ?_, fun p hp => absurd (show p ∈ ([] : List (Addr × Obj)) from hp) (by simp), e0.hok.kept hk, ?_⟩
  · exact name_of_addr x.apart (PySem.mem_of_lookup h1) (PySem.mem_of_lookup h2)
  · have hy : scope.names.lookup y = some .cell ∨ scope.names.lookup y = some .free := hy
    rcases hy with hy | hy
    · exact cell_has hy
    · exact absurd rfl (S.nofree _ (PySem.mem_of_lookup hy))
  · exact Nat.le_of_lt (x.above y c (PySem.mem_of_lookup h))
  · have hi : i < vs.length := by
      unfold start at h2
      by_cases hi : i < vs.length
      · exact hi
      · rw [List.getElem?_append_right (by simpa using hi)] at h2
        rw [List.getElem?_replicate] at h2
        split at h2 <;> cases h2
    have ha : vs[i]? = some v := by
      unfold start at h2
      rw [List.getElem?_append_left (by simpa using hi), List.getElem?_map] at h2
      cases e : vs[i]? with
      | none => rw [e] at h2; cases h2
      | some a => rw [e] at h2; cases h2; rfl
    obtain ⟨u, hu, rv⟩ := r.get ha
    have hp : ps[i]? = some y := by
      rw [← S.pre, List.getElem?_take_of_lt (by omega)]; exact h1
    have ndP : ps.Nodup := by rw [← S.pre]; exact S.nd.sublist (List.take_sublist _ _)
    refine ⟨u, rv, ?_⟩
    rcases S.par y (List.mem_of_getElem? hp) with k | k
    · exact .inl ⟨k, bindL_get ndP hp hu k⟩
    · obtain ⟨c, e⟩ := cell_has (n := s.heap.objs.size + 1) k
      refine .inr ⟨.inl k, c, e, ?_⟩
      have q := x.cell y c e
      rw [bindC_get ndP hp hu (by show scope.names.lookup y ≠ _; rw [k]; decide)] at q
      exact q
  · exact e0.hok.fresh (Nat.le_of_lt (x.above y c (PySem.mem_of_lookup h)))
  · unfold start
    show _ = N.length
    rw [List.length_append, List.length_map, List.length_replicate]
    omega
theorem fn_of {CX : CXT} {P : Program} {w : World} {K : PySem.W.Frag} {mg : Str → Option Value} {base : Heap} {k : Nat} {f : Addr} {name qual : Str} {params : Arguments} {body : List Stmt} {scope : Scope} {dV kV doc pm cdv ct oc : Value} {an od : Option Addr}
    {osl : Array (Option Value)} {N ps : List Str} {sp : Sp} (lk : K.lookup f = some ⟨oc, od, .func (PySem.W.fnOf name qual params body scope dV kV doc pm an cdv ct), osl⟩) (hcd : PySem.W.codeIn K cdv qual = true) (S : FnScope N ps scope)
    (len : ∀ vs H Q E, sp vs H Q E → vs.length = ps.length)
    (hbody : ∀ (A : Around) (outer : List Env) (s : Shared) (H : Hp) (vs : List V) (Q : VK) (E : XK), Room k (A.deeper (envOfC qual scope s.heap.objs.size f cdv)) → sp vs H Q E →
      ∃ t, PSs (cxOf CX P w K mg base N qual scope f cdv A outer s H E) body t ∧ t { nx := fun _ H' => Q .non H', rt := Q } (start N vs) H) :
    FnOk P w K mg base CX (k + 1) f (PySem.W.fnOf name qual params body scope dV kV doc pm an cdv ct) ps sp := by
  refine ⟨len, fun A outer s H args us vs Q E hr e0 hb r hsp => ?_⟩
  have hl := len _ _ _ _ hsp
  have KX : K.In s.heap := e0.mod.kin.keeps fun b o e => (e0.bs b o e).1
  have lim : s.heap.NoLimit := e0.mod.nolimit.keeps fun b o e => (e0.bs b o e).1
  have hkind : ∀ y ∈ ps.zip us, scope.names.lookup y.1 = some .local ∨ (scope.names.lookup y.1 = some .cell ∧ ((cellsFrom (s.heap.objs.size + 1) scope.names []).lookup y.1).isSome = true) := fun ⟨n, v⟩ hy => by
    rcases S.par n (List.of_mem_zip hy).1 with q | q
    · exact .inl q
    · exact .inr ⟨q, PySem.W.cellsFrom_some _ _ _ (.inl q)⟩
  refine codeAny_call_function hr.depth (KX _ _ lk) rfl S.co S.gen rfl (PySem.W.codeRec_of KX hcd) (hb _ _ _ _ ?_)
  refine wpAny_newFunctionEnv_cells S.kind hkind fun env he s1 x => ?_
  subst he
  refine ⟨lim.keeps x.toInCall.keep, codeAny_func ?_⟩
  obtain ⟨t, ht, hq⟩ := hbody A outer s H vs Q E (hr.deeper _) hsp
  have I : Inv (cxOf CX P w K mg base N qual scope f cdv A outer s H E) [] (start N vs) H s1 := inv_start S hr.hd e0 hl r x
  refine wpAny_mono (ht [] s1 (start N vs) H _ I hq) (fun fl s' hs => ?_) fun e s' hs => hs
  have fin : ∀ {σ' : St} {H' : Hp} {v : V} {u : Value}, Inv (cxOf CX P w K mg base N qual scope f cdv A outer s H E) [] σ' H' s' → RelV v u → Q v H' → CE outer P w H s Q u s' :=
    fun {σ' H' v u} J rv q => ⟨v, H', J.os, J.bare, J.base, J.hok, rv, q⟩
  cases fl with
  | ret u =>
    obtain ⟨v, σ', H', J, rv, q⟩ := hs
    exact fin J rv q
  | next =>
    obtain ⟨σ', H', J, q⟩ := hs
    exact fin (v := V.non) (u := Value.none) J rfl q
  | brk =>
    obtain ⟨_, _, _, q⟩ := hs
    exact False.elim q
  | cont =>
    obtain ⟨_, _, _, q⟩ := hs
    exact False.elim q
end L2
namespace L2
open PySem PySem.Spec PyProof.Rows
section
variable {X : Cx} {x : Str} {p pos : Pos} {e : Expr} {es : List Expr} {t : TA} {id T : String} {r : List V → Hp → VK → Prop}
def tCB (r : List V → Hp → VK → Prop) (t : TA) : TE := fun σ H Q => t σ H fun vs H1 => r vs H1 Q
theorem pe_callB (hc : CallR X (.builtin id) r) (hg : Gl X x) (hm : X.mg x = none) (hv : bootBuiltins x = some (.builtin id)) (ha : PA X (e :: es) t) (hn : x ≠ "__name__" := by decide) (hdb : (x == ("__debug__" : Str)) = false := by decide)
    (he : starEach (e :: es) X.env = (false, eval e X.env) :: starEach es X.env := by rfl) (hpl : (backTo pos (starEach es X.env)).any (·.1) = false := by rfl) : PE X (.Call (.Name x p) (e :: es) [] pos) (tCB r t) := by
  intro pins s σ H Q I h
  refine wpAny_Call_Name_kw (ld_blt I hg hm hv ?_ hn hdb)
  exact PyProof.Rows.callWith_builtin1 (thn (ha pos pins s σ H _ I h) fun us s1 ⟨vs, H1, I1, r1, q1⟩ => hc pins s1 σ H1 vs us Q I1 r1 q1) he hpl
theorem pe_callTy (hc : CallR X (.type T) r) (hg : Gl X x) (hm : X.mg x = none) (hv : bootBuiltins x = some (.type T)) (ha : PA X (e :: es) t) (hn : x ≠ "__name__" := by decide) (hdb : (x == ("__debug__" : Str)) = false := by decide)
    (he : starEach (e :: es) X.env = (false, eval e X.env) :: starEach es X.env := by rfl) (hpl : (backTo pos (starEach es X.env)).any (·.1) = false := by rfl) : PE X (.Call (.Name x p) (e :: es) [] pos) (tCB r t) := by
  intro pins s σ H Q I h
  refine wpAny_Call_Name_kw (ld_blt I hg hm hv ?_ hn hdb)
  exact PyProof.Rows.callWith_type1 (thn (ha pos pins s σ H _ I h) fun us s1 ⟨vs, H1, I1, r1, q1⟩ => hc pins s1 σ H1 vs us Q I1 r1 q1) he hpl
end
end L2
namespace HT
open PySem PyProof.Rows
section
open PySem.SeqAt
open PySem.AutoSeq1 (wpAny_loadPart')
open PySem.MeetsSeq PySem.MeetsSeq2 PySem.MeetsSeq3
end
section
variable {prog : Program} {w : World} {A : Around} {E : Value → Shared → Prop} {s : Shared}
theorem cat_tup {t b : Addr} {vs ws : List Value} {Q : Value → Shared → Prop} (ht : IsTup s.heap t vs.toArray) (hb : IsTup s.heap b ws.toArray) (hv : vs ≠ [])
    (h1 : ws = [] → Q (.ref t) s) (h2 : ws ≠ [] → Q (.ref s.heap.objs.size) { s with heap := s.heap.push { cls := .type "tuple", data := .seq (vs ++ ws).toArray } })
    (hsz : vs.length + ws.length ≤ sizeLine) : wpAny (model prog w) A (binaryOp .Add (.ref t) (.ref b)) Q E s := by
  obtain ⟨⟨cls, dd, data, sl⟩, ho, hc, n, hd⟩ := id ht
  obtain ⟨⟨cls2, dd2, data2, sl2⟩, ho2, hc2, n2, hd2⟩ := id hb
  simp only at hc hd hc2 hd2
  subst hc hd hc2 hd2
  have e : vs.toArray ++ ws.toArray = (vs ++ ws).toArray := by simp
  by_cases hw : ws = []
  · exact concat_meets ⟨_, ho, rfl⟩ ⟨_, ho2, rfl⟩ noFill_tuple_add seq_tuple_add PySem.F.slot_tuple_add PySem.F.entry_tuple_add (PySem.F.args_tuple_add_2 _ _)
      (tuple_addW1 t b vs.toArray ws.toArray n n2 dd dd2 sl sl2 (by simpa using hv) (by simp [hw])) ⟨ho, ho2, h1 hw⟩
  · refine concat_meets ⟨_, ho, rfl⟩ ⟨_, ho2, rfl⟩ noFill_tuple_add seq_tuple_add PySem.F.slot_tuple_add PySem.F.entry_tuple_add (PySem.F.args_tuple_add_2 _ _)
      (tuple_addW2 t b vs.toArray ws.toArray n n2 dd dd2 sl sl2 (by simpa using hv) (by simpa using hw) (by rw [List.size_toArray, List.size_toArray]; exact hsz)) ⟨ho, ho2, ?_⟩
    rw [e]
    exact h2 hw
def sIx (n d : Nat) : Option Int → Nat
  | none => d
  | some v => if v < 0 then (v + (n : Int)).toNat else min v.toNat n
theorem sIx_le (n d : Nat) (hd : d ≤ n) (o : Option Int) : sIx n d o ≤ n := by
  cases o with
  | none => exact hd
  | some v =>
    show (if v < 0 then (v + (n : Int)).toNat else min v.toNat n) ≤ n
    by_cases hv : v < 0
    · rw [if_pos hv]; omega
    · rw [if_neg hv]; exact Nat.min_le_right _ _
theorem clip_eq (v : Int) (n d : Nat) : (if v < 0 then max (v + (n : Int)) 0 else min v (n : Int)) = ((sIx n d (some v) : Nat) : Int) := by
  show (if v < 0 then max (v + (n : Int)) 0 else min v (n : Int)) = (((if v < 0 then (v + (n : Int)).toNat else min v.toNat n) : Nat) : Int)
  by_cases hv : v < 0
  · simp only [if_pos hv]; omega
  · simp only [if_neg hv]; omega
theorem adjust_gen (lo hi : Option Int) (n : Nat) : Builtin.Slice.sliceAdjust lo hi 1 (n : Int) = (((sIx n 0 lo : Nat) : Int), ((sIx n n hi : Nat) : Int)) := by
  have h1 : ¬ ((1 : Int) < 0) := by omega
  unfold Builtin.Slice.sliceAdjust
  simp only [h1, if_false]
  refine Prod.ext ?_ ?_
  · cases lo with
    | none => rfl
    | some v => exact clip_eq v n 0
  · cases hi with
    | none => rfl
    | some v => exact clip_eq v n n
theorem places_gen (i j : Nat) : Builtin.Slice.slicePlaces (i : Int) (j : Int) 1 = j - i := by
  unfold Builtin.Slice.slicePlaces
  have h1 : (1 : Int) > 0 := by omega
  simp only [h1, if_true, Int.ediv_one]
  split <;> omega
theorem slicePart_ {v : Value} {o : Option Int} {Q : Option Int → Shared → Prop} (p : IsPart v o) (h : Q o s) : wpAny (model prog w) A (Builtin.Slice.slicePartIndex v) Q E s := by
  cases p with
  | none => exact slicePart_none h
  | int i t => exact slicePart_int h
theorem sliceApplied_gen {sl : Addr} {vl vu : Value} {lo hi : Option Int} {n : Nat} {Q : Int × Int × Nat → Shared → Prop} (hs : s.heap.IsSliceOf sl vl vu .none) (pl : IsPart vl lo) (pu : IsPart vu hi)
    (h : Q (((sIx n 0 lo : Nat) : Int), 1, sIx n n hi - sIx n 0 lo) s) : wpAny (model prog w) A (Builtin.Slice.sliceApplied (.ref sl) (pure (n : Int))) Q E s := by
  obtain ⟨os, hos, hcs, hds⟩ := id hs
  unfold Builtin.Slice.sliceApplied Builtin.Slice.sliceFields
  refine wpAny_bind (wpAny_bind (wpAny_field hos hds (x := vl) rfl (wpAny_bind (wpAny_field hos hds (x := vu) rfl (wpAny_bind (wpAny_field hos hds (x := .none) rfl (wpAny_pure ?_)))))))
  refine wpAny_bind (slicePart_none ?_)
  show wpAny _ _ (if ((1 : Int) == 0) = true then _ else _) _ _ s
  rw [if_neg (by decide)]
  refine wpAny_bind (slicePart_ pl (wpAny_bind (slicePart_ pu (wpAny_bind (wpAny_pure ?_)))))
  show wpAny _ _ (match Builtin.Slice.sliceAdjust lo hi 1 (n : Int) with | (lo, hi) => pure (lo, (1 : Int), Builtin.Slice.slicePlaces lo hi 1)) _ _ s
  rw [adjust_gen lo hi n]
  show wpAny _ _ (pure (((sIx n 0 lo : Nat) : Int), (1 : Int), Builtin.Slice.slicePlaces ((sIx n 0 lo : Nat) : Int) ((sIx n n hi : Nat) : Int) 1)) _ _ s
  rw [places_gen]
  exact wpAny_pure h
theorem pick_gen (xs : Array Value) (i k : Nat) : ((List.range k).filterMap fun (m : Nat) => xs[((i : Int) + (m : Int) * 1).toNat]?).toArray = ((xs.toList.drop i).take k).toArray := by
  have e : (fun (m : Nat) => xs[((i : Int) + (m : Int) * 1).toNat]?) = fun m => xs[i + m]? := by
    funext m
    have : ((i : Int) + (m : Int) * 1).toNat = i + m := by omega
    rw [this]
  rw [e]
  have := pick_run xs i k
  rw [List.filterMap_map] at this
  have e2 : ((fun x => xs[x]?) ∘ fun x => i + x) = fun m => xs[i + m]? := rfl
  rw [e2] at this
  rw [this]
theorem getItem_tuple_cut {t sl : Addr} {items : Array Value} {vl vu : Value} {lo hi : Option Int} {Q : Value → Shared → Prop} (ht : IsTup s.heap t items) (hs : s.heap.IsSliceOf sl vl vu .none) (pl : IsPart vl lo) (pu : IsPart vu hi)
    (hw : ¬ (sIx items.size 0 lo = 0 ∧ sIx items.size items.size hi = items.size))
    (h : Q (.ref s.heap.objs.size) { s with heap := s.heap.push { cls := .type "tuple", data := .seq ((items.toList.drop (sIx items.size 0 lo)).take (sIx items.size items.size hi - sIx items.size 0 lo)).toArray } })
    (hsz : items.size ≤ sizeLine) : wpAny (model prog w) A (getItem (.ref t) (.ref sl)) Q E s := by
  have htake : sizeOk (.seq ((items.toList.drop (sIx items.size 0 lo)).take (sIx items.size items.size hi - sIx items.size 0 lo)).toArray) := by
    show ((items.toList.drop (sIx items.size 0 lo)).take (sIx items.size items.size hi - sIx items.size 0 lo)).toArray.size ≤ sizeLine
    rw [List.size_toArray, List.length_take, List.length_drop, Array.length_toList]
    omega
  have hj : sIx items.size items.size hi ≤ items.size := sIx_le _ _ (Nat.le_refl _) hi
  obtain ⟨os, hos, hcs, hds⟩ := id hs
  have hTs : s.TypeIs (.ref sl) "slice" := ⟨os, hos, hcs⟩
  unfold getItem
  try with_reducible refine wpAny_holding ?_
  first | refine wpAny_bind (wpAny_pure ?_) | skip
  refine wpAny_bind (wpAny_sequenceKey ht.typeIs (by decide) ?_)
  refine wpAny_bind (wpAny_callSpecial?_slot (name := Str.ofString "__getitem__") ht.typeIs PyProof.Rows.slot_tuple_getitem
    (wpAny_call_entry PyProof.Rows.slot_tuple_getitem ht.typeIs entry_tuple_getitem ?_ (args_tuple_getitem _ _)))
  show wpAny _ _ (Builtin.Tuple.tupleItemsOf (.ref t) >>= _) _ _ s
  refine wpAny_bind (tupleItemsOf_ ht ?_)
  refine wpAny_bind (wpAny_typeOf hTs ?_)
  rw [if_pos (by decide)]
  refine wpAny_bind (sliceApplied_gen hs pl pu ?_)
  have hno : ¬ ((((sIx items.size 0 lo : Nat) : Int) == 0 && (1 : Int) == 1 && (sIx items.size items.size hi - sIx items.size 0 lo) == items.size) = true) := by
    intro q
    rw [Bool.and_eq_true, Bool.and_eq_true] at q
    have q1 : ((sIx items.size 0 lo : Nat) : Int) = 0 := eq_of_beq q.1.1
    have q2 : sIx items.size items.size hi - sIx items.size 0 lo = items.size := eq_of_beq q.2
    exact hw ⟨by omega, by omega⟩
  show wpAny _ _ (if (((sIx items.size 0 lo : Nat) : Int) == 0 && (1 : Int) == 1 && (sIx items.size items.size hi - sIx items.size 0 lo) == items.size) = true then _ else _) _ _ s
  rw [if_neg hno, pick_gen]
  first
    | exact wpAny_bind (m := Builtin.Tuple.tupleExact _) (wpAny_newObj_type (wpAny_pure ⟨_, rfl, wpAny_pure h⟩) htake)
    | exact wpAny_bind (m := Builtin.Tuple.tupleExact _) (wpAny_newObj_type (wpAny_bind (wpAny_pure (wpAny_pure ⟨_, rfl, wpAny_pure h⟩))) htake)
    | exact wpAny_bind (wpAny_bind (m := Builtin.Tuple.tupleExact _) (wpAny_newObj_type (wpAny_pure (wpAny_pure ⟨_, rfl, wpAny_pure h⟩)) htake))
    | exact wpAny_bind (wpAny_bind (m := Builtin.Tuple.tupleExact _) (wpAny_newObj_type (wpAny_pure ⟨_, rfl, wpAny_pure h⟩) htake))
end
end HT
namespace L2
open PySem PySem.Spec PyProof.Rows
abbrev TO := St → Hp → (Option Int → Hp → Prop) → Prop
def PO (X : Cx) (e : Option Expr) (t : TO) : Prop :=
  ∀ (pins : List (Addr × Obj)) (s : Shared) (σ : St) (H : Hp) (Q : Option Int → Hp → Prop), Inv X pins σ H s → t σ H Q →
    wpAny (model X.prog X.w) X.A (evalPart e X.env) (fun u s' => ∃ o H', Inv X pins σ H' s' ∧ IsPart u o ∧ Q o H') X.xe s
def tNoPart : TO := fun _ H Q => Q none H
def tPart (t : TE) : TO := fun σ H Q => t σ H fun x H1 => ∃ i, x = .int i ∧ Q (some i) H1
theorem intsAre_of {ns : List Int} : ∀ {us : List Value}, Vals (ns.map V.int) us → IntsAre us ns := by
  induction ns with
  | nil => intro us r; rw [List.map_nil] at r; cases r; exact .nil
  | cons n ns ih =>
    intro us r
    rw [List.map_cons] at r
    cases r with
    | cons r1 r2 =>
      obtain ⟨t, e⟩ := r1
      subst e
      exact .cons n t (ih r2)
section
variable {X : Cx} {e : Expr} {te : TE} {lo hi : Option Expr} {tl th : TO} {pos p2 : Pos}
theorem po_none : PO X none tNoPart := by
  intro pins s σ H Q I h
  rw [evalPart_none]
  exact wpAny_pure ⟨none, H, I, .none, h⟩
theorem po_some (h : PE X e te) : PO X (some e) (tPart te) := by
  intro pins s σ H Q I hw
  rw [evalPart_some]
  refine thn (h pins s σ H _ I hw) fun u s1 ⟨x, H1, I1, r1, q1⟩ => ?_
  obtain ⟨i, rfl, q⟩ := q1
  obtain ⟨t, rfl⟩ := r1
  exact ⟨some i, H1, I1, .int i t, q⟩
def SlR (X : Cx) (r : V → Option Int → Option Int → Hp → VK → Prop) : Prop :=
  ∀ (pins : List (Addr × Obj)) (s : Shared) (σ : St) (H : Hp) (x : V) (v vl vu : Value) (lo hi : Option Int) (sl : Addr) (Q : VK), Inv X pins σ H s → RelV x v → s.heap.IsSliceOf sl vl vu .none → IsPart vl lo → IsPart vu hi → r x lo hi H Q →
    ∃ T id, typeLookup (.type T) "__getitem__" = pure (some (.builtin id)) ∧ s.TypeIs v T ∧ wpAny (model X.prog X.w) X.A (getItem v (.ref sl)) (EP X pins σ Q) X.xe s
def tSl (r : V → Option Int → Option Int → Hp → VK → Prop) (te : TE) (tl th : TO) : TE := fun σ H Q => te σ H fun x H1 => tl σ H1 fun l H2 => th σ H2 fun u H3 => r x l u H3 Q
theorem pe_slice {r : V → Option Int → Option Int → Hp → VK → Prop} (hr : SlR X r) (he : PE X e te) (hl : PO X lo tl) (hu : PO X hi th) : PE X (.Subscript e (.Slice lo hi none p2) pos) (tSl r te tl th) := by
  intro pins s σ H Q I h
  refine Subscript_ (thn (he pins s σ H _ I h) fun v s1 ⟨x, H1, I1, r1, q1⟩ => ?_)
  refine wpAny_Slice (thn (hl pins s1 σ H1 _ I1 q1) fun vl s2 ⟨l, H2, I2, pl, q2⟩ => thn (hu pins s2 σ H2 _ I2 q2) fun vu s3 ⟨u, H3, I3, pu, q3⟩ => ?_)
  rw [evalPart_none]
  refine wpAny_pure ?_
  have I4 : Inv X pins σ H3 { s3 with heap := s3.heap.push { cls := .type "slice", data := .fields #[vl, vu, .none] } } := I3.kept (t' := s3.toks) fun b ob q => Heap.get?_push_of_some _ q
  obtain ⟨T, id, hT, ht, hg⟩ := hr pins { s3 with heap := s3.heap.push { cls := .type "slice", data := .fields #[vl, vu, .none] } } σ H3 x v vl vu l u s3.heap.objs.size Q I4 r1 (Heap.IsSliceOf.new ..) pl pu q3
  show wpAny (model X.prog X.w) X.A (subscriptTail e (.Slice lo hi none p2) v (.ref s3.heap.objs.size)) (EP X pins σ Q) X.xe { s3 with heap := s3.heap.push { cls := .type "slice", data := .fields #[vl, vu, .none] } }
  exact tail_any (ops := [.ref s3.heap.objs.size, v]) ht hT hg (by with_unfolding_all rfl)
def cutV (xs : List V) (lo hi : Option Int) : List V := (xs.drop (HT.sIx xs.length 0 lo)).take (HT.sIx xs.length xs.length hi - HT.sIx xs.length 0 lo)
theorem cutV_length (xs : List V) (lo hi : Option Int) : (cutV xs lo hi).length ≤ xs.length := by
  unfold cutV
  rw [List.length_take, List.length_drop]
  omega
def rSlT (K : PySem.W.Frag) : V → Option Int → Option Int → Hp → VK → Prop := fun x lo hi H Q => ∃ a xs, x = .ref a ∧ SqT K H a xs ∧
  ¬ (HT.sIx xs.length 0 lo = 0 ∧ HT.sIx xs.length xs.length hi = xs.length) ∧ ∀ p, H p = none → Q (.ref p) (upd H p (.tup (cutV xs lo hi)))
theorem sl_tup : SlR X (rSlT X.K) := by
  intro pins s σ H x v vl vu lo hi sl Q I rx hs pl pu h
  obtain ⟨a, xs, rfl, hx, hw, q⟩ := h
  cases rx
  obtain ⟨its, r, ht, hz⟩ := I.tuple hx
  have hlen : its.toArray.size = xs.length := by rw [List.size_toArray]; exact r.length.symm
  refine ⟨"tuple", _, PyProof.Rows.slot_tuple_getitem.lookup, ht.typeIs, ?_⟩
  refine HT.getItem_tuple_cut ht hs pl pu (by rw [hlen]; exact hw) ?_ (by rw [hlen]; exact hz)
  rw [hlen]
  refine ⟨.ref s.heap.objs.size, _, I.laid (t' := s.toks) (o := .tup (cutV xs lo hi)) (fun b ob q => Heap.get?_push_of_some _ q) (Nat.le_refl _) ?_, rfl, q _ (I.hok.fresh (Nat.le_refl _))⟩
  exact ⟨Nat.le_trans (cutV_length xs lo hi) hz, _, (r.drop (HT.sIx xs.length 0 lo)).take (HT.sIx xs.length xs.length hi - HT.sIx xs.length 0 lo), IsTup.new _ _⟩
def rCatT (K : PySem.W.Frag) : R2 := fun x y H Q => ∃ a b xs ys, x = .ref a ∧ y = .ref b ∧ SqT K H a xs ∧ SqT K H b ys ∧ xs ≠ [] ∧ xs.length + ys.length ≤ sizeLine ∧
  (ys = [] → Q (.ref a) H) ∧ (ys ≠ [] → ∀ p, H p = none → Q (.ref p) (upd H p (.tup (xs ++ ys))))
theorem Vals.nil_iff {xs : List V} {us : List Value} (r : Vals xs us) : us = [] ↔ xs = [] := by
  cases r with
  | nil => simp
  | cons _ _ => simp
theorem op_catT : OpR X (binaryOp .Add) (rCatT X.K) := by
  intro pins s σ H x y v u Q I rx ry h
  obtain ⟨a, b, xs, ys, rfl, rfl, ha, hb, hx, hz, q1, q2⟩ := h
  cases rx
  cases ry
  obtain ⟨its, r1, p1, _⟩ := I.tuple ha
  obtain ⟨its2, r2, p2, _⟩ := I.tuple hb
  refine HT.cat_tup p1 p2 (fun z => hx (r1.nil_iff.mp z)) (fun z => ⟨.ref a, H, I, rfl, q1 (r2.nil_iff.mp z)⟩) (fun z => ?_) (by rw [← r1.length, ← r2.length]; exact hz)
  refine ⟨.ref s.heap.objs.size, _, I.laid (t' := s.toks) (o := .tup (xs ++ ys)) (fun b ob q => Heap.get?_push_of_some _ q) (Nat.le_refl _) ?_, rfl, q2 (fun w => z (r2.nil_iff.mpr w)) _ (I.hok.fresh (Nat.le_refl _))⟩
  exact ⟨by rw [List.length_append]; exact hz, _, r1.append r2, IsTup.new _ _⟩
end
end L2
namespace L2
open PySem PySem.Spec PyProof.Rows
def ixN (n : Nat) (i : Int) : Option Nat := if 0 ≤ i then (if i < n then some i.toNat else none) else if -(n : Int) ≤ i then some (i + n).toNat else none
def atI {α : Type} (xs : List α) (i : Int) : Option α := (ixN xs.length i).bind fun j => xs[j]?
theorem ixN_seq {n : Nat} {i : Int} {j : Nat} (h : ixN n i = some j) : seqIndex? i n = some j ∧ j < n ∧ -(n : Int) ≤ i ∧ i < n := by
  unfold ixN at h
  by_cases h0 : 0 ≤ i
  · rw [if_pos h0] at h
    by_cases h1 : i < n
    · rw [if_pos h1] at h
      have e : i.toNat = j := Option.some.inj h
      exact ⟨by rw [seqIndex_of h0 h1, e], by omega, by omega, h1⟩
    · rw [if_neg h1] at h; cases h
  · rw [if_neg h0] at h
    by_cases h1 : -(n : Int) ≤ i
    · rw [if_pos h1] at h
      have e : (i + n).toNat = j := Option.some.inj h
      exact ⟨by rw [seqIndex_neg (by omega) h1, e], by omega, h1, by omega⟩
    · rw [if_neg h1] at h; cases h
theorem atI_get {α : Type} {xs : List α} {i : Int} {v : α} (h : atI xs i = some v) : ∃ j, seqIndex? i xs.length = some j ∧ xs[j]? = some v ∧ j < xs.length ∧ -(xs.length : Int) ≤ i ∧ i < xs.length := by
  unfold atI at h
  cases e : ixN xs.length i with
  | none => rw [e] at h; cases h
  | some j =>
    rw [e] at h
    obtain ⟨h1, h2, h3, h4⟩ := ixN_seq e
    exact ⟨j, h1, h, h2, h3, h4⟩
theorem atI_nat {α : Type} {xs : List α} {j : Nat} {v : α} (h : xs[j]? = some v) : atI xs (j : Int) = some v := by
  have hj : j < xs.length := (List.getElem?_eq_some_iff.mp h).1
  have e : ixN xs.length (j : Int) = some j := by
    unfold ixN
    rw [if_pos (by omega), if_pos (by omega)]; simp
  unfold atI; rw [e]; exact h
def PlainIx (b : Expr) : Prop := ∀ o i, subscripted b false o i = operate [o, i] (getItem o i)
def IxR (X : Cx) (r : R2) : Prop :=
  ∀ (value slice : Expr) (pins : List (Addr × Obj)) (s : Shared) (σ : St) (H : Hp) (x y : V) (v u : Value) (Q : VK), Inv X pins σ H s → RelV x v → RelV y u → r x y H Q →
    subscripted slice false v u = operate [v, u] (getItem v u) → wpAny (model X.prog X.w) X.A (subscriptTail value slice v u) (EP X pins σ Q) X.xe s
def MtR (X : Cx) (id : String) (r : V → List V → Hp → VK → Prop) : Prop :=
  ∀ (pins : List (Addr × Obj)) (s : Shared) (σ : St) (H : Hp) (x : V) (xs : List V) (v : Value) (us : List Value) (Q : VK), Inv X pins σ H s → RelV x v → Vals xs us → r x xs H Q →
    wpAny (model X.prog X.w) X.A (call (.builtin id) (v :: us)) (EP X pins σ Q) X.xe s
section
variable {X : Cx} {a b : Expr} {ta tb : TE} {pos : Pos}
theorem pe_ix {r : R2} (hr : IxR X r) (ha : PE X a ta) (hb : PE X b tb) (hs : PlainIx b) : PE X (.Subscript a b pos) (tOp r ta tb) := by
  intro pins s σ H Q I h
  exact Subscript_ (binT ha hb I h fun v u s2 x y H2 I2 rx ry q => hr a b pins s2 σ H2 x y v u Q I2 rx ry q (hs _ _))
def rIxL (K : PySem.W.Frag) : R2 := fun x y H Q => ∃ p xs i v, x = .ref p ∧ y = .int i ∧ SqL K H p xs ∧ atI xs i = some v ∧ Q v H
def rIxT (K : PySem.W.Frag) : R2 := fun x y H Q => ∃ p xs i v, x = .ref p ∧ y = .int i ∧ SqT K H p xs ∧ atI xs i = some v ∧ Q v H
def rIxS : R2 := fun x y H Q => ∃ z i c, x = .str z ∧ y = .int i ∧ z.length ≤ sizeLine ∧ atI z.cps.toList i = some c ∧ Q (.str ⟨#[c]⟩) H
theorem ix_list : IxR X (rIxL X.K) := by
  intro value slice pins s σ H x y v u Q I rx ry h hs
  obtain ⟨p, xs, i, z, rfl, rfl, hq, he, q⟩ := h
  cases rx
  obtain ⟨t, rfl⟩ := ry
  obtain ⟨its, r, pl, hz⟩ := I.list hq
  obtain ⟨j, h1, h2, h3, h4, h5⟩ := atI_get he
  obtain ⟨w, ew, rw'⟩ := r.get h2
  have hl := r.length
  have hn := line63
  have fin : EP X pins σ Q w s := ⟨z, H, I, rw', q⟩
  by_cases h0 : 0 ≤ i
  · have hj : i.toNat = j := by
      rw [seqIndex_of h0 h5] at h1
      exact Option.some.inj h1
    exact item_listR pl.isList h0 (by omega) (by rw [hj]; simpa using ew) fin hs
  · have hj : (i + (its.toArray.size : Int)).toNat = j := by
      rw [seqIndex_neg (by omega) h4] at h1
      rw [List.size_toArray, ← hl]
      exact Option.some.inj h1
    exact subscriptTail_builtinR (x := w) pl.isList.typeIs slot_list_getitem.lookup
      (wpAny_getItem_list_neg (Q := fun r s' => r = w ∧ EP X pins σ Q r s') pl.isList (by omega) (by rw [List.size_toArray] <;> omega) (by omega) (by rw [hj]; simpa using ew) ⟨rfl, fin⟩) hs
theorem ix_tup : IxR X (rIxT X.K) := by
  intro value slice pins s σ H x y v u Q I rx ry h hs
  obtain ⟨p, xs, i, z, rfl, rfl, hq, he, q⟩ := h
  cases rx
  obtain ⟨t, rfl⟩ := ry
  obtain ⟨its, r, pl, hz⟩ := I.tuple hq
  obtain ⟨j, h1, h2, h3, h4, h5⟩ := atI_get he
  obtain ⟨w, ew, rw'⟩ := r.get h2
  have hl := r.length
  have hn := line63
  have fin : EP X pins σ Q w s := ⟨z, H, I, rw', q⟩
  exact subscriptTail_builtinR (x := w) pl.typeIs slot_tuple_getitem.lookup
    (getItem_tuple (j := j) (Q := fun r s' => r = w ∧ EP X pins σ Q r s') pl (by omega) (by omega) (by rw [List.size_toArray, ← hl]; exact h1) (by simpa using ew) ⟨rfl, fin⟩) hs
theorem ix_str : IxR X rIxS := by
  intro value slice pins s σ H x y v u Q I rx ry h hs
  obtain ⟨z, i, c, rfl, rfl, hz, he, q⟩ := h
  obtain ⟨t, rfl⟩ := rx
  obtain ⟨t', rfl⟩ := ry
  obtain ⟨j, h1, h2, h3, h4, h5⟩ := atI_get he
  have hl : z.cps.toList.length = z.length := by simp [Str.length]
  rw [hl] at h1 h4 h5
  have hn := line63
  exact tail_any (typeIs_str s z t) slot_str_getitem.lookup (getItem_str (c := c) (by
    have e1 : decide (i < -(2 ^ 63 : Int)) = false := decide_eq_false (by omega)
    have e2 : decide (i ≥ 2 ^ 63) = false := decide_eq_false (by omega)
    rw [e1, e2, Bool.or_false]) (by rw [h1]; simpa using h2) ⟨.str ⟨#[c]⟩, H, I.tok _, ⟨_, rfl⟩, q⟩) hs
theorem mapSeq_set (its : List Value) (n j : Nat) (u : Value) : Obj.mapSeq (·.setIfInBounds j u) { cls := .type "list", data := .seq its.toArray n } = { cls := .type "list", data := .seq (its.set j u).toArray n } := by
  simp [Obj.mapSeq]
theorem Inv.lst {pins : List (Addr × Obj)} {σ : St} {H : Hp} {s : Shared} {p : Addr} {xs : List V} (I : Inv X pins σ H s) (h : H p = some (.lst xs)) :
    ∃ (its : List Value) (n : Nat), Vals xs its ∧ s.heap.get? p = some { cls := .type "list", data := .seq its.toArray n } ∧ xs.length ≤ sizeLine := by
  obtain ⟨z, its, n, r, e⟩ := I.hok p _ h
  exact ⟨its, n, r, e, z⟩
theorem Inv.lstUpd {pins : List (Addr × Obj)} {σ : St} {H : Hp} {s : Shared} {p : Addr} {xs ys : List V} {its its' : List Value} {n n' : Nat} {f : Obj → Obj} (I : Inv X pins σ H s) (h : H p = some (.lst xs))
    (ho : s.heap.get? p = some { cls := .type "list", data := .seq its.toArray n }) (hf : f { cls := .type "list", data := .seq its.toArray n } = { cls := .type "list", data := .seq its'.toArray n' }) (r : Vals ys its') (hz : ys.length ≤ sizeLine) (t : Nat) :
    Inv X pins σ (upd H p (.lst ys)) { s with heap := s.heap.update p f, toks := t } := by
  have e : (s.heap.update p f).get? p = some { cls := .type "list", data := .seq its'.toArray n' } := by
    rw [Heap.get?_update_self f ho (by rw [hf] <;> rfl), hf]
  refine I.write (x := p) (e := p) (by rw [h]; trivial) (.inl rfl) (fun b u hb q => (Heap.get?_update_other _ _ (Ne.symm hb)).trans q) ⟨_, e⟩ ?_
  exact ⟨hz, its', n', r, e⟩
def rSetL : V → V → V → Hp → (Hp → Prop) → Prop := fun o i v H Q => ∃ p xs k j, o = .ref p ∧ i = .int k ∧ H p = some (.lst xs) ∧ ixN xs.length k = some j ∧ Q (upd H p (.lst (xs.set j v)))
theorem set_list : PSet X rSetL := by
  intro pins s σ H o i v ov iv u Q I ro ri rv h
  obtain ⟨p, xs, k, j, rfl, rfl, hp, hj, q⟩ := h
  cases ro
  obtain ⟨t, rfl⟩ := ri
  obtain ⟨its, n, r, ho, hz⟩ := I.lst hp
  obtain ⟨h1, h2, h3, h4⟩ := ixN_seq hj
  have hl := r.length
  have hn := line63
  have I' : Inv X pins σ (upd H p (.lst (xs.set j v))) { s with heap := s.heap.update p (Obj.mapSeq (·.setIfInBounds j u)) } :=
    I.lstUpd hp ho (mapSeq_set its n j u) (r.set rv j) (by rw [List.length_set]; exact hz) s.toks
  by_cases h0 : 0 ≤ k
  · have hk : k.toNat = j := by
      rw [seqIndex_of h0 h4] at h1
      exact Option.some.inj h1
    exact PySem.W.ki_setAt ho h0 (by omega) (by rw [List.size_toArray, ← hl]; exact h4) (by rw [hk]; exact ⟨_, I', q⟩)
  · have hk : (k + (its.toArray.size : Int)).toNat = j := by
      rw [seqIndex_neg (by omega) h3] at h1
      rw [List.size_toArray, ← hl]
      exact Option.some.inj h1
    exact PySem.W.ki_setBack ho (by omega) (by rw [List.size_toArray, ← hl]; exact h3) (by omega) (by rw [hk]; exact ⟨_, I', q⟩)
theorem slice_bounds (lo hi : Option Int) (n : Nat) : (sliceBounds lo hi none n).1 = ((HT.sIx n 0 lo : Nat) : Int) ∧ (sliceBounds lo hi none n).2.1 = ((HT.sIx n n hi : Nat) : Int) ∧ (sliceBounds lo hi none n).2.2 = 1 := by
  refine ⟨?_, ?_, rfl⟩
  · cases lo with
    | none => simp [sliceBounds, HT.sIx]
    | some i =>
      simp only [sliceBounds, HT.sIx, Option.getD_none, show (1 : Int) > 0 by decide, if_true]
      by_cases h : i < 0
      · simp only [h, if_true] <;> omega
      · simp only [h, if_false] <;> omega
  · cases hi with
    | none => simp [sliceBounds, HT.sIx]
    | some i =>
      simp only [sliceBounds, HT.sIx, Option.getD_none, show (1 : Int) > 0 by decide, if_true]
      by_cases h : i < 0
      · simp only [h, if_true] <;> omega
      · simp only [h, if_false] <;> omega
theorem slicePick_cut (its : List Value) (lo hi : Option Int) : slicePick its.toArray lo hi none = ((its.drop (HT.sIx its.length 0 lo)).take (HT.sIx its.length its.length hi - HT.sIx its.length 0 lo)).toArray := by
  obtain ⟨h1, h2, h3⟩ := slice_bounds lo hi its.toArray.size
  unfold slicePick
  rw [h1, h2, h3]
  simp only [sliceRange_one, pick_run, List.size_toArray] <;> rfl
def rSlL (K : PySem.W.Frag) : V → Option Int → Option Int → Hp → VK → Prop := fun x lo hi H Q => ∃ a xs, x = .ref a ∧ SqL K H a xs ∧ ∀ p, H p = none → Q (.ref p) (upd H p (.lst (cutV xs lo hi)))
theorem sl_list : SlR X (rSlL X.K) := by
  intro pins s σ H x v vl vu lo hi sl Q I rx hs pl pu h
  obtain ⟨a, xs, rfl, hx, q⟩ := h
  cases rx
  obtain ⟨its, r, ht, hz⟩ := I.list hx
  have hlen := r.length
  refine ⟨"list", _, slot_list_getitem.lookup, ht.isList.typeIs, ?_⟩
  refine wpAny_getItem_list_slice ht.isList hs pl pu .none (by simp) ?_ (by rw [List.size_toArray] <;> omega)
  rw [slicePick_cut, ← hlen]
  refine ⟨.ref s.heap.objs.size, _, I.laid (t' := s.toks) (o := .lst (cutV xs lo hi)) (fun b ob q => Heap.get?_push_of_some _ q) (Nat.le_refl _) ?_, rfl, q _ (I.hok.fresh (Nat.le_refl _))⟩
  exact ⟨Nat.le_trans (cutV_length xs lo hi) hz, _, 0, (r.drop (HT.sIx xs.length 0 lo)).take (HT.sIx xs.length xs.length hi - HT.sIx xs.length 0 lo), Heap.get?_push_size _ rfl⟩
theorem call_len_seq : CallR X (.builtin "len") (fun xs H Q => ∃ p ys, xs = [.ref p] ∧ (SqL X.K H p ys ∨ SqT X.K H p ys) ∧ Q (.int ys.length) H) := by
  intro pins s σ H xs us Q I r h
  obtain ⟨p, ys, rfl, hq, q⟩ := h
  obtain ⟨u, rfl, rx⟩ := vals1 r
  cases rx
  have hn := line63
  rcases hq with hq | hq
  · obtain ⟨its, r', pl, hz⟩ := I.list hq
    have hlen := r'.length
    exact Calls.call_len_list pl.isList (by simp only [List.size_toArray] <;> omega) ⟨.int ys.length, H, I.tok _, ⟨s.toks + 1, by rw [List.size_toArray, hlen]⟩, q⟩
  · obtain ⟨its, r', pl, hz⟩ := I.tuple hq
    have hlen := r'.length
    exact len_tuple pl (by simp only [List.size_toArray] <;> omega) ⟨.int ys.length, H, I.tok _, ⟨s.toks + 1, by rw [List.size_toArray, hlen]⟩, q⟩
theorem call_len_str : CallR X (.builtin "len") (fun xs H Q => ∃ z, xs = [.str z] ∧ z.length ≤ sizeLine ∧ Q (.int z.length) H) := by
  intro pins s σ H xs us Q I r h
  obtain ⟨z, rfl, hz, q⟩ := h
  obtain ⟨u, rfl, t, rfl⟩ := vals1 r
  have hn := line63
  exact len_str (by omega) ⟨.int z.length, H, I.tok _, ⟨_, rfl⟩, q⟩
theorem call_list_of : CallR X (.type "list") (fun xs H Q => ∃ p ys, xs = [.ref p] ∧ (SqL X.K H p ys ∨ SqT X.K H p ys) ∧ ∀ l, H l = none → Q (.ref l) (upd H l (.lst ys))) := by
  intro pins s σ H xs us Q I r h
  obtain ⟨p, ys, rfl, hq, q⟩ := h
  obtain ⟨u, rfl, rx⟩ := vals1 r
  cases rx
  have fin : ∀ (its : List Value), Vals ys its → ys.length ≤ sizeLine → ∀ (h' : Heap) (c' : Nat), (∀ b o', s.heap.get? b = some o' → h'.get? b = some o') →
      h'.get? s.heap.objs.size = some { cls := .type "list", dict := none, data := .seq its.toArray c', slots := #[] } → EP X pins σ Q (.ref s.heap.objs.size) { s with heap := h' } := fun its r' hz h' c' kp e =>
    ⟨.ref s.heap.objs.size, _, I.laid (t' := s.toks) kp (Nat.le_refl _) (show ObjOk X.prog X.w _ h' _ (.lst ys) from ⟨hz, its, c', r', e⟩), rfl, q _ (I.hok.fresh (Nat.le_refl _))⟩
  rcases hq with hq | hq
  · obtain ⟨its, r', pl, hz⟩ := I.list hq
    have hlen := r'.length
    obtain ⟨o, ho, hc, n, hd⟩ := pl.isList
    exact call_list_seq p (.inl rfl) ho hc hd (fun h' c' kp e => fin its r' hz h' c' kp e) (by simp only [List.size_toArray] <;> omega)
  · obtain ⟨its, r', pl, hz⟩ := I.tuple hq
    have hlen := r'.length
    obtain ⟨o, ho, hc, n, hd⟩ := pl
    exact call_list_seq p (.inr rfl) ho hc hd (fun h' c' kp e => fin its r' hz h' c' kp e) (by simp only [List.size_toArray] <;> omega)
theorem call_tuple_of : CallR X (.type "tuple") (fun xs H Q => ∃ p ys, xs = [.ref p] ∧ ((SqL X.K H p ys ∧ ∀ l, H l = none → Q (.ref l) (upd H l (.tup ys))) ∨ (SqT X.K H p ys ∧ Q (.ref p) H))) := by
  intro pins s σ H xs us Q I r h
  obtain ⟨p, ys, rfl, h⟩ := h
  obtain ⟨u, rfl, rx⟩ := vals1 r
  cases rx
  rcases h with ⟨hq, q⟩ | ⟨hq, q⟩
  · obtain ⟨its, r', pl, hz⟩ := I.list hq
    have hlen := r'.length
    refine call_tuple_list pl.isList (fun h' kp => ?_) (by simp only [List.size_toArray] <;> omega)
    have I1 : Inv X pins σ H { s with heap := h' } := I.kept (t' := s.toks) kp
    have I2 : Inv X pins σ (upd H h'.objs.size (.tup ys)) { s with heap := h'.push { cls := .type "tuple", data := .seq its.toArray } } :=
      I1.laid (t' := s.toks) (fun b o e => Heap.get?_push_of_some _ e) (Nat.le_refl _) (show ObjOk X.prog X.w _ _ _ (.tup ys) from ⟨hz, its, r', IsTup.new _ _⟩)
    exact ⟨.ref h'.objs.size, _, I2, rfl, q _ (I1.hok.fresh (Nat.le_refl _))⟩
  · obtain ⟨its, r', pl, hz⟩ := I.tuple hq
    exact call_tuple_same pl ⟨.ref p, H, I, rfl, q⟩
def tyV (K : PySem.W.Frag) (T : String) (x : V) (H : Hp) : Prop := match x with
  | .str _ => T = "str"
  | .int _ => T = "int"
  | .ref p => (T = "list" ∧ ∃ xs, SqL K H p xs) ∨ (T = "tuple" ∧ ∃ o, K.lookup p = some o ∧ o.cls = .type "tuple" ∧ o.dict = none) ∨
      (T = "dict" ∧ ((∃ kvs, H p = some (.dK kvs)) ∨ ∃ kvs, H p = some (.dT kvs))) ∨ (T = "set" ∧ ∃ S n, H p = some (.set S n))
  | _ => False
theorem tyV_is {pins : List (Addr × Obj)} {σ : St} {H : Hp} {s : Shared} {T : String} {x : V} {v : Value} (I : Inv X pins σ H s) (r : RelV x v) (ty : tyV X.K T x H) :
    s.TypeIs v T ∧ ∀ a, v = .ref a → ∃ ob, s.heap.get? a = some ob ∧ ob.dict = none := by
  cases x with
  | str z =>
    obtain ⟨t, rfl⟩ := r
    cases (show T = "str" from ty)
    exact ⟨typeIs_str s z t, fun _ e => nomatch e⟩
  | int i =>
    obtain ⟨t, rfl⟩ := r
    cases (show T = "int" from ty)
    exact ⟨typeIs_int s i t, fun _ e => nomatch e⟩
  | ref p =>
    cases r
    rcases ty with ⟨rfl, xs, hq⟩ | ⟨rfl, o, hk, hc, hd⟩ | ⟨rfl, hk⟩ | ⟨rfl, S, n, hk⟩
    · obtain ⟨its, _, pl, _⟩ := I.list hq
      refine ⟨pl.isList.typeIs, fun a e => ?_⟩
      cases e
      obtain ⟨o, n, e, c, hd, _⟩ := pl
      exact ⟨o, e, hd⟩
    · refine ⟨⟨o, I.kIn p o hk, hc⟩, fun a e => ?_⟩
      cases e
      exact ⟨o, I.kIn _ o hk, hd⟩
    · have z : ∃ o, s.heap.get? p = some o ∧ o.ExactDict := by
        rcases hk with ⟨kvs, hk⟩ | ⟨kvs, hk⟩
        · obtain ⟨_, _, _, _, o, _, _, e, ex, _⟩ := I.hok p _ hk
          exact ⟨o, e, ex⟩
        · obtain ⟨_, _, _, _, o, _, _, e, ex, _⟩ := I.hok p _ hk
          exact ⟨o, e, ex⟩
      obtain ⟨o, e, ex⟩ := z
      refine ⟨⟨o, e, ex.1⟩, fun a e2 => ?_⟩
      cases e2
      exact ⟨o, e, ex.2.1⟩
    · obtain ⟨o, _, _, _, e, ex, _⟩ := I.hok p _ hk
      refine ⟨⟨o, e, ex.1⟩, fun a e2 => ?_⟩
      cases e2
      exact ⟨o, e, ex.2.1⟩
  | _ => exact False.elim ty
def tBM (K : PySem.W.Frag) (T : String) (r : V → List V → Hp → VK → Prop) (to : TE) (t : TA) : TE := fun σ H Q => to σ H fun x H1 => tyV K T x H1 ∧ t σ H1 fun xs H2 => r x xs H2 Q
variable {o e : Expr} {es : List Expr} {to : TE} {t : TA} {name : Str} {apos cpos : Pos} {T id : String} {r : V → List V → Hp → VK → Prop}
theorem pe_bm (pa : PlainAttrs T) (slot : Slot T name id) (hty : typeOf (.builtin id) = pure (.type "method_descriptor")) (hm : MtR X id r) (ho : PE X o to) (ha : PA X (e :: es) t)
    (hbase : attributeBase o name X.env (eval o X.env) = eval o X.env := by rfl)
    (hfew : ((backTo cpos (starEach (e :: es) X.env)).all (fun x => !x.1) && (backToKw cpos (keywordEach [] X.env)).all (fun x => x.1.isSome)
      && decide ((e :: es).length + ([] : List Keyword).length + (if ([] : List Keyword).isEmpty then 0 else 1) < 30)) = true := by rfl)
    (hline : (apos.endLine == cpos.line) = true := by rfl) (hs : starEach (e :: es) X.env = (false, eval e X.env) :: starEach es X.env := by rfl) (hplain : (backTo cpos (starEach es X.env)).any (·.1) = false := by rfl) :
    PE X (.Call (.Attribute o name apos) (e :: es) [] cpos) (tBM X.K T r to t) := by
  intro pins s σ H Q I h
  refine wpAny_Call_method_late hbase hfew hline rfl (thn (ho pins s σ H _ I h) fun v s1 ⟨x, H1, I1, r1, ty, q1⟩ => ?_)
  obtain ⟨h1, h2⟩ := tyV_is I1 r1 ty
  refine ⟨T, id, pa, slot, hty, h1, h2, ?_⟩
  have hA := ha cpos pins s1 σ H1 _ I1 q1
  rw [hs] at hA ⊢
  refine Calls.callWith_builtin (by show (false || (backTo cpos (starEach es X.env)).any (·.1)) = false; rw [hplain] <;> rfl) (Calls.evalArgs_plain ?_)
  exact thn hA fun us s2 ⟨vs, H2, I2, r2, q2⟩ => hm pins s2 σ H2 x vs v us Q I2 r1 r2 q2
/- xs.append(e), list.index on a module's tuple .. are MtR facts of 06m -/
end
end L2
namespace L2
open PySem PySem.Spec PyProof.Rows
def MtM (X : Cx) (id : String) (r : V → List V → Hp → VK → Prop) : Prop :=
  ∀ (pins : List (Addr × Obj)) (s : Shared) (σ : St) (H : Hp) (x : V) (xs : List V) (v : Value) (us : List Value) (Q : VK), Inv X pins σ H s → RelV x v → Vals xs us → r x xs H Q →
    wpAny (model X.prog X.w) X.A (call (.builtin id) (v :: us)) (EP X pins σ Q) X.xe s
theorem Vals.one {x : V} {us : List Value} (h : Vals [x] us) : ∃ u, us = [u] ∧ RelV x u := vals1 h
theorem Vals.two {x y : V} {us : List Value} (h : Vals [x, y] us) : ∃ u v, us = [u, v] ∧ RelV x u ∧ RelV y v := vals2 h
theorem Vals.eraseIdx : ∀ {xs : List V} {us : List Value} (i : Nat), Vals xs us → Vals (xs.eraseIdx i) (us.eraseIdx i)
  | _, _, _, .nil => .nil
  | _, _, 0, .cons _ t => t
  | _, _, i + 1, .cons r t => .cons r (Vals.eraseIdx i t)
theorem Vals.rep {xs : List V} {us : List Value} (h : Vals xs us) : ∀ k : Nat, Vals (List.replicate k xs).flatten (List.replicate k us).flatten
  | 0 => .nil
  | k + 1 => by
    rw [List.replicate_succ, List.replicate_succ, List.flatten_cons, List.flatten_cons]
    exact Vals.append h (Vals.rep h k)
theorem len_erase {α : Type} : ∀ (l : List α) (i : Nat), (l.eraseIdx i).length ≤ l.length
  | [], _ => Nat.le_refl _
  | _ :: _, 0 => Nat.le_succ _
  | _ :: r, i + 1 => Nat.succ_le_succ (len_erase r i)
theorem foldl_rep (its : List Value) : ∀ (k : Nat) (acc : List Value),
    List.foldl (fun x1 x2 => x1 ++ x2) acc.toArray (List.replicate k its.toArray) = (acc ++ (List.replicate k its).flatten).toArray
  | 0, acc => by simp
  | k + 1, acc => by
    have e : acc.toArray ++ its.toArray = (acc ++ its).toArray := by simp
    have e2 : (acc ++ its) ++ (List.replicate k its).flatten = acc ++ (List.replicate (k + 1) its).flatten := by
      rw [List.replicate_succ, List.flatten_cons, List.append_assoc]
    rw [← e2, ← foldl_rep its k (acc ++ its), ← e, List.replicate_succ, List.foldl_cons]
section
variable {X : Cx} {pins : List (Addr × Obj)} {σ : St} {H : Hp} {s : Shared} {l b : Addr} {xs ys zs : List V}
theorem Inv.lset {its its' : List Value} {n : Nat} {f : Array Value → Array Value} {t' : Nat} (I : Inv X pins σ H s) (hH : H l = some (.lst xs))
    (e : s.heap.get? l = some { cls := .type "list", data := .seq its.toArray n }) (hf : f its.toArray = its'.toArray) (hv : Vals ys its') (hz : ys.length ≤ sizeLine) :
    Inv X pins σ (upd H l (.lst ys)) { s with heap := s.heap.update l (Obj.mapSeq f), toks := t' } := by
  have q := PySem.IsL.update e f
  rw [hf] at q
  refine I.write (x := l) (e := l) (by rw [hH]; exact trivial) (.inl rfl) (fun b' u hb hu => (Heap.get?_update_other s.heap (Obj.mapSeq f) (Ne.symm hb)).trans hu) ⟨_, q⟩ ?_
  exact ⟨hz, its', _, hv, q⟩
theorem Inv.lnew {its : List Value} {t' : Nat} (I : Inv X pins σ H s) (hv : Vals ys its) (hz : ys.length ≤ sizeLine) :
    Inv X pins σ (upd H s.heap.objs.size (.lst ys)) { s with heap := s.heap.push { cls := .type "list", data := .seq its.toArray }, toks := t' } :=
  I.laid (fun _ _ q => Heap.get?_push_of_some _ q) (Nat.le_refl _) ⟨hz, its, 0, hv, Heap.get?_push_size _ rfl⟩
theorem Inv.fresh (I : Inv X pins σ H s) : H s.heap.objs.size = none := I.hok.fresh (Nat.le_refl _)
theorem Inv.lstM (I : Inv X pins σ H s) (hH : H l = some (.lst xs)) : xs.length ≤ sizeLine ∧ ∃ (its : List Value) (n : Nat), Vals xs its ∧ xs.length = its.length ∧ s.heap.get? l = some { cls := .type "list", data := .seq its.toArray n } := by
  obtain ⟨z, its, n, r, e⟩ := I.hok l _ hH
  exact ⟨z, its, n, r, r.length, e⟩
theorem notLongL {n : Nat} (h : n ≤ sizeLine) : Builtin.List.listTooLong n = false := by
  unfold Builtin.List.listTooLong
  exact decide_eq_false (by omega)
end
section
variable {X : Cx}
def rAppend : V → List V → Hp → VK → Prop := fun x vs H Q => ∃ l xs y, x = .ref l ∧ vs = [y] ∧ H l = some (.lst xs) ∧ xs.length < sizeLine ∧ Q .non (upd H l (.lst (xs ++ [y])))
theorem mt_append : MtM X "list.append" rAppend := by
  intro pins s σ H x vs v us Q I rx rv h
  obtain ⟨l, xs, y, rfl, rfl, hH, hz, q⟩ := h
  cases rx
  obtain ⟨u, rfl, ru⟩ := rv.one
  obtain ⟨z, its, n, r, hl, e⟩ := I.lstM hH
  refine call_meets F.slot_list_append ⟨_, e, rfl⟩ F.entry_list_append (F.args_list_append_2 _ _) (PySem.list_append l its.toArray n u (by rw [List.size_toArray]; omega)) ⟨e, ?_⟩
  refine ⟨.non, _, I.lset (its' := its ++ [u]) hH e (by simp) (r.append (.cons ru .nil)) ?_, rfl, q⟩
  rw [List.length_append, List.length_singleton]
  omega
def rExtend : V → List V → Hp → VK → Prop := fun x vs H Q => ∃ l b xs zs, x = .ref l ∧ vs = [.ref b] ∧ H l = some (.lst xs) ∧ H b = some (.lst zs) ∧ xs.length + zs.length ≤ sizeLine ∧ Q .non (upd H l (.lst (xs ++ zs)))
theorem mt_extend : MtM X "list.extend" rExtend := by
  intro pins s σ H x vs v us Q I rx rv h
  obtain ⟨l, b, xs, zs, rfl, rfl, hH, hB, hz, q⟩ := h
  cases rx
  obtain ⟨u, rfl, ru⟩ := rv.one
  cases ru
  obtain ⟨z, its, n, r, hl, e⟩ := I.lstM hH
  obtain ⟨z2, its2, n2, r2, hl2, e2⟩ := I.lstM hB
  have hsz : its.toArray.size + its2.toArray.size ≤ sizeLine := by rw [List.size_toArray, List.size_toArray]; omega
  have hlong : ¬ (!its.toArray.isEmpty && Builtin.List.listTooLong (its.toArray.size + its2.toArray.size)) = true := by
    rw [notLongL hsz, Bool.and_false]
    exact Bool.false_ne_true
  refine call_meets F.slot_list_extend ⟨_, e, rfl⟩ F.entry_list_extend (F.args_list_extend_2 _ _)
    (AutoSeq1.list_extend_list_list_0 l its.toArray n b its2.toArray n2 hlong (by rw [List.size_toArray]; omega) (by omega)) ⟨e, e2, ?_⟩
  refine ⟨.non, _, I.lset (its' := its ++ its2) hH e (by simp) (r.append r2) ?_, rfl, q⟩
  rw [List.length_append]
  omega
def rPopAt : V → List V → Hp → VK → Prop := fun x vs H Q => ∃ l xs i k y, x = .ref l ∧ vs = [.int i] ∧ H l = some (.lst xs) ∧ -(2 ^ 63) ≤ i ∧ i < 2 ^ 63 ∧ seqIndex? i xs.length = some k ∧ xs[k]? = some y ∧ Q y (upd H l (.lst (xs.eraseIdx k)))
theorem mt_popAt : MtM X "list.pop" rPopAt := by
  intro pins s σ H x vs v us Q I rx rv h
  obtain ⟨l, xs, i, k, y, rfl, rfl, hH, h1, h2, hk, hy, q⟩ := h
  cases rx
  obtain ⟨u, rfl, ru⟩ := rv.one
  obtain ⟨t, rfl⟩ := ru
  obtain ⟨z, its, n, r, hl, e⟩ := I.lstM hH
  obtain ⟨w, hw, rw'⟩ := r.get hy
  refine call_meets F.slot_list_pop ⟨_, e, rfl⟩ F.entry_list_pop (F.args_list_pop_2 _ _)
    (MeetsSeq.list_pop_at l its.toArray n i t k w (fitsIndex_both h1 h2) (by rw [List.size_toArray, ← hl]; exact hk) (by rw [← Array.getElem?_toList]; exact hw) (by rw [List.size_toArray]; omega)) ⟨e, ?_⟩
  refine ⟨y, _, I.lset (its' := its.eraseIdx k) hH e ?_ (r.eraseIdx k) ?_, rw', q⟩
  · show its.toArray.eraseIdxIfInBounds k = (its.eraseIdx k).toArray
    rw [List.eraseIdxIfInBounds_toArray]
  · have := len_erase xs k
    omega
def rCat : R2 := fun x y H Q => ∃ l b xs zs, x = .ref l ∧ y = .ref b ∧ H l = some (.lst xs) ∧ H b = some (.lst zs) ∧ xs.length + zs.length ≤ sizeLine ∧ ∀ p, H p = none → Q (.ref p) (upd H p (.lst (xs ++ zs)))
theorem op_cat : OpR X (binaryOp .Add) rCat := by
  intro pins s σ H x y v u Q I rx ry h
  obtain ⟨l, b, xs, zs, rfl, rfl, hH, hB, hz, q⟩ := h
  cases rx
  cases ry
  obtain ⟨z, its, n, r, hl, e⟩ := I.lstM hH
  obtain ⟨z2, its2, n2, r2, hl2, e2⟩ := I.lstM hB
  refine PySem.P.add_list e e2 ?_ (by rw [List.size_toArray, List.size_toArray]; omega)
  have ea : its.toArray ++ its2.toArray = (its ++ its2).toArray := by simp
  rw [ea]
  exact ⟨.ref _, _, I.lnew (t' := s.toks) (r.append r2) (by rw [List.length_append]; omega), rfl, q _ I.fresh⟩
def rRep : R2 := fun x y H Q => ∃ l k xs, x = .ref l ∧ y = .int k ∧ H l = some (.lst xs) ∧ -(2 ^ 63) ≤ k ∧ k < 2 ^ 63 ∧ xs.length * k.toNat ≤ sizeLine ∧
  ∀ p, H p = none → Q (.ref p) (upd H p (.lst (List.replicate k.toNat xs).flatten))
theorem len_rep {α : Type} (xs : List α) (k : Nat) : (List.replicate k xs).flatten.length = k * xs.length := by
  induction k with
  | zero => simp
  | succ k ih => rw [List.replicate_succ, List.flatten_cons, List.length_append, ih, Nat.succ_mul, Nat.add_comm]
theorem op_rep : OpR X (binaryOp .Mult) rRep := by
  intro pins s σ H x y v u Q I rx ry h
  obtain ⟨l, k, xs, rfl, rfl, hH, h1, h2, hz, q⟩ := h
  cases rx
  obtain ⟨t, rfl⟩ := ry
  obtain ⟨z, its, n, r, hl, e⟩ := I.lstM hH
  have hlen : its.toArray.size * k.toNat ≤ sizeLine := by rw [List.size_toArray, ← hl]; exact hz
  have hcap : ¬ its.toArray.size * k.toNat > (2 ^ 63 - 1) / 8 := by
    have : (sizeLine : Nat) ≤ (2 ^ 63 - 1) / 8 := by decide
    omega
  have hfit : ¬ (!Builtin.List.listFitsIndex k) = true := by
    rw [fitsIndex_both h1 h2]
    exact Bool.false_ne_true
  have hlong : ¬ Builtin.List.listTooLong (its.toArray.size * k.toNat) = true := by
    rw [notLongL hlen]
    exact Bool.false_ne_true
  have hnew : List.foldl (fun x1 x2 => x1 ++ x2) #[] (List.replicate (if its.toArray.isEmpty = true then 0 else k.toNat) its.toArray) = (List.replicate k.toNat its).flatten.toArray := by
    have f0 : ∀ m : Nat, List.foldl (fun x1 x2 => x1 ++ x2) #[] (List.replicate m its.toArray) = (List.replicate m its).flatten.toArray := fun m => by
      have := foldl_rep its m []
      rw [List.nil_append] at this
      exact this
    rw [f0]
    cases its with
    | nil => simp
    | cons a r' => rw [if_neg (by simp)]
  refine wpAny_binaryOp_repeat_ref (T := "list") (U := "int") (by decide) ⟨_, e, rfl⟩ (fun s' => typeIs_int s' k t) noFill_list_mul F.fills_int_mul F.slot_int_rmul repeat_list F.slot_int_index.lookup
    (call_meets F.slot_int_rmul (typeIs_int s k t) F.entry_int_rmul (F.args_int_rmul_2 _ _) (int___rmul___int_list k t l its.toArray n)
      ⟨e, rfl, ⟨_, e, rfl⟩, call_meets F.slot_list_mul ⟨_, e, rfl⟩ F.entry_list_mul (F.args_list_mul_2 _ _) (AutoListH.list___mul___list_int_3 l its.toArray n k t hfit hcap hlong) ⟨e, ?_⟩⟩)
  rw [hnew]
  exact ⟨.ref _, _, I.lnew (t' := s.toks) (r.rep k.toNat) (by rw [len_rep, Nat.mul_comm]; exact hz), rfl, q _ I.fresh⟩
end
end L2
namespace Att
open PySem PySem.W PySem.Calls PyProof.Rows
theorem ints_of_wellAll {P : Params} {h : Heap} : ∀ (ns : List Int) (vs : List Value), WellAll P h vs (ns.map WData.int) → IntsAre vs ns := by
  intro ns
  induction ns with
  | nil =>
    intro vs w
    rw [List.map_nil] at w
    cases w
    exact .nil
  | cons n ns ih =>
    intro vs w
    rw [List.map_cons] at w
    cases w with
    | cons a b =>
      cases a
      exact .cons _ _ (ih _ b)
theorem script_of {l : OpenLaw} {n : Nat} (hn : l.most = some n) {P : Params} {h : Heap} {args : List WData} {vals : List Value}
    (hpre : l.row.toRowW.claim.pre args = true) (hwl : WellAll P h vals args) :
    ∃ a vs ns, vals = [Value.ref a] ∧ args = [WData.list (ns.map WData.int)] ∧ h.get? a = some { cls := .type "list", data := .seq vs.toArray } ∧ IntsAre vs ns ∧ ns.length ≤ n := by
  have hsh : WShape.hasAll [] args [.list .int] = true := (pre_splitW hpre).1
  have hc : l.pre.holds [] { args := args } = true := (pre_splitW hpre).2
  obtain ⟨d, r, rfl, h1, h2⟩ := hasAllW_cons hsh
  obtain rfl := hasAllW_nil h2
  obtain ⟨xs, rfl, h3⟩ := hasW_list h1
  obtain ⟨ns, rfl⟩ := items_int h3
  have hlen : ns.length ≤ n := by
    unfold OpenLaw.pre at hc
    have h4 : (WTm.not (.lt (.lit (.int (n : Int))) (.len (.arg 0)))).holds [] { args := [.list (ns.map .int)] } = true := by
      have h4 := (holds_andW hc).1
      rw [hn] at h4
      exact h4
    have h5 := condW_of h4 (w_not (w_lt w_lit (w_len_list (w_arg rfl))))
    rw [List.length_map] at h5
    refine Nat.le_of_not_lt fun q => ?_
    have q' : (n : Int) < ((ns.length : Nat) : Int) := by omega
    first
      | (rw [decide_eq_true q'] at h5; exact absurd h5 (by decide))
      | (simp at h5; omega)
  cases hwl with
  | cons w1 w2 =>
    cases w2
    cases w1 with
    | list ho hall => exact ⟨_, _, ns, rfl, rfl, ho, ints_of_wellAll ns _ hall, hlen⟩
theorem post_true (l : OpenLaw) (args : List WData) : l.row.toRowW.claim.post args (.bool true) args = true :=
  postW_of (r := l.row.toRowW) (X := (true == true))
    (show WShape.has [] (.bool true) .bool = true by first | rfl | decide | simp [WShape.has, WShape.arms, WShape.armsAll])
    (show (WTm.eq .res (.lit (.bool true))).value [] { args := args, res := some (.bool true), after := args } = some (.bool (true == true)) from w_eq_bool (w_res rfl) w_lit) rfl
theorem attach_call {l : OpenLaw} {n : Nat} {q : Program} {loose : List Str} {XP : (Str → Option Value) → Heap → Prop} {YP : World → Heap → Prop} {d : DefRec}
    (hn : l.most = some n) (hdf : d.params.defaults = [])
    (call : ∀ (w : World) (s₀ s₁ : Shared) (mg mb : Str → Option Value) (fa : Addr) (o : Obj) (pm cd doc : Value) (a : Addr) (vs : List Value) (ns : List Int),
      Ground q loose [] XP w s₀ mg mb s₁.heap → YP w s₁.heap →
      s₁.heap.get? fa = some o → o.data = .func (docDef d.name d.params d.body d.scope pm cd doc) → s₁.heap.CodeRec cd d.name → mg d.name = some (.ref fa) →
      s₁.heap.get? a = some { cls := .type "list", data := .seq vs.toArray } → IntsAre vs ns → ns.length ≤ n → s₁.gens = #[] →
      codeAny (model l.prog w) callerA (.call (.ref fa) ⟨[.ref a], []⟩) (fun r s' => r = .ok (.ret (.bool true)) ∧ OldK s₁.heap s'.heap ∧ s'.os = s₁.os ∧ AllBare s'.gens) s₁) :
    WalkO q loose XP YP l.row.toRowW d [] (fun f vs => PySem.call f vs) := by
  intro w s₀ s₁ mg mb G Y fa o pm cd doc dV kV ho hd hcd hD hmg hg args vals as hpre hlay hrd hwl hlo
  obtain rfl : dV = .none := Dflts.none hD hdf
  obtain rfl : kV = .none := Dflts.noKw hD
  obtain ⟨a, vs, ns, rfl, rfl, hobj, hints, hlen⟩ := script_of hn hpre hwl
  refine enter_call (codeAny_mono (call w s₀ s₁ mg mb fa o pm cd doc a vs ns G Y ho (fd_plain hd) hcd hmg hobj hints hlen hg) fun r s' hq => ?_)
  obtain ⟨rfl, h2, h3, h4⟩ := hq
  exact ⟨.inl ⟨.bool true, .bool true, [], rfl, fun _ => rfl, .bool true, post_true l _, fun _ => ⟨List.Pairwise.nil, fun _ hm => (nomatch hm)⟩⟩, h2, h3, h4⟩
end Att
namespace L2
open PySem PySem.Spec PyProof.Rows
theorem vals_ints : ∀ {vs : List Value} {ns : List Int}, IntsAre vs ns → Vals (ns.map V.int) vs
  | _, _, .nil => .nil
  | _, _, .cons n t h => .cons ⟨t, rfl⟩ (vals_ints h)
def Only (H : Hp) : Prop := ∀ b, H b = none ∨ ∃ o xs, H b = some (.frz o (.lst xs))
theorem law_call {P : Program} {w : World} {K : PySem.W.Frag} {mg mb : Str → Option Value} {CX : CXT} {k : Nat} {fa a : Addr} {fd : FuncData} {x : Str} {sp : Sp} {s₁ : Shared} {vs : List Value} {ns : List Int}
    (KX : K.In s₁.heap) (hns : s₁.heap.Ns mainGlobals mg) (hb : s₁.heap.Ns builtinsNs mb) (hbb : ∀ x : Str, x ≠ "__name__" → mb x = bootBuiltins x) (hlim : s₁.heap.NoLimit) (hg : s₁.gens = #[])
    (ha : s₁.heap.get? a = some { cls := .type "list", data := .seq vs.toArray }) (hi : IntsAre vs ns) (hl : ns.length ≤ sizeLine) (hr : Room k callerA)
    (F : ∀ base : Heap, K.In base → base.Ns mainGlobals mg → FnOk P w K mg base CX k fa fd [x] sp) (hbind : ∀ (s : Shared) (u : Value), BindsTo s fd ⟨[u], []⟩ [(x, u)])
    (hsp : ∀ H : Hp, Only H → SqL K H a (ns.map V.int) → sp [.ref a] H (fun v _ => v = .bl true) fun _ _ _ => False)
    (hCX : ∀ H e s', CX [] H s₁ (fun _ _ _ => False) e s' → False) :
    codeAny (model P w) callerA (.call (.ref fa) ⟨[.ref a], []⟩) (fun r s' => r = .ok (.ret (.bool true)) ∧ OldK s₁.heap s'.heap ∧ s'.os = s₁.os ∧ AllBare s'.gens) s₁ := by
  have rv := vals_ints hi
  have lenV := hi.length
  -- from an abstract heap in which nothing but the script may be tracked
  have core : ∀ H : Hp, Only H → SqL K H a (ns.map V.int) → HOk P w H s₁.heap → (∀ b, H b ≠ none → b = a) → (H a ≠ none → K.lookup a = none) →
      codeAny (model P w) callerA (.call (.ref fa) ⟨[.ref a], []⟩) (fun r s' => r = .ok (.ret (.bool true)) ∧ OldK s₁.heap s'.heap ∧ s'.os = s₁.os ∧ AllBare s'.gens) s₁ := by
    intro H hO hS hok hA hK
    have base_of : ∀ {b : Addr} {o : Obj}, s₁.heap.get? b = some o → H b = none → (hidT s₁.heap H).get? b = some o := fun e n => hidT_get e n
    have noA : ∀ {b : Addr} {o : Obj} {es : Array DictEntry} {ep : Nat}, s₁.heap.get? b = some o → o.data = .dict es ep → H b = none := fun {b o es ep} e d => by
      cases q : H b with
      | none => rfl
      | some u =>
        have e' : b = a := hA b (by rw [q]; simp)
        subst e'
        rw [ha] at e; cases e
        have d' : Data.seq vs.toArray _ = Data.dict es ep := d
        cases d'
    have nsK : ∀ {b : Addr} {m : Str → Option Value}, s₁.heap.Ns b m → (hidT s₁.heap H).Ns b m := fun {b m} ⟨o, es, ep, e, d, r⟩ => ⟨o, es, ep, base_of e (noA e d), d, r⟩
    have hKb : K.In (hidT s₁.heap H) := fun b o e => base_of (KX b o e) (by
      cases q : H b with
      | none => rfl
      | some u =>
        have e' : b = a := hA b (by rw [q]; simp)
        subst e'
        rw [hK (by rw [q]; simp)] at e; cases e)
    have hM : Mod K mg (hidT s₁.heap H) := ⟨hKb, nsK hns, ⟨mb, nsK hb, hbb⟩, let ⟨mc, h1, h2⟩ := hlim; ⟨mc, nsK h1, h2⟩⟩
    have e0 : Env0 P w K mg (hidT s₁.heap H) callerA [] s₁ H := ⟨rfl, hM, fun b o e => of_hidT e, Nat.le_of_eq (hidT_size _ _), trivial, fun b hb => absurd (show b ∈ ([] : List Addr) from hb) (by simp), hok, .of_eq hg⟩
    refine codeAny_mono ((F _ hKb (nsK hns)).run callerA [] s₁ H ⟨[.ref a], []⟩ [.ref a] [.ref a] _ _ hr e0 (hbind s₁ (.ref a)) (.cons rfl .nil) (hsp H hO hS)) fun r s' h => ?_
    cases r with
    | error e => exact (hCX H e s' h).elim
    | ok fl =>
      cases fl with
      | next => exact False.elim h
      | brk => exact False.elim h
      | cont => exact False.elim h
      | ret u =>
        obtain ⟨v, H', os, bare, un, hok', r', q⟩ := h
        have q' : v = .bl true := q
        subst q'
        obtain rfl : u = Value.bool true := r'
        refine ⟨rfl, OldK.of_keep fun b o e => ?_, os, bare⟩
        cases q : H b with
        | none => exact un.keep b o e q (by intro z; exact absurd (show b ∈ ([] : List Addr) from z) (by simp)) (by simp)
        | some u =>
          rcases hO b with z | ⟨ob, xs, z⟩
          · rw [q] at z; cases z
          · have z2 := un.frzs b ob _ z
            obtain ⟨e1, _⟩ := hok b _ z
            obtain ⟨e2, _⟩ := hok' b _ z2
            rw [e] at e1; cases e1
            exact e2
  cases hk : K.lookup a with
  | some o =>
    -- the script is one of the module's own objects
    have e := KX a o hk
    rw [ha] at e
    cases e
    refine core (fun _ => none) (fun _ => .inl rfl) (.inr ⟨_, vs.toArray, _, hk, rfl, rfl, rfl, by rw [List.size_toArray, lenV]; exact hl, by simpa using rv⟩) (fun b u z => by have z' : (none : Option HO) = some u := z; cases z') (fun b z => absurd rfl z) fun z => absurd rfl z
  | none =>
    refine core (fun b => if b = a then some (.frz { cls := .type "list", data := .seq vs.toArray } (.lst (ns.map V.int))) else none) (fun b => ?_) (.inl (.inr ⟨{ cls := .type "list", data := .seq vs.toArray }, if_pos rfl⟩)) (fun b u z => ?_) (fun b z => ?_) fun _ => hk
    · by_cases hb : b = a
      · exact .inr ⟨_, _, if_pos hb⟩
      · exact .inl (if_neg hb)
    · by_cases hb : b = a
      · have z' := (if_pos hb).symm.trans z
        cases z'
        subst hb
        exact ⟨ha, by rw [List.length_map]; exact hl, vs, _, rv, ha⟩
      · have z' := (if_neg hb).symm.trans z
        cases z'
    · by_cases hb : b = a
      · exact hb
      · exact absurd (if_neg hb) z
end L2
namespace L2
open PySem PySem.Spec PyProof.Rows
theorem walk_of {l : PySem.W.OpenLaw} {n k : Nat} {q : Program} {loose : List Str} {XP : (Str → Option Value) → Heap → Prop} {YP : World → Heap → Prop} {d : DefRec} {K : Params → PySem.W.Frag} {CX : World → CXT} {sp : World → Sp} {x : Str}
    (hn : l.most = some n) (hn2 : n ≤ sizeLine) (hdf : d.params.defaults = []) (hr : Room k callerA)
    (hY : ∀ (w : World) (h : Heap), YP w h → (K w.params).In h)
    (F : ∀ (w : World) (mg : Str → Option Value) (fa : Addr) (h : Heap), (K w.params).In h → h.Ns mainGlobals mg → mg d.name = some (.ref fa) →
      ∃ fd : FuncData, (∀ (s : Shared) (u : Value), BindsTo s fd ⟨[u], []⟩ [(x, u)]) ∧
        ∀ base : Heap, (K w.params).In base → base.Ns mainGlobals mg → FnOk l.prog w (K w.params) mg base (CX w) k fa fd [x] (sp w))
    (hsp : ∀ (w : World) (H : Hp) (a : Addr) (ns : List Int), ns.length ≤ n → Only H → SqL (K w.params) H a (ns.map V.int) → sp w [.ref a] H (fun v _ => v = .bl true) fun _ _ _ => False)
    (hCX : ∀ (w : World) (H : Hp) (s : Shared) (e : Value) (s' : Shared), CX w [] H s (fun _ _ _ => False) e s' → False) :
    PySem.W.WalkO q loose XP YP l.row.toRowW d [] (fun f vs => PySem.call f vs) := by
  refine Att.attach_call hn hdf fun w s₀ s₁ mg mb fa o pm cd doc a vs ns G Y ho hd hcd hmg hobj hints hlen hg => ?_
  have KX := hY w _ Y
  obtain ⟨fd, hb, hF⟩ := F w mg fa _ KX G.T.g hmg
  exact law_call KX G.T.g G.T.b G.T.builtins G.T.nolimit hg hobj hints (Nat.le_trans hlen hn2) hr hF hb (fun H hO hS => hsp w H a ns hlen hO hS) fun H e s' => hCX w H s₁ e s'
end L2
/- THE LAST THEOREM (shape; LID, My.* are yours):
   My.Adr: a structure of the addresses that your layer names (classes, functions); My.Txt K t: a structure (Prop) of the equations over K;
   My.txt_mk : {K} {implicit addresses ..} (e1 : nsIn K mainGlobals "law" = some (some (.ref f))) (e2 : K.lookup f = some ⟨oc, od, .func (fnOf "law" "law" params body scope dV kV doc pm an cdv ct), sl⟩) (e3 : codeIn K cdv "law" = true) .. : ∃ t, My.Txt K t
(the tactic k_is has no namespace: write k_is) -/
namespace L2
open PySem PySem.Spec PyProof.Rows
def defArgs (s : Stmt) : Arguments := match s with
  | .FunctionDef _ a _ _ _ _ _ _ _ _ => a
  | _ => { posonlyargs := [], args := [], vararg := none, kwonlyargs := [], kw_defaults := [], kwarg := none, defaults := [] }
def defBody (s : Stmt) : List Stmt := match s with
  | .FunctionDef _ _ b _ _ _ _ _ _ _ => b
  | _ => []
def defScope (s : Stmt) : Scope := match s with
  | .FunctionDef _ _ _ _ _ _ sc _ _ _ => sc
  | _ => { kind := .function, names := [], isGenerator := false, isCoroutine := false }
abbrev CX0 : CXT := fun _ _ _ _ _ _ => False
abbrev E0 : XK := fun _ _ _ => False
theorem pass0 {X : Cx} : Passes CX0 X E0 := fun _ _ _ _ _ _ _ h => h.elim
structure Fun (K : PySem.W.Frag) (x qual : Str) (st : Stmt) (f : Addr) (fd : FuncData) : Prop where
  ex : ∃ (oc : Value) (od : Option Addr) (kV doc pm : Value) (an : Option Addr) (cdv ct : Value) (osl : Array (Option Value)),
    fd = PySem.W.fnOf x qual (defArgs st) (defBody st) (defScope st) .none kV doc pm an cdv ct ∧ K.lookup f = some ⟨oc, od, .func fd, osl⟩ ∧ PySem.W.codeIn K cdv qual = true
  kp : PySem.W.keepIn K (.ref f) = true
section
variable {P : Program} {w : World} {K : PySem.W.Frag} {mg : Str → Option Value} {base : Heap}
theorem Fun.ok {x qual : Str} {st : Stmt} {f : Addr} {fd : FuncData} {N ps : List Str} {k : Nat} {sp : Sp} (F : Fun K x qual st f fd) (S : FnScope N ps (defScope st)) (len : ∀ vs H Q E, sp vs H Q E → vs.length = ps.length)
    (hbody : ∀ (cdv : Value) (A : Around) (outer : List Env) (s : Shared) (H : Hp) (vs : List V) (Q : VK) (E : XK), Room k (A.deeper (envOfC qual (defScope st) s.heap.objs.size f cdv)) → sp vs H Q E →
      ∃ t, PSs (cxOf CX0 P w K mg base N qual (defScope st) f cdv A outer s H E).nox (defBody st) t ∧ t { nx := fun _ H' => Q .non H', rt := Q } (start N vs) H) : FnOk P w K mg base CX0 (k + 1) f fd ps sp := by
  obtain ⟨oc, od, kV, doc, pm, an, cdv, ct, osl, rfl, lk, hcd⟩ := F.ex
  refine fn_of lk hcd S len fun A outer s H vs Q E hr hsp => ?_
  obtain ⟨t, h, q⟩ := hbody cdv A outer s H vs Q E hr hsp
  exact ⟨t, h.nox, q⟩
theorem Fun.binds {x qual : Str} {st : Stmt} {f : Addr} {fd : FuncData} {ps : List Str} (F : Fun K x qual st f fd)
    (h : ∀ (kV doc pm : Value) (an : Option Addr) (cdv ct : Value) (us : List Value), us.length = ps.length → bindArgs (PySem.W.fnOf x qual (defArgs st) (defBody st) (defScope st) .none kV doc pm an cdv ct) ⟨us, []⟩ = pure (ps.zip us)) : Binds K fd ps [] := by
  obtain ⟨oc, od, kV, doc, pm, an, cdv, ct, osl, rfl, lk, hcd⟩ := F.ex
  exact .all (h kV doc pm an cdv ct)
theorem fun_mk {x qual : Str} {st : Stmt} {f : Addr} {oc : Value} {od an : Option Addr} {osl : Array (Option Value)} {kV doc pm cdv ct : Value} (l : K.lookup f = some ⟨oc, od, .func (PySem.W.fnOf x qual (defArgs st) (defBody st) (defScope st) .none kV doc pm an cdv ct), osl⟩)
    (c : PySem.W.codeIn K cdv qual = true) (k : PySem.W.keepIn K (.ref f) = true) : Fun K x qual st f (PySem.W.fnOf x qual (defArgs st) (defBody st) (defScope st) .none kV doc pm an cdv ct) := ⟨⟨oc, od, kV, doc, pm, an, cdv, ct, osl, rfl, l, c⟩, k⟩
end
theorem hu_of {A : Around} {k : Nat} (hr : Room k A) : A.units + 1 < cLine := Nat.lt_of_le_of_lt (Nat.add_le_add_left (by decide : 1 ≤ 64) _) hr.units
section
variable {X : Cx}
theorem pv (i : Nat) {x : Str} {pos : Pos} (hN : X.N[i]? = some x := by rfl) (hv : Vis X.env.scope x := by first | exact Or.inl rfl | exact Or.inr (Or.inl rfl) | exact Or.inr (Or.inr rfl)) (hd : (x == ("__debug__" : Str)) = false := by decide)
    (hcd : (x == ("__classdict__" : Str)) = false := by decide) : PE X (.Name x pos) (tVar i) := pe_var hN hv hd hcd
end
theorem ite2 {c A B : Prop} [Decidable c] (h1 : c → A) (h2 : ¬ c → B) : if c then A else B := by
  by_cases h : c
  · rw [if_pos h]
    exact h1 h
  · rw [if_neg h]
    exact h2 h
end L2
namespace L2
open PySem PySem.Spec PyProof.Rows
section
variable {κ : Type} [DecidableEq κ]
def valV (kvs : List (κ × V)) (k : κ) : Option V := (kvs.find? fun kv => decide (kv.1 = k)).map (·.2)
def putK (kvs : List (κ × V)) (k : κ) (v : V) : List (κ × V) :=
  if (kvs.any fun kv => decide (kv.1 = k)) = true then kvs.map (fun kv => if kv.1 = k then (kv.1, v) else kv) else kvs ++ [(k, v)]
theorem valV_pos {p : κ × V} {r : List (κ × V)} {k : κ} (e : p.1 = k) : valV (p :: r) k = some p.2 := by simp [valV, List.find?_cons, e]
theorem valV_neg {p : κ × V} {r : List (κ × V)} {k : κ} (e : ¬ p.1 = k) : valV (p :: r) k = valV r k := by simp [valV, List.find?_cons, e]
theorem valV_any (k : κ) : ∀ kvs : List (κ × V), (kvs.any fun kv => decide (kv.1 = k)) = (valV kvs k).isSome
  | [] => rfl
  | p :: r => by
    rw [List.any_cons]
    by_cases e : p.1 = k
    · simp only [valV_pos e, decide_eq_true e, Bool.true_or, Option.isSome_some]
    · rw [valV_neg e, decide_eq_false e, Bool.false_or]; exact valV_any k r
theorem valV_snoc (k j : κ) (y : V) : ∀ kvs : List (κ × V), valV kvs k = none → valV (kvs ++ [(k, y)]) j = if j = k then some y else valV kvs j
  | [], _ => by
    by_cases e : k = j
    · rw [if_pos e.symm]; exact valV_pos (p := (k, y)) e
    · rw [if_neg (fun z => e z.symm)]; exact valV_neg (p := (k, y)) e
  | p :: r, hn => by
    rw [List.cons_append]
    have hk : ¬ p.1 = k := fun z => by rw [valV_pos z] at hn; cases hn
    rw [valV_neg hk] at hn
    have ih := valV_snoc k j y r hn
    by_cases e : p.1 = j
    · rw [valV_pos e, valV_pos e, if_neg (fun z => hk (e.trans z))]
    · rw [valV_neg e, valV_neg e, ih]
theorem length_putK (kvs : List (κ × V)) (k : κ) (v : V) : (putK kvs k v).length ≤ kvs.length + 1 := by
  unfold putK
  split
  · rw [List.length_map]; omega
  · rw [List.length_append, List.length_cons, List.length_nil]; omega
theorem RelO.isSome_eq {o : Option V} {u : Option Value} (r : RelO o u) : o.isSome = u.isSome := by
  cases o with
  | none => cases u with
    | none => rfl
    | some _ => exact (show False from r).elim
  | some _ => cases u with
    | none => exact (show False from r).elim
    | some _ => rfl
theorem KV.val {kvs : List (κ × V)} {vs : List (κ × Value)} (r : KV kvs vs) (k : κ) : RelO (valV kvs k) (valueAt vs k) := by
  unfold KV at r
  induction r with
  | nil => exact True.intro
  | @cons p q ps qs h t ih =>
    obtain ⟨h1, h2⟩ := h
    by_cases e : p.1 = k
    · have e' : q.1 = k := h1.symm.trans e
      have b : valueAt (q :: qs) k = some q.2 := by simp [valueAt, List.find?_cons, e']
      rw [valV_pos e, b]; exact h2
    · have e' : ¬ q.1 = k := fun z => e (h1.trans z)
      have b : valueAt (q :: qs) k = valueAt qs k := by simp [valueAt, List.find?_cons, e']
      rw [valV_neg e, b]; exact ih
theorem KV.any {kvs : List (κ × V)} {vs : List (κ × Value)} (r : KV kvs vs) (k : κ) : (kvs.any fun kv => decide (kv.1 = k)) = vs.any fun kv => decide (kv.1 = k) := by
  unfold KV at r
  induction r with
  | nil => rfl
  | cons h t ih => rw [List.any_cons, List.any_cons, ih, h.1]
theorem KV.repl {kvs : List (κ × V)} {vs : List (κ × Value)} (r : KV kvs vs) (k : κ) {y : V} {u : Value} (ry : RelV y u) :
    KV (kvs.map fun kv => if kv.1 = k then (kv.1, y) else kv) (vs.map fun kv => if kv.1 = k then (kv.1, u) else kv) := by
  unfold KV at r ⊢
  induction r with
  | nil => exact .nil
  | @cons p q ps qs h t ih =>
    rw [List.map_cons, List.map_cons]
    refine .cons ?_ ih
    obtain ⟨h1, h2⟩ := h
    by_cases e : p.1 = k
    · rw [if_pos e, if_pos (h1.symm.trans e)]; exact ⟨h1, ry⟩
    · rw [if_neg e, if_neg (fun z => e (h1.trans z))]; exact ⟨h1, h2⟩
theorem KV.put {kvs : List (κ × V)} {vs : List (κ × Value)} (r : KV kvs vs) (k : κ) {y : V} {u : Value} (ry : RelV y u) : KV (putK kvs k y) (stored vs k u) := by
  unfold putK stored
  rw [r.any k]
  by_cases e : (vs.any fun kv => decide (kv.1 = k)) = true
  · rw [if_pos e, if_pos e]; exact r.repl k ry
  · rw [if_neg e, if_neg e]; exact Paired.snoc r ⟨rfl, ry⟩
theorem KV.length {kvs : List (κ × V)} {vs : List (κ × Value)} (r : KV kvs vs) : kvs.length = vs.length := Paired.length r
end
theorem kV_is {P : Program} {w : World} {k : Key} {u : Value} (r : RelV (kV k) u) : (mixKind P w).is k u = true := by
  cases k with
  | inl i => obtain ⟨t, e⟩ := (show ∃ t, u = Value.int i t from r); subst e; exact mixKind_int P w i t
  | inr x => obtain ⟨t, e⟩ := (show ∃ t, u = Value.str x t from r); subst e; exact mixKind_str P w x t
theorem items_are {P : Program} {w : World} : ∀ {ks : List Key} {us : List Value}, Vals (ks.map kV) us → ItemsAre (mixKind P w) ks us
  | [], _, r => by rw [List.map_nil] at r; cases r; exact .nil
  | k :: ks, _, r => by
    rw [List.map_cons] at r
    cases r with
    | cons h t => exact .cons (kV_is h) (items_are t)
abbrev KT (H : Hp) : List (List Key × V) → List (List Key × Addr × Value) → Prop := Paired fun p q => p.1 = q.1 ∧ H q.2.1 = some (.tup (p.1.map kV)) ∧ RelV p.2 q.2.2
theorem KT.val {H : Hp} {kvs : List (List Key × V)} {xs : List (List Key × Addr × Value)} (r : KT H kvs xs) (k : List Key) : RelO (valV kvs k) ((atKey xs k).map (·.2)) := by
  induction r with
  | nil => exact True.intro
  | @cons p q ps qs h t ih =>
    obtain ⟨h1, _, h2⟩ := h
    by_cases e : p.1 = k
    · have e' : q.1 = k := h1.symm.trans e
      have b : atKey (q :: qs) k = some q.2 := by simp [atKey, List.find?_cons, e']
      rw [valV_pos e, b]; exact h2
    · have e' : ¬ q.1 = k := fun z => e (h1.trans z)
      have b : atKey (q :: qs) k = atKey qs k := by simp [atKey, List.find?_cons, e']
      rw [valV_neg e, b]; exact ih
theorem KT.repl {H : Hp} {kvs : List (List Key × V)} {xs : List (List Key × Addr × Value)} (r : KT H kvs xs) (k : List Key) {y : V} {u : Value} (ry : RelV y u) :
    KT H (kvs.map fun kv => if kv.1 = k then (kv.1, y) else kv) (xs.map (putAt k u)) := by
  induction r with
  | nil => exact .nil
  | @cons p q ps qs h t ih =>
    rw [List.map_cons, List.map_cons]
    refine .cons ?_ ih
    obtain ⟨h1, h2, h3⟩ := h
    unfold putAt
    by_cases e : p.1 = k
    · rw [if_pos e, if_pos (h1.symm.trans e)]; exact ⟨h1, h2, ry⟩
    · rw [if_neg e, if_neg (fun z => e (h1.trans z))]; exact ⟨h1, h2, h3⟩
theorem KT.put {H : Hp} {kvs : List (List Key × V)} {xs : List (List Key × Addr × Value)} (r : KT H kvs xs) (k : List Key) {b : Addr} {y : V} {u : Value} (hb : H b = some (.tup (k.map kV))) (ry : RelV y u) :
    KT H (putK kvs k y) (storedH xs k b u) := by
  have e : (kvs.any fun kv => decide (kv.1 = k)) = (atKey xs k).isSome := by
    rw [valV_any, (r.val k).isSome_eq, Option.isSome_map]
  unfold putK storedH
  rw [e]
  by_cases q : (atKey xs k).isSome = true
  · rw [if_pos q, if_pos q]; exact r.repl k ry
  · rw [if_neg q, if_neg q]; exact Paired.snoc r ⟨rfl, hb, ry⟩
theorem KT.keeps {H H' : Hp} {kvs : List (List Key × V)} {xs : List (List Key × Addr × Value)} (r : KT H kvs xs) (ht : ∀ b ys, H b = some (.tup ys) → H' b = some (.tup ys)) : KT H' kvs xs :=
  Paired.mapP r fun _ _ z => ⟨z.1, ht _ _ z.2.1, z.2.2⟩
section
variable {P : Program} {w : World} {H : Hp} {h : Heap} {a : Addr}
theorem rd_of {u : HO} (ok : HOk P w H h) (e : Rd H a u) : ObjOk P w H h a u := e.ok ok
theorem dk_rd {kvs : List (Key × V)} (ok : HOk P w H h) (e : Rd H a (.dK kvs)) : kvs.length ≤ sizeLine ∧ (a == sysModules) = false ∧ ∃ vs, KV kvs vs ∧ h.DictOf (mixKind P w) a vs :=
  show ObjOk P w H h a (.dK kvs) from rd_of ok e
theorem dk_of {kvs : List (Key × V)} (ok : HOk P w H h) (e : H a = some (.dK kvs)) : kvs.length ≤ sizeLine ∧ (a == sysModules) = false ∧ ∃ vs, KV kvs vs ∧ h.DictOf (mixKind P w) a vs := dk_rd ok (.inl e)
theorem key_of {ks : List Key} (ok : HOk P w H h) (e : H a = some (.tup (ks.map kV))) : (tupleKind (mixKind P w)).is h ks a := by
  obtain ⟨_, its, r, o, h1, h2, n, h3⟩ := (show ObjOk P w H h a (.tup (ks.map kV)) from ok a _ e)
  exact ⟨o, its.toArray, n, h1, h2, h3, by simpa using items_are r⟩
theorem dt_rd {kvs : List (List Key × V)} (ok : HOk P w H h) (e : Rd H a (.dT kvs)) : kvs.length ≤ sizeLine ∧ (a == sysModules) = false ∧
    ∃ xs, KT H kvs xs ∧ h.DictOfH (tupleKind (mixKind P w)) a xs := by
  obtain ⟨z, y, xs, r, o, es, ep, h1, h2, h3, h4, h5⟩ := (show ObjOk P w H h a (.dT kvs) from rd_of ok e)
  refine ⟨z, y, xs, r, o, es, ep, h1, h2, h3, h4, fun x hx => ?_, h5⟩
  have all : ∀ {l : List (List Key × V)} {m : List (List Key × Addr × Value)}, KT H l m → ∀ x ∈ m, (tupleKind (mixKind P w)).is h x.1 x.2.1 := by
    intro l m q
    induction q with
    | nil => intro x hx; exact nomatch hx
    | @cons p q ps qs hq t ih =>
      intro x hx
      rcases List.mem_cons.mp hx with e | hx
      · subst e
        exact key_of ok (by rw [← hq.1]; exact hq.2.1)
      · exact ih x hx
  exact all r x hx
theorem dt_of {kvs : List (List Key × V)} (ok : HOk P w H h) (e : H a = some (.dT kvs)) : kvs.length ≤ sizeLine ∧ (a == sysModules) = false ∧
    ∃ xs, KT H kvs xs ∧ h.DictOfH (tupleKind (mixKind P w)) a xs := dt_rd ok (.inl e)
end
def DGet (H : Hp) (a : Addr) (y : V) (r : Option V) : Prop :=
  (∃ kvs k, Rd H a (.dK kvs) ∧ y = kV k ∧ r = valV kvs k) ∨ ∃ kvs k b, Rd H a (.dT kvs) ∧ y = .ref b ∧ H b = some (.tup (k.map kV)) ∧ r = valV kvs k
def DPut (H : Hp) (a : Addr) (y v : V) (H' : Hp) : Prop :=
  (∃ kvs k, H a = some (.dK kvs) ∧ y = kV k ∧ kvs.length < sizeLine ∧ H' = upd H a (.dK (putK kvs k v))) ∨
  ∃ kvs k b, H a = some (.dT kvs) ∧ y = .ref b ∧ H b = some (.tup (k.map kV)) ∧ kvs.length < sizeLine ∧ H' = upd H a (.dT (putK kvs k v))
theorem DGet.t {H : Hp} {a b : Addr} {kvs : List (List Key × V)} {k : List Key} (e : H a = some (.dT kvs)) (eb : H b = some (.tup (k.map kV))) : DGet H a (.ref b) (valV kvs k) := .inr ⟨kvs, k, b, .inl e, rfl, eb, rfl⟩
theorem DPut.t {H : Hp} {a b : Addr} {kvs : List (List Key × V)} {k : List Key} {v : V} (e : H a = some (.dT kvs)) (eb : H b = some (.tup (k.map kV))) (hl : kvs.length < sizeLine) :
    DPut H a (.ref b) v (upd H a (.dT (putK kvs k v))) := .inr ⟨kvs, k, b, e, rfl, eb, hl, rfl⟩
section
variable {X : Cx} {pins : List (Addr × Obj)} {σ : St} {H : Hp} {s : Shared} {a : Addr} {y v : V} {u r : Value} {o : Option V} {A : Around} {E : Value → Shared → Prop}
theorem Inv.big (I : Inv X pins σ H s) : sysModules < s.heap.objs.size := by
  have h : mainGlobals < s.heap.objs.size := (I.mod.glob.keeps I.bk).lt
  exact Nat.lt_trans (by decide) h
theorem d_getItem {Q : Value → Shared → Prop} (hu : A.units + 1 < cLine) (I : Inv X pins σ H s) (g : DGet H a y (some v)) (ry : RelV y u) (h : ∀ w' s', Inv X pins σ H s' → RelV v w' → Q w' s') :
    wpAny (model X.prog X.w) A (getItem (.ref a) u) Q E s := by
  rcases g with ⟨kvs, k, e, ey, l⟩ | ⟨kvs, k, b, e, ey, eb, l⟩
  · subst ey
    obtain ⟨z, hd, vs, rel, dd⟩ := dk_rd I.hok e
    obtain ⟨w', hw, rw'⟩ := RelO.some_of (v := v) (o := valueAt vs k) (by rw [l]; exact rel.val k)
    exact wpAny_getItem_of (kV_is ry) dd.mapOf hw (h w' _ (I.tok _) rw')
  · subst ey
    cases (show u = Value.ref b from ry)
    obtain ⟨z, hd, xs, rel, dd⟩ := dt_rd I.hok e
    obtain ⟨w', hw, rw'⟩ := RelO.some_of (v := v) (o := (atKey xs k).map (·.2)) (by rw [l]; exact rel.val k)
    obtain ⟨p, hp, hp2⟩ := Option.map_eq_some_iff.mp hw
    refine wpAny_getItem_heap (tupleKind_room_in1 hu) (key_of I.hok eb) dd hp ?_
    rw [hp2]
    exact h w' _ (I.tok _) rw'
theorem d_notIn {Q : Value → Shared → Prop} (hu : A.units + 1 < cLine) (I : Inv X pins σ H s) (g : DGet H a y o) (ry : RelV y u) (h : ∀ s', Inv X pins σ H s' → Q (.bool (!o.isSome)) s') :
    wpAny (model X.prog X.w) A (compareOp .NotIn u (.ref a)) Q E s := by
  rcases g with ⟨kvs, k, e, ey, l⟩ | ⟨kvs, k, b, e, ey, eb, l⟩
  · subst ey
    obtain ⟨z, hd, vs, rel, dd⟩ := dk_rd I.hok e
    refine wpAny_notIn_of (kV_is ry) hd dd.mapOf ?_
    rw [← (rel.val k).isSome_eq, ← l]
    exact h _ (I.tok _)
  · subst ey
    cases (show u = Value.ref b from ry)
    obtain ⟨z, hd, xs, rel, dd⟩ := dt_rd I.hok e
    refine wpAny_notIn_heap (tupleKind_room_in1 hu) (key_of I.hok eb) hd dd ?_
    have q := (rel.val k).isSome_eq
    rw [Option.isSome_map] at q
    rw [← q, ← l]
    exact h _ (I.tok _)
theorem d_write {h' : Heap} {t' : Nat} {ob : HO} (I : Inv X pins σ H s) (mu : Mut (H a)) (hs : Heap.SameBut a s.heap h') (he : ∃ q, h'.get? a = some q) (new : ObjOk X.prog X.w (upd H a ob) h' a ob) :
    Inv X pins σ (upd H a ob) { s with heap := h', toks := t' } :=
  I.write (x := a) (e := a) mu (.inl rfl) (fun b q hb z => (hs.2 b hb).trans z) he new
theorem dk_new {P : Program} {w : World} {H' : Hp} {h' : Heap} {kvs : List (Key × V)} {vs : List (Key × Value)} (z : kvs.length ≤ sizeLine) (hd : (a == sysModules) = false) (rel : KV kvs vs) (dd : h'.DictOf (mixKind P w) a vs) :
    ObjOk P w H' h' a (.dK kvs) := ⟨z, hd, vs, rel, dd⟩
theorem d_setItem {H' : Hp} {Q : Unit → Shared → Prop} (hu : A.units + 1 < cLine) (I : Inv X pins σ H s) (g : DPut H a y v H') (ry : RelV y u) (rv : RelV v r) (h : ∀ s', Inv X pins σ H' s' → Q () s') :
    wpAny (model X.prog X.w) A (setItem (.ref a) u r) Q E s := by
  rcases g with ⟨kvs, k, e, ey, l, eH⟩ | ⟨kvs, k, b, e, ey, eb, l, eH⟩
  · subst ey eH
    obtain ⟨z, hd, vs, rel, dd⟩ := dk_of I.hok e
    have hz : vs.length ≤ sizeLine := by rw [← rel.length]; exact z
    have hl : (putK kvs k v).length ≤ sizeLine := by have := length_putK kvs k v; omega
    refine wpAny_setItem_pairs (hsz := hz) (kV_is ry) dd fun h' dd' hs => h _ ?_
    have he : ∃ q, h'.get? a = some q := let ⟨q, _, _, hq, _⟩ := dd'; ⟨q, hq⟩
    exact d_write I (by rw [e]; exact True.intro) hs he (dk_new hl hd (rel.put k rv) dd')
  · subst ey eH
    cases (show u = Value.ref b from ry)
    obtain ⟨z, hd, xs, rel, dd⟩ := dt_of I.hok e
    have hz : xs.length ≤ sizeLine := by rw [← Paired.length rel]; exact z
    have hl : (putK kvs k v).length ≤ sizeLine := by have := length_putK kvs k v; omega
    refine wpAny_setItem_heap (hsz := hz) (tupleKind_room_in1 hu) (key_of I.hok eb) dd fun h' dd' hs => h _ ?_
    obtain ⟨q, es, ep, hq, h2, h3, h4, _, h5⟩ := dd'
    refine d_write I (by rw [e]; exact True.intro) hs ⟨q, hq⟩ ⟨hl, hd, _, (rel.put k eb rv).keeps fun c ys ec => ?_, q, es, ep, hq, h2, h3, h4, h5⟩
    rw [upd_ne (ne_of ec e (fun z => nomatch z))]
    exact ec
end
def NoSl (i : Expr) : Prop := ∀ ov iv, subscripted i false ov iv = operate [ov, iv] (getItem ov iv)
theorem subD_of {prog : Program} {w : World} {A : Around} {E : Value → Shared → Prop} {s : Shared} {env : Env} {value slice : Expr} {pos : Pos} {T id : String} {Q : Value → Shared → Prop}
    (hl : typeLookup (.type T) "__getitem__" = pure (some (.builtin id))) (hs : NoSl slice)
    (h : wpAny (model prog w) A (eval value env) (fun o s₁ => wpAny (model prog w) A (eval slice env) (fun i s₂ => s₂.TypeIs o T ∧ wpAny (model prog w) A (getItem o i) Q E s₂) E s₁) E s) :
    wpAny (model prog w) A (eval (.Subscript value slice pos) env) Q E s := by
  refine Subscript_ (wpAny_mono h (fun o s₁ h₁ => wpAny_mono h₁ (fun i s₂ h₂ => ?_) fun _ _ x => x) fun _ _ x => x)
  obtain ⟨hT, h₂⟩ := h₂
  unfold subscriptTail
  refine wpAny_bind ?_
  rw [getitemInPython_of_ne hT.not_modules]
  refine wpAny_bind (wpAny_specialOf hT hl ?_)
  have fin : wpAny (model prog w) A (subscripted slice false o i) (fun r s₃ => wpAny (model prog w) A (letTemporaryGo value o r >>= fun _ => pure r) Q E s₃) E s₂ := by
    rw [hs o i]
    exact wpAny_operating (wpAny_mono h₂ (fun r s₃ h₃ => wpAny_bind (wpAny_letTemporaryGo (wpAny_pure h₃))) fun _ _ x => x)
  first
    | exact wpAny_pure (wpAny_bind fin)
    | exact wpAny_bind (wpAny_pure (wpAny_bind fin))
    | exact wpAny_bind fin
theorem dict_typeIs {X : Cx} {pins : List (Addr × Obj)} {σ : St} {H : Hp} {s : Shared} {a : Addr} {y : V} {o : Option V} (I : Inv X pins σ H s) (g : DGet H a y o) : s.TypeIs (.ref a) "dict" := by
  rcases g with ⟨kvs, k, e, _, _⟩ | ⟨kvs, k, b, e, _, _, _⟩
  · obtain ⟨_, _, vs, _, dd⟩ := dk_rd I.hok e
    exact dd.typeIs
  · obtain ⟨_, _, xs, _, dd⟩ := dt_rd I.hok e
    exact dd.typeIs
def tDGet (td ty : TE) : TE := fun σ H Q => td σ H fun x H1 => ty σ H1 fun y H2 => ∃ a v, x = .ref a ∧ DGet H2 a y (some v) ∧ Q v H2
def tDNotIn (ty td : TE) : TE := fun σ H Q => ty σ H fun y H1 => td σ H1 fun x H2 => ∃ a o, x = .ref a ∧ DGet H2 a y o ∧ Q (.bl (!o.isSome)) H2
def sDPut (td ty tv : TE) : TS := fun D σ H => tv σ H fun v H1 => td σ H1 fun x H2 => ty σ H2 fun y H3 => ∃ a H4, x = .ref a ∧ DPut H3 a y v H4 ∧ D.nx σ H4
section
variable {X : Cx} {o i e value : Expr} {pos pos' tpos : Pos} {td ty tv : TE}
theorem pe_dget (hu : X.A.units + 1 < cLine) (ho : PE X o td) (hi : PE X i ty) (hs : NoSl i) : PE X (.Subscript o i pos) (tDGet td ty) := by
  intro pins s σ H Q I h
  refine subD_of PySem.F.slot_dict_getitem.lookup hs (thn (ho pins s σ H _ I h) fun u s1 ⟨x, H1, I1, rx, q1⟩ => thn (hi pins s1 σ H1 _ I1 q1) fun iv s2 ⟨y, H2, I2, ry, a, v, ex, g, q2⟩ => ?_)
  subst ex
  obtain rfl : u = Value.ref a := rx
  exact ⟨dict_typeIs I2 g, d_getItem hu I2 g ry fun w' s3 I3 rw' => ⟨v, H2, I3, rw', q2⟩⟩
theorem pc_dnotin (hu : X.A.units + 1 < cLine) (hi : PE X i ty) (ho : PE X o td) : PC X .NotIn i o (tDNotIn ty td) := by
  intro pins s σ H Q I h
  refine thn (hi pins s σ H _ I h) fun iv s1 ⟨y, H1, I1, ry, q1⟩ => thn (ho pins s1 σ H1 _ I1 q1) fun u s2 ⟨x, H2, I2, rx, a, ov, ex, g, q2⟩ => ?_
  subst ex
  obtain rfl : u = Value.ref a := rx
  exact d_notIn hu I2 g ry fun s3 I3 => ⟨.bl (!ov.isSome), H2, I3, rfl, q2⟩
theorem ps_dput (hu : X.A.units + 1 < cLine) (ho : PE X o td) (hi : PE X i ty) (hv : PE X value tv) (hs : swapsWith value (some (.Subscript o i pos')) pos.line X.env = pure false) :
    PS X (.Assign [.Subscript o i pos'] value pos) (sDPut td ty tv) := by
  intro pins s σ H D I h
  refine wpAny_Assign_Subscript (thn (hv pins s σ H _ I h) fun r s1 ⟨v, H1, I1, rv, q1⟩ => thn (ho pins s1 σ H1 _ I1 q1) fun u s2 ⟨x, H2, I2, rx, q2⟩ => thn (hi pins s2 σ H2 _ I2 q2) fun iv s3 ⟨y, H3, I3, ry, a, H4, ex, g, q3⟩ => ?_) hs
  subst ex
  obtain rfl : u = Value.ref a := rx
  exact d_setItem hu I3 g ry rv fun s4 I4 => ⟨σ, H4, I4, q3⟩
end
theorem dt_empty {P : Program} {w : World} {H : Hp} (h : Heap) (hb : sysModules < h.objs.size) : ObjOk P w H (h.push { cls := .type "dict", data := .dict #[] }) h.objs.size (.dT []) :=
  ⟨Nat.zero_le _, beq_eq_false_iff_ne.mpr (Ne.symm (Nat.ne_of_lt hb)), [], .nil, _, #[], 0, Heap.get?_push_size _ rfl, ⟨rfl, rfl, rfl⟩, rfl, rfl, List.nodup_nil⟩
def tDNewT : TE := fun _ H Q => ∀ p, H p = none → Q (.ref p) (upd H p (.dT []))
section
variable {X : Cx} {pos : Pos}
theorem pe_dnewT : PE X (.Dict [] [] pos) tDNewT := fun pins s σ H Q I h =>
  wpAny_Dict_empty ⟨.ref s.heap.objs.size, _, I.laid (a := s.heap.objs.size) (o := .dT []) (t' := s.toks) (fun _ _ q => Heap.get?_push_of_some _ q) (Nat.le_refl _) (dt_empty s.heap I.big), rfl, h _ (I.hok.fresh (Nat.le_refl _))⟩
end
structure M2 (X : Cx) (o : Expr) (m : Str) (apos : Pos) (e f : Expr) (cpos : Pos) : Prop where
  base : attributeBase o m X.env (eval o X.env) = eval o X.env
  few : ((backTo cpos (starEach [e, f] X.env)).all (fun x => !x.1) && (backToKw cpos (keywordEach [] X.env)).all (fun x => x.1.isSome)
    && decide (([e, f] : List Expr).length + ([] : List Keyword).length + (if ([] : List Keyword).isEmpty then 0 else 1) < 30)) = true
  line : (apos.endLine == cpos.line) = true
  trees : backTo cpos (starEach [e, f] X.env) = [(false, eval e X.env), (false, eval f X.env)]
end L2
namespace L2
open PySem PySem.Spec PyProof.Rows
end L2
set_option Elab.async false
set_option linter.all false
set_option maxRecDepth 100000
set_option maxHeartbeats 4000000
namespace L2
open PySem PySem.Spec PyProof.Rows
structure Kp (S : List Addr) (H H' : Hp) : Prop where
  old : ∀ a o, H a = some o → a ∉ S → H' a = some o
  tup : ∀ a xs, H a = some (.tup xs) → H' a = some (.tup xs)
  dom : ∀ a o, H a = some o → ∃ o', H' a = some o'
theorem Kp.refl (S : List Addr) (H : Hp) : Kp S H H := ⟨fun _ _ e _ => e, fun _ _ e => e, fun _ o e => ⟨o, e⟩⟩
theorem Kp.trans {S : List Addr} {H H1 H2 : Hp} (a : Kp S H H1) (b : Kp S H1 H2) : Kp S H H2 :=
  ⟨fun c o e n => b.old c o (a.old c o e n) n, fun c xs e => b.tup c xs (a.tup c xs e), fun c o e => let ⟨o', e'⟩ := a.dom c o e; b.dom c o' e'⟩
theorem Kp.mono {S S' : List Addr} {H H1 : Hp} (a : Kp S H H1) (h : ∀ x ∈ S, x ∈ S') : Kp S' H H1 := ⟨fun c o e n => a.old c o e fun z => n (h c z), a.tup, a.dom⟩
theorem Kp.free {S : List Addr} {H H1 : Hp} (k : Kp S H H1) {p : Addr} (h : H1 p = none) : H p = none := by
  cases e : H p with
  | none => rfl
  | some o => obtain ⟨o', e'⟩ := k.dom p o e; rw [h] at e'; cases e'
theorem Kp.new {S : List Addr} {H H1 : Hp} (k : Kp S H H1) {p : Addr} {o : HO} (h : H1 p = none) : Kp S H (upd H1 p o) :=
  ⟨fun c u e n => by rw [upd_ne (ne_of_none (k.old c u e n) h)]; exact k.old c u e n, fun c xs e => by rw [upd_ne (ne_of_none (k.tup c xs e) h)]; exact k.tup c xs e,
    fun c u e => by
      obtain ⟨o', e'⟩ := k.dom c u e
      exact ⟨o', by rw [upd_ne (ne_of_none e' h)]; exact e'⟩⟩
theorem Kp.set {S : List Addr} {H H1 : Hp} (k : Kp S H H1) {b : Addr} {xs : List V} {o : HO} (hb : H1 b = some (.lst xs)) (h : b ∈ S ∨ H b = none) : Kp S H (upd H1 b o) :=
  ⟨fun c u e n => by
    have : c ≠ b := by
      rintro rfl
      rcases h with h | h
      · exact n h
      · rw [h] at e; cases e
    rw [upd_ne this]; exact k.old c u e n,
   fun c ys e => by
    have e1 := k.tup c ys e
    rw [upd_ne (ne_of e1 hb (by intro z; cases z))]; exact e1,
   fun c u e => by
    obtain ⟨o', e'⟩ := k.dom c u e
    by_cases q : c = b
    · subst q; exact ⟨o, upd_same⟩
    · exact ⟨o', by rw [upd_ne q]; exact e'⟩⟩
def lstOf : Option HO → Option (List V)
  | some (.lst xs) => some xs
  | _ => none
def tupOf : Option HO → Option (List V)
  | some (.tup xs) => some xs
  | _ => none
def seqOf : Option HO → Option (List V)
  | some (.lst xs) => some xs
  | some (.tup xs) => some xs
  | _ => none
theorem lstOf_lst (xs : List V) : lstOf (some (.lst xs)) = some xs := rfl
theorem tupOf_tup (xs : List V) : tupOf (some (.tup xs)) = some xs := rfl
theorem seqOf_lst (xs : List V) : seqOf (some (.lst xs)) = some xs := rfl
theorem seqOf_tup (xs : List V) : seqOf (some (.tup xs)) = some xs := rfl
theorem of_lstOf {o : Option HO} {xs : List V} (h : lstOf o = some xs) : o = some (.lst xs) := by
  unfold lstOf at h
  split at h
  · cases h; rfl
  · cases h
theorem of_tupOf {o : Option HO} {xs : List V} (h : tupOf o = some xs) : o = some (.tup xs) := by
  unfold tupOf at h
  split at h
  · cases h; rfl
  · cases h
theorem of_seqOf {o : Option HO} {xs : List V} (h : seqOf o = some xs) : o = some (.lst xs) ∨ o = some (.tup xs) := by
  unfold seqOf at h
  split at h
  · cases h; exact .inl rfl
  · cases h; exact .inr rfl
  · cases h
section
variable {X : Cx}
def rLtU : R2 := fun x y H Q => match x, y with
  | .int i, .int j => Q (.bl (decide (i < j))) H
  | .str i, .str j => Q (.bl (decide (i.cps.toList < j.cps.toList))) H
  | _, _ => False
theorem op_ltU : OpR X (compareOp .Lt) rLtU := by
  intro pins s σ H x y v u Q I rx ry h
  cases x with
  | int i => cases y with
    | int j => exact op_lt pins s σ H _ _ v u Q I rx ry ⟨i, j, rfl, rfl, h⟩
    | _ => exact False.elim h
  | str i => cases y with
    | str j => exact op_lt_str pins s σ H _ _ v u Q I rx ry ⟨i, j, rfl, rfl, h⟩
    | _ => exact False.elim h
  | _ => exact False.elim h
def rIxU : R2 := fun x y H Q => match x, y with
  | .str z, .int i => z.length ≤ sizeLine ∧ ∃ c, atI z.cps.toList i = some c ∧ Q (.str ⟨#[c]⟩) H
  | .ref p, .int i => ∃ xs, seqOf (H p) = some xs ∧ ∃ v, atI xs i = some v ∧ Q v H
  | _, _ => False
theorem ix_U : IxR X rIxU := by
  intro value slice pins s σ H x y v u Q I rx ry h hs
  cases x with
  | str z => cases y with
    | int i => obtain ⟨h1, c, h2, h3⟩ := h; exact ix_str value slice pins s σ H _ _ v u Q I rx ry ⟨z, i, c, rfl, rfl, h1, h2, h3⟩ hs
    | _ => exact False.elim h
  | ref p => cases y with
    | int i =>
      obtain ⟨xs, e, w, h2, h3⟩ := h
      rcases of_seqOf e with e | e
      · exact ix_list value slice pins s σ H _ _ v u Q I rx ry ⟨p, xs, i, w, rfl, rfl, SqL.of e, h2, h3⟩ hs
      · exact ix_tup value slice pins s σ H _ _ v u Q I rx ry ⟨p, xs, i, w, rfl, rfl, SqT.of e, h2, h3⟩ hs
    | _ => exact False.elim h
  | _ => exact False.elim h
theorem atI_0 {α : Type} (x : α) (r : List α) : atI (x :: r) 0 = some x := atI_nat (j := 0) rfl
theorem atI_1 {α : Type} (x y : α) (r : List α) : atI (x :: y :: r) 1 = some y := atI_nat (j := 1) rfl
theorem atI_2 {α : Type} (x y z : α) (r : List α) : atI (x :: y :: z :: r) 2 = some z := atI_nat (j := 2) rfl
theorem atI_of {α : Type} {xs : List α} {i : Int} {v : α} (h0 : 0 ≤ i) (h : xs[i.toNat]? = some v) : atI xs i = some v := by
  have := atI_nat (xs := xs) (j := i.toNat) h
  rwa [Int.toNat_of_nonneg h0] at this
def rSetU : V → V → V → Hp → (Hp → Prop) → Prop := fun o i v H Q => match o, i with
  | .ref p, .int k => ∃ xs, lstOf (H p) = some xs ∧ ∃ j, ixN xs.length k = some j ∧ Q (upd H p (.lst (xs.set j v)))
  | _, _ => False
theorem set_U : PSet X rSetU := by
  intro pins s σ H o i v ov iv u Q I ro ri rv h
  cases o with
  | ref p => cases i with
    | int k =>
      obtain ⟨xs, e, j, h1, h2⟩ := h
      exact set_list pins s σ H _ _ v ov iv u Q I ro ri rv ⟨p, xs, k, j, rfl, rfl, of_lstOf e, h1, h2⟩
    | _ => exact False.elim h
  | _ => exact False.elim h
def rLenU : List V → Hp → VK → Prop := fun xs H Q => match xs with
  | [.str z] => z.length ≤ sizeLine ∧ Q (.int z.length) H
  | [.ref p] => ∃ ys, seqOf (H p) = some ys ∧ Q (.int ys.length) H
  | _ => False
theorem call_lenU : CallR X (.builtin "len") rLenU := by
  intro pins s σ H xs us Q I r h
  unfold rLenU at h
  split at h
  · rename_i z; exact call_len_str pins s σ H _ us Q I r ⟨z, rfl, h⟩
  · rename_i p
    obtain ⟨ys, e, h⟩ := h
    rcases of_seqOf e with e | e
    · exact call_len_seq pins s σ H _ us Q I r ⟨p, ys, rfl, .inl (SqL.of e), h⟩
    · exact call_len_seq pins s σ H _ us Q I r ⟨p, ys, rfl, .inr (SqT.of e), h⟩
  · exact h.elim
def rMinU : List V → Hp → VK → Prop := fun xs H Q => match xs with
  | [.int i, .int j] => Q (.int (if j < i then j else i)) H
  | _ => False
theorem call_minU (hc : X.calm = true) : CallR X (.builtin "min") rMinU := by
  intro pins s σ H xs us Q I r h
  unfold rMinU at h
  split at h
  · rename_i i j; exact call_min2 hc pins s σ H _ us Q I r ⟨i, j, rfl, h⟩
  · exact h.elim
def rMaxU : List V → Hp → VK → Prop := fun xs H Q => match xs with
  | [.int i, .int j] => Q (.int (if j > i then j else i)) H
  | _ => False
theorem call_maxU (hc : X.calm = true) : CallR X (.builtin "max") rMaxU := by
  intro pins s σ H xs us Q I r h
  unfold rMaxU at h
  split at h
  · rename_i i j; exact call_max2 hc pins s σ H _ us Q I r ⟨i, j, rfl, h⟩
  · exact h.elim
def rIntU : List V → Hp → VK → Prop := fun xs H Q => match xs with
  | [.int i] => Q (.int i) H
  | [.bl k] => Q (.int (if k then 1 else 0)) H
  | _ => False
theorem call_intU : CallR X (.type "int") rIntU := by
  intro pins s σ H xs us Q I r h
  unfold rIntU at h
  split at h
  · rename_i i; exact call_int1 pins s σ H _ us Q I r (.inl ⟨i, rfl, h⟩)
  · rename_i k; exact call_int1 pins s σ H _ us Q I r (.inr ⟨k, rfl, h⟩)
  · exact h.elim
def sgn (z : Str) : List V := z.cps.toList.map fun c => V.str ⟨#[c]⟩
theorem sgn_len (z : Str) : (sgn z).length = z.length := by simp [sgn, Str.length]
theorem vals_sgn {z : Str} {acc : Array Value} (h : ItemsOf (SignAt z) acc z.cps.size) : Vals (sgn z) acc.toList := by
  obtain ⟨h1, h2⟩ := h
  have hl : (sgn z).length = acc.toList.length := by simp [sgn, h1]
  have gen : ∀ (xs : List V) (us : List Value), xs.length = us.length → (∀ (i : Nat) (x : V) (u : Value), xs[i]? = some x → us[i]? = some u → RelV x u) → Vals xs us := by
    intro xs
    induction xs with
    | nil => intro us hl _; cases us with
      | nil => exact .nil
      | cons _ _ => simp at hl
    | cons x xs ih => intro us hl h; cases us with
      | nil => simp at hl
      | cons u us => exact .cons (h 0 x u rfl rfl) (ih us (by simpa using hl) fun i a b e1 e2 => h (i + 1) a b (by simpa using e1) (by simpa using e2))
  refine gen _ _ hl fun i x u e1 e2 => ?_
  obtain ⟨c, t, hc, hu⟩ := h2 i u (by simpa using e2)
  subst hu
  simp only [sgn, List.getElem?_map] at e1
  have : z.cps.toList[i]? = some c := by simpa using hc
  rw [this] at e1
  have e1' : V.str ⟨#[c]⟩ = x := Option.some.inj e1
  subst e1'
  exact ⟨t, rfl⟩
def rListU : List V → Hp → VK → Prop := fun xs H Q => match xs with
  | [.str z] => z.length ≤ sizeLine ∧ ∀ l, H l = none → Q (.ref l) (upd H l (.lst (sgn z)))
  | [.ref p] => ∃ ys, seqOf (H p) = some ys ∧ ∀ l, H l = none → Q (.ref l) (upd H l (.lst ys))
  | _ => False
theorem call_listU (hc : X.calm = true) : CallR X (.type "list") rListU := by
  intro pins s σ H xs us Q I r h
  unfold rListU at h
  split at h
  · rename_i z
    obtain ⟨u, rfl, t, rfl⟩ := vals1 r
    obtain ⟨hz, q⟩ := h
    refine call_list_str (I.ok.hd hc) z t (fun h' tk acc c hk hn hi => ?_) hz
    have hf := I.hok.fresh (Nat.le_refl s.heap.objs.size)
    refine ⟨.ref s.heap.objs.size, upd H s.heap.objs.size (.lst (sgn z)), I.laid hk (Nat.le_refl _) ⟨by rw [sgn_len]; exact hz, acc.toList, c, vals_sgn hi, by simpa using hn⟩, rfl, q _ hf⟩
  · rename_i p
    obtain ⟨ys, e, h⟩ := h
    rcases of_seqOf e with e | e
    · exact call_list_of pins s σ H _ us Q I r ⟨p, ys, rfl, .inl (SqL.of e), h⟩
    · exact call_list_of pins s σ H _ us Q I r ⟨p, ys, rfl, .inr (SqT.of e), h⟩
  · exact h.elim
def rPopU : V → List V → Hp → VK → Prop := fun x vs H Q => match x, vs with
  | .ref l, [.int i] => ∃ xs, lstOf (H l) = some xs ∧ 0 ≤ i ∧ ∃ y, xs[i.toNat]? = some y ∧ Q y (upd H l (.lst (xs.eraseIdx i.toNat)))
  | _, _ => False
theorem mt_popU : MtM X "list.pop" rPopU := by
  intro pins s σ H x vs v us Q I rx rv h
  unfold rPopU at h
  split at h
  · rename_i l i
    obtain ⟨xs, e, h0, y, hy, q⟩ := h
    have e := of_lstOf e
    have hz := (I.lstM e).1
    have hlt : i.toNat < xs.length := (List.getElem?_eq_some_iff.mp hy).1
    have hs : sizeLine = 16777216 := sizeLine_eq
    refine mt_popAt pins s σ H _ _ v us Q I rx rv ⟨l, xs, i, i.toNat, y, rfl, rfl, e, by omega, by omega, ?_, hy, q⟩
    exact seqIndex_of h0 (by omega)
  · exact h.elim
def rIsU (K : PySem.W.Frag) : List V → Hp → VK → Prop := fun xs H Q => match xs with
  | [x, .ty c] => ∃ t b, TyOf K H x t ∧ PySem.W.kitOne K t (.type c) = some b ∧ Q (.bl b) H
  | _ => False
theorem call_isinstanceU : CallR X (.builtin "isinstance") (rIsU X.K) := by
  intro pins s σ H xs us Q I r h
  unfold rIsU at h
  split at h
  · rename_i x c
    obtain ⟨t, b, ty, e, q⟩ := h
    obtain ⟨u, w', rfl, rx, rc⟩ := vals2 r
    cases rc
    exact isinst_ok I rx ty e fun tk => ⟨.bl b, H, I.tok tk, rfl, q⟩
  · exact h.elim
def ItS (z : Str) : It := ⟨fun i _ => i < z.length, fun i H x H' => H' = H ∧ ∃ c, z.cps.toList[i]? = some c ∧ x = .str ⟨#[c]⟩, fun i _ => z.length ≤ i⟩
theorem turn_strA {P : Program} {w : World} {K : PySem.W.Frag} {tg : Expr} (z : Str) (t : Tok) (it : Addr) : Turn P w K tg (ItS z) [it] it (fun i h => h.IsStrIter it "str_ascii_iterator" z t i) where
  mem := by simp
  obj := fun i h st b hb => by
    have e : b = it := by simpa using hb
    subst e
    obtain ⟨o, e, c, d⟩ := st
    exact ⟨o, e, fun v z => by rw [d] at z; cases z⟩
  keep := fun i h h' st k => let ⟨o, ho, r⟩ := st; ⟨o, k it (by simp) o ho, r⟩
  item := by
    intro X hP hw hK hc i pins s σ H E I hf st hg
    subst hP hw hK
    obtain ⟨f0, f1, f2, f3, f4, f5⟩ := hf it (by simp)
    have hi : i < z.cps.size := hg
    refine wpAny_pyNext_ascii_item st (c := z.cps[i]) (by simp [hi]) fun h' st' sb => ?_
    have I1 : Inv X pins σ H { s with heap := h', toks := s.toks + 1 } := I.turned (t' := s.toks + 1) (fun b o hb e => (sb.2 b hb).trans e) f0 f1 f3 f4 f5
    obtain ⟨o, e, c, d⟩ := id st'
    exact ⟨_, rfl, go_of (s := { s with heap := h', toks := s.toks + 1 }) e c d (by decide) ⟨.str ⟨#[z.cps[i]]⟩, H, I1, ⟨_, rfl⟩, ⟨rfl, _, by simp [hi], rfl⟩, st', fun b hb => (hf b hb).1⟩⟩
  done := by
    intro X hP hw hK hc i pins s σ H E I hf st hg
    subst hP hw hK
    obtain ⟨f0, f1, f2, f3, f4, f5⟩ := hf it (by simp)
    have hi : z.cps.size ≤ i := hg
    exact wpAny_pyNext_ascii_end (I.ok.hd hc) st (by simp [hi]) fun h' eb => ⟨rfl, I.turned (t' := s.toks) (fun b o hb e => eb b o hb e) f0 f1 f3 f4 f5⟩
  self := fun _ _ _ _ _ st h => wpAny_pyIter_striter_ascii st h
theorem turn_strW {P : Program} {w : World} {K : PySem.W.Frag} {tg : Expr} (z : Str) (t : Tok) (it : Addr) : Turn P w K tg (ItS z) [it] it (fun i h => h.IsStrIter it "str_iterator" z t i) where
  mem := by simp
  obj := fun i h st b hb => by
    have e : b = it := by simpa using hb
    subst e
    obtain ⟨o, e, c, d⟩ := st
    exact ⟨o, e, fun v z => by rw [d] at z; cases z⟩
  keep := fun i h h' st k => let ⟨o, ho, r⟩ := st; ⟨o, k it (by simp) o ho, r⟩
  item := by
    intro X hP hw hK hc i pins s σ H E I hf st hg
    subst hP hw hK
    obtain ⟨f0, f1, f2, f3, f4, f5⟩ := hf it (by simp)
    have hi : i < z.cps.size := hg
    refine wpAny_pyNext_wide_item st (c := z.cps[i]) (by simp [hi]) fun h' st' sb => ?_
    have I1 : Inv X pins σ H { s with heap := h', toks := s.toks + 1 } := I.turned (t' := s.toks + 1) (fun b o hb e => (sb.2 b hb).trans e) f0 f1 f3 f4 f5
    obtain ⟨o, e, c, d⟩ := id st'
    exact ⟨_, rfl, go_of (s := { s with heap := h', toks := s.toks + 1 }) e c d (by decide) ⟨.str ⟨#[z.cps[i]]⟩, H, I1, ⟨_, rfl⟩, ⟨rfl, _, by simp [hi], rfl⟩, st', fun b hb => (hf b hb).1⟩⟩
  done := by
    intro X hP hw hK hc i pins s σ H E I hf st hg
    subst hP hw hK
    obtain ⟨f0, f1, f2, f3, f4, f5⟩ := hf it (by simp)
    have hi : z.cps.size ≤ i := hg
    exact wpAny_pyNext_wide_end (I.ok.hd hc) st (by simp [hi]) fun h' eb => ⟨rfl, I.turned (t' := s.toks) (fun b o hb e => eb b o hb e) f0 f1 f3 f4 f5⟩
  self := fun _ _ _ _ _ st h => wpAny_pyIter_striter_wide st h
def iAny (K : PySem.W.Frag) (t : TE) : TI := fun σ H R => t σ H fun x H1 => match x with
  | .str z => R (ItS z) H1
  | .ref a => match H1 a with
    | some (.lst _) => R (Itl K a) H1
    | some (.tup _) => R (Itt K a) H1
    | _ => False
  | _ => False
theorem pi_any {tg l : Expr} {tl : TE} (hl : PE X l tl) : PI X tg l (iAny X.K tl) := by
  intro pins s σ H R I h
  refine thn (hl pins s σ H _ I h) fun v s1 ⟨x, H1, I1, r1, q1⟩ => ?_
  cases x with
  | str z =>
    obtain ⟨t, rfl⟩ := r1
    have fr : ∀ b ∈ [s1.heap.objs.size], FpOk X pins H1 b := fun b hb => by
      have e : b = s1.heap.objs.size := by simpa using hb
      subst e
      exact I1.fpOk (Nat.le_refl _) (I1.hok.fresh (Nat.le_refl _))
    cases ha : z.cps.all (· < 128)
    · exact wpAny_pyIter_wide ha ⟨s1.heap.objs.size, [s1.heap.objs.size], _, _, H1, rfl, I1.kept (t' := s1.toks) fun b o e => Heap.get?_push_of_some _ e, turn_strW z t _, ⟨_, Heap.get?_push_size _ rfl, rfl, rfl⟩, fr, q1⟩
    · exact wpAny_pyIter_ascii ha ⟨s1.heap.objs.size, [s1.heap.objs.size], _, _, H1, rfl, I1.kept (t' := s1.toks) fun b o e => Heap.get?_push_of_some _ e, turn_strA z t _, ⟨_, Heap.get?_push_size _ rfl, rfl, rfl⟩, fr, q1⟩
  | ref a =>
    cases r1
    have fr : ∀ b ∈ [s1.heap.objs.size], FpOk X pins H1 b := fun b hb => by
      have e : b = s1.heap.objs.size := by simpa using hb
      subst e
      exact I1.fpOk (Nat.le_refl _) (I1.hok.fresh (Nat.le_refl _))
    simp only at q1
    split at q1
    · rename_i xs e
      obtain ⟨its, rv, p, hz⟩ := I1.list (SqL.of e)
      exact wpAny_pyIter_list p.isList ⟨s1.heap.objs.size, [s1.heap.objs.size], _, _, H1, rfl, I1.kept (t' := s1.toks) fun b o e => Heap.get?_push_of_some _ e, turn_list a _, ⟨_, Heap.get?_push_size _ rfl, rfl, rfl⟩, fr, q1⟩
    · rename_i xs e
      obtain ⟨its, rv, p, hz⟩ := I1.tuple (SqT.of e)
      exact wpAny_pyIter_tuple (show s1.heap.IsTuple a its.toArray from p) ⟨s1.heap.objs.size, [s1.heap.objs.size], _, _, H1, rfl, I1.kept (t' := s1.toks) fun b o e => Heap.get?_push_of_some _ e, turn_tuple a _, ⟨_, Heap.get?_push_size _ rfl, rfl, rfl⟩, fr, q1⟩
    · exact q1.elim
  | _ => exact False.elim q1
mutual
def Rep (H : Hp) : V → PyData → Prop
  | v, .none => v = .non
  | v, .bool b => v = .bl b
  | v, .int i => v = .int i
  | v, .str x => v = .str x
  | v, .list ds => ∃ a vs, v = .ref a ∧ H a = some (.lst vs) ∧ Reps H vs ds
  | v, .tuple ds => ∃ a vs, v = .ref a ∧ H a = some (.tup vs) ∧ Reps H vs ds
  | _, .dict _ => False
def Reps (H : Hp) : List V → List PyData → Prop
  | [], [] => True
  | v :: vs, d :: ds => Rep H v d ∧ Reps H vs ds
  | _, _ => False
end
section
variable {pins : List (Addr × Obj)} {σ : L2.St} {H : Hp} {s : Shared}
mutual
theorem Rep.reads (I : Inv X pins σ H s) : ∀ {d : PyData} {v : V} {u : Value}, Rep H v d → RelV v u → ∃ as, Reads s.heap u d as
  | .none, v, u, h, r => by simp only [Rep] at h; subst h; cases r; exact ⟨_, .none⟩
  | .bool b, v, u, h, r => by simp only [Rep] at h; subst h; cases r; exact ⟨_, .bool b⟩
  | .int i, v, u, h, r => by simp only [Rep] at h; subst h; obtain ⟨t, rfl⟩ := r; exact ⟨_, .int i t⟩
  | .str x, v, u, h, r => by simp only [Rep] at h; subst h; obtain ⟨t, rfl⟩ := r; exact ⟨_, .str x t⟩
  | .list ds, v, u, h, r => by
    simp only [Rep] at h
    obtain ⟨a, vs, rfl, e, h⟩ := h
    cases r
    obtain ⟨its, rv, ⟨o, n, e1, e2, e3, e4⟩, hz⟩ := I.list (SqL.of e)
    obtain ⟨as, q⟩ := Reps.reads I h rv
    exact ⟨_, reads_list_at e1 e2 e4 (by simpa using q)⟩
  | .tuple ds, v, u, h, r => by
    simp only [Rep] at h
    obtain ⟨a, vs, rfl, e, h⟩ := h
    cases r
    obtain ⟨its, rv, ⟨o, e1, e2, n, e4⟩, hz⟩ := I.tuple (SqT.of e)
    obtain ⟨as, q⟩ := Reps.reads I h rv
    exact ⟨_, reads_tuple_at e1 e2 e4 (by simpa using q)⟩
  | .dict _, v, u, h, r => by simp only [Rep] at h
theorem Reps.reads (I : Inv X pins σ H s) : ∀ {ds : List PyData} {vs : List V} {us : List Value}, Reps H vs ds → Vals vs us → ∃ as, ReadsAll s.heap us ds as
  | [], [], us, h, r => by cases r; exact ⟨_, .nil⟩
  | [], v :: vs, us, h, r => by simp only [Reps] at h
  | d :: ds, [], us, h, r => by simp only [Reps] at h
  | d :: ds, v :: vs, us, h, r => by
    simp only [Reps] at h
    cases r with
    | cons r1 r2 =>
      obtain ⟨as, q⟩ := Rep.reads I h.1 r1
      obtain ⟨bs, q2⟩ := Reps.reads I h.2 r2
      exact ⟨_, .cons q q2⟩
end
end
def rEqD : R2 := fun x y H Q => ∃ d e, Rep H x d ∧ Rep H y e ∧ SeqAt.shaped d = true ∧ SeqAt.shaped e = true ∧ Q (.bl (PyData.eqv d e)) H
theorem op_eqD (hu : X.A.units + 64 < cLine) : OpR X (compareOp .Eq) rEqD := by
  intro pins s σ H x y v u Q I rx ry h
  obtain ⟨d, e, hd, he, sd, se, q⟩ := h
  obtain ⟨as, r1⟩ := hd.reads I rx
  obtain ⟨bs, r2⟩ := he.reads I ry
  exact eq_dataH r1 r2 sd se hu ⟨.bl _, H, I, rfl, q⟩
def rNeD : R2 := fun x y H Q => ∃ d e, Rep H x d ∧ Rep H y e ∧ SeqAt.shaped d = true ∧ SeqAt.shaped e = true ∧ Q (.bl (!PyData.eqv d e)) H
theorem op_neD (hu : X.A.units + 64 < cLine) : OpR X (compareOp .NotEq) rNeD := by
  intro pins s σ H x y v u Q I rx ry h
  obtain ⟨d, e, hd, he, sd, se, q⟩ := h
  obtain ⟨as, r1⟩ := hd.reads I rx
  obtain ⟨bs, r2⟩ := he.reads I ry
  exact ne_dataH r1 r2 sd se hu ⟨.bl _, H, I, rfl, q⟩
def revS (z : Str) : Str := ⟨z.cps.reverse⟩
theorem rev_slice (z : Str) (u : Tok) : Txt.sliceBy z none none (-1, u) = revS z := by
  have h := step_rev_list z u
  have e : (List.range z.length).map (fun k => z.cps.getD (z.length - 1 - k) 0) = z.cps.toList.reverse := by
    apply List.ext_getElem?
    intro i
    by_cases hi : i < z.length
    · have hz : z.length = z.cps.size := rfl
      have hi' : z.cps.size - 1 - i < z.cps.size := by omega
      simp [hz, hi', Array.getD, hz ▸ hi]
    · have hz : z.length = z.cps.size := rfl
      have h1 : ((List.range z.length).map (fun k => z.cps.getD (z.length - 1 - k) 0))[i]? = none := List.getElem?_eq_none_iff.mpr (by simp; omega)
      have h2 : z.cps.toList.reverse[i]? = none := List.getElem?_eq_none_iff.mpr (by simp; omega)
      rw [h1, h2]
  rw [e] at h
  have h2 : (Txt.sliceBy z none none (-1, u)).cps = z.cps.reverse := by
    apply Array.ext'
    simpa using h
  show (⟨(Txt.sliceBy z none none (-1, u)).cps⟩ : Str) = ⟨z.cps.reverse⟩
  rw [h2]
def tRevS (te : TE) : TE := fun σ H Q => te σ H fun x H1 => ∃ z, x = .str z ∧ z.length ≤ sizeLine ∧ Q (.str (revS z)) H1
theorem pe_rev {e : Expr} {te : TE} {p1 p2 p3 p4 : Pos} {k : Nat} (he : PE X e te) (ht : ∀ o r, letTemporaryGo e o r = pure () := by intro _ _; with_unfolding_all rfl) :
    PE X (.Subscript e (.Slice none none (some (.UnaryOp .USub (.Constant (.int 1) k p1) p2)) p3) p4) (tRevS te) := by
  intro pins s σ H Q I h
  refine Subscript_ (thn (he pins s σ H _ I h) fun v s1 ⟨x, H1, I1, r1, q1⟩ => ?_)
  obtain ⟨z, rfl, hz, q⟩ := q1
  obtain ⟨t, rfl⟩ := r1
  refine wpAny_Slice ?_
  rw [evalPart_none, evalPart_some]
  refine wpAny_pure (wpAny_pure (UnaryOp_ (wpAny_Constant_int (neg_int ?_))))
  refine tail_of_ItemOn ⟨"str", _, F.slot_str_getitem.lookup, typeIs_str _ _ _, wpAny_getItem_str_slice (l := none) (u := none) (st := some (-1, _)) ⟨_, Heap.get?_push_size _ rfl, rfl, rfl⟩ (by rfl)
    (post_val_or_str ⟨Nat.le_trans (Txt.sliceBy_le z _ _ (-1, _) (by simp)) hz, fun t' c => ?_⟩)⟩ (by with_unfolding_all rfl) (ht _)
  refine ⟨.str (revS z), H1, ?_, ⟨t', congrArg (Value.str · t') (rev_slice z _)⟩, q⟩
  exact I1.kept (fun b o e => Heap.get?_push_of_some _ e)
end
end L2
set_option Elab.async false
set_option linter.all false
set_option maxRecDepth 100000
set_option maxHeartbeats 4000000
namespace L2
open PySem PySem.Spec PyProof.Rows
theorem bt_len : bootBuiltins "len" = some (.builtin "len") := by decide +kernel
theorem bt_min : bootBuiltins "min" = some (.builtin "min") := by decide +kernel
theorem bt_max : bootBuiltins "max" = some (.builtin "max") := by decide +kernel
theorem bt_isinstance : bootBuiltins "isinstance" = some (.builtin "isinstance") := by decide +kernel
theorem bt_sorted : bootBuiltins "sorted" = some (.builtin "sorted") := by decide +kernel
theorem bt_int : bootBuiltins "int" = some (.type "int") := by decide +kernel
theorem bt_list : bootBuiltins "list" = some (.type "list") := by decide +kernel
theorem bt_tuple : bootBuiltins "tuple" = some (.type "tuple") := by decide +kernel
theorem bt_str : bootBuiltins "str" = some (.type "str") := by decide +kernel
theorem bt_set : bootBuiltins "set" = some (.type "set") := by decide +kernel
theorem bt_bool : bootBuiltins "bool" = some (.type "bool") := by decide +kernel
section
variable {X : Cx}
def isL (x : V) (H : Hp) : Prop := match x with
  | .ref p => (lstOf (H p)).isSome = true
  | _ => False
def tBML (r : V → List V → Hp → VK → Prop) (to : TE) (t : TA) : TE := fun σ H Q => to σ H fun x H1 => isL x H1 ∧ t σ H1 fun xs H2 => r x xs H2 Q
theorem isL.ty {K : PySem.W.Frag} {x : V} {H : Hp} (h : isL x H) : tyV K "list" x H := by
  unfold isL at h
  split at h
  · rename_i p
    cases e : lstOf (H p) with
    | none => rw [e] at h; cases h
    | some ys => exact .inl ⟨rfl, ys, SqL.of (of_lstOf e)⟩
  · exact h.elim
variable {o e : Expr} {es : List Expr} {to : TE} {t : TA} {name : Str} {apos cpos : Pos} {id : String} {r : V → List V → Hp → VK → Prop}
theorem PE.imp {e : Expr} {t t' : TE} (h : PE X e t) (hi : ∀ σ H Q, t' σ H Q → t σ H Q) : PE X e t' := fun pins s σ H Q I hw => h pins s σ H Q I (hi σ H Q hw)
theorem pe_bmL (slot : Slot "list" name id) (hty : typeOf (.builtin id) = pure (.type "method_descriptor")) (hm : MtM X id r) (ho : PE X o to) (ha : PA X (e :: es) t) (mono : ∀ σ H Q Q', (∀ v H', Q v H' → Q' v H') → to σ H Q → to σ H Q')
    (hbase : attributeBase o name X.env (eval o X.env) = eval o X.env := by rfl)
    (hfew : ((backTo cpos (starEach (e :: es) X.env)).all (fun x => !x.1) && (backToKw cpos (keywordEach [] X.env)).all (fun x => x.1.isSome)
      && decide ((e :: es).length + ([] : List Keyword).length + (if ([] : List Keyword).isEmpty then 0 else 1) < 30)) = true := by rfl)
    (hline : (apos.endLine == cpos.line) = true := by rfl) (hs : starEach (e :: es) X.env = (false, eval e X.env) :: starEach es X.env := by rfl) (hplain : (backTo cpos (starEach es X.env)).any (·.1) = false := by rfl) :
    PE X (.Call (.Attribute o name apos) (e :: es) [] cpos) (tBML r to t) :=
  (pe_bm PySem.F.plainAttrs_list slot hty hm ho ha hbase hfew hline hs hplain).imp fun σ H Q h => mono σ H _ _ (fun v H' q => ⟨q.1.ty, q.2⟩) h
theorem mono_var {i : Nat} : ∀ σ H Q Q', (∀ v H', Q v H' → Q' v H') → tVar i σ H Q → tVar i σ H Q' := fun _ _ _ _ h ⟨v, e, q⟩ => ⟨v, e, h v _ q⟩
def rAppendU : V → List V → Hp → VK → Prop := fun x vs H Q => match x, vs with
  | .ref l, [y] => ∃ xs, lstOf (H l) = some xs ∧ xs.length < sizeLine ∧ Q .non (upd H l (.lst (xs ++ [y])))
  | _, _ => False
theorem mt_appendU : MtM X "list.append" rAppendU := by
  intro pins s σ H x vs v us Q I rx rv h
  unfold rAppendU at h
  split at h
  · rename_i l y
    obtain ⟨xs, e, h⟩ := h
    exact mt_append pins s σ H _ _ v us Q I rx rv ⟨l, xs, y, rfl, rfl, of_lstOf e, h⟩
  · exact h.elim
def rExtendU : V → List V → Hp → VK → Prop := fun x vs H Q => match x, vs with
  | .ref l, [.ref b] => ∃ xs, lstOf (H l) = some xs ∧ ∃ zs, lstOf (H b) = some zs ∧ xs.length + zs.length ≤ sizeLine ∧ Q .non (upd H l (.lst (xs ++ zs)))
  | _, _ => False
theorem mt_extendU : MtM X "list.extend" rExtendU := by
  intro pins s σ H x vs v us Q I rx rv h
  unfold rExtendU at h
  split at h
  · rename_i l b
    obtain ⟨xs, e1, zs, e2, h⟩ := h
    exact mt_extend pins s σ H _ _ v us Q I rx rv ⟨l, b, xs, zs, rfl, rfl, of_lstOf e1, of_lstOf e2, h⟩
  · exact h.elim
def rEqU : R2 := fun x y H Q => match x, y with
  | .int i, .int j => Q (.bl (decide (i = j))) H
  | .bl i, .bl j => Q (.bl (decide (i = j))) H
  | .str i, .str j => Q (.bl (decide (i = j))) H
  | .ref a, .ref b => rEqD (.ref a) (.ref b) H Q
  | x, y => scal x y = true ∧ Q (.bl (decide (x = y))) H
def rNeU : R2 := fun x y H Q => match x, y with
  | .int i, .int j => Q (.bl (!decide (i = j))) H
  | .bl i, .bl j => Q (.bl (!decide (i = j))) H
  | .str i, .str j => Q (.bl (!decide (i = j))) H
  | .ref a, .ref b => rNeD (.ref a) (.ref b) H Q
  | x, y => scal x y = true ∧ Q (.bl (!decide (x = y))) H
theorem op_eqU (hu : X.A.units + 64 < cLine) : OpR X (compareOp .Eq) rEqU := by
  intro pins s σ H x y v u Q I rx ry h
  unfold rEqU at h
  split at h
  · exact op_eq pins s σ H _ _ v u Q I rx ry ⟨rfl, by simpa using h⟩
  · exact op_eq pins s σ H _ _ v u Q I rx ry ⟨rfl, by simpa using h⟩
  · exact op_eq pins s σ H _ _ v u Q I rx ry ⟨rfl, by simpa using h⟩
  · exact op_eqD hu pins s σ H _ _ v u Q I rx ry h
  · exact op_eq pins s σ H _ _ v u Q I rx ry h
theorem op_neU (hu : X.A.units + 64 < cLine) : OpR X (compareOp .NotEq) rNeU := by
  intro pins s σ H x y v u Q I rx ry h
  unfold rNeU at h
  split at h
  · exact op_ne pins s σ H _ _ v u Q I rx ry ⟨rfl, by simpa using h⟩
  · exact op_ne pins s σ H _ _ v u Q I rx ry ⟨rfl, by simpa using h⟩
  · exact op_ne pins s σ H _ _ v u Q I rx ry ⟨rfl, by simpa using h⟩
  · exact op_neD hu pins s σ H _ _ v u Q I rx ry h
  · exact op_ne pins s σ H _ _ v u Q I rx ry h
theorem rLtU_int (H : Hp) (Q : VK) (i j : Int) : rLtU (.int i) (.int j) H Q = (Q (.bl (decide (i < j))) H) := rfl
theorem rLtU_str (H : Hp) (Q : VK) (i j : Str) : rLtU (.str i) (.str j) H Q = (Q (.bl (decide (i.cps.toList < j.cps.toList))) H) := rfl
theorem rIxU_str (H : Hp) (Q : VK) (z : Str) (i : Int) : rIxU (.str z) (.int i) H Q = (z.length ≤ sizeLine ∧ ∃ c, atI z.cps.toList i = some c ∧ Q (.str ⟨#[c]⟩) H) := rfl
theorem rIxU_ref (H : Hp) (Q : VK) (p : Addr) (i : Int) : rIxU (.ref p) (.int i) H Q = (∃ xs, seqOf (H p) = some xs ∧ ∃ v, atI xs i = some v ∧ Q v H) := rfl
theorem rLenU_str (H : Hp) (Q : VK) (z : Str) : rLenU [.str z] H Q = (z.length ≤ sizeLine ∧ Q (.int z.length) H) := rfl
theorem rLenU_ref (H : Hp) (Q : VK) (p : Addr) : rLenU [.ref p] H Q = (∃ ys, seqOf (H p) = some ys ∧ Q (.int ys.length) H) := rfl
theorem rMinU_int (H : Hp) (Q : VK) (i j : Int) : rMinU [.int i, .int j] H Q = (Q (.int (if j < i then j else i)) H) := rfl
theorem rMaxU_int (H : Hp) (Q : VK) (i j : Int) : rMaxU [.int i, .int j] H Q = (Q (.int (if j > i then j else i)) H) := rfl
theorem rIntU_int (H : Hp) (Q : VK) (i : Int) : rIntU [.int i] H Q = (Q (.int i) H) := rfl
theorem rIntU_bl (H : Hp) (Q : VK) (k : Bool) : rIntU [.bl k] H Q = (Q (.int (if k then 1 else 0)) H) := rfl
theorem rListU_str (H : Hp) (Q : VK) (z : Str) : rListU [.str z] H Q = (z.length ≤ sizeLine ∧ ∀ l, H l = none → Q (.ref l) (upd H l (.lst (sgn z)))) := rfl
theorem rListU_ref (H : Hp) (Q : VK) (p : Addr) : rListU [.ref p] H Q = (∃ ys, seqOf (H p) = some ys ∧ ∀ l, H l = none → Q (.ref l) (upd H l (.lst ys))) := rfl
theorem rPopU_ref (H : Hp) (Q : VK) (l : Addr) (i : Int) : rPopU (.ref l) [.int i] H Q = (∃ xs, lstOf (H l) = some xs ∧ 0 ≤ i ∧ ∃ y, xs[i.toNat]? = some y ∧ Q y (upd H l (.lst (xs.eraseIdx i.toNat)))) := rfl
theorem rAppendU_ref (H : Hp) (Q : VK) (l : Addr) (y : V) : rAppendU (.ref l) [y] H Q = (∃ xs, lstOf (H l) = some xs ∧ xs.length < sizeLine ∧ Q .non (upd H l (.lst (xs ++ [y])))) := rfl
theorem rExtendU_ref (H : Hp) (Q : VK) (l b : Addr) : rExtendU (.ref l) [.ref b] H Q = (∃ xs, lstOf (H l) = some xs ∧ ∃ zs, lstOf (H b) = some zs ∧ xs.length + zs.length ≤ sizeLine ∧ Q .non (upd H l (.lst (xs ++ zs)))) := rfl
theorem rEqU_int (H : Hp) (Q : VK) (i j : Int) : rEqU (.int i) (.int j) H Q = (Q (.bl (decide (i = j))) H) := rfl
theorem rEqU_bl (H : Hp) (Q : VK) (i j : Bool) : rEqU (.bl i) (.bl j) H Q = (Q (.bl (decide (i = j))) H) := rfl
theorem rEqU_str (H : Hp) (Q : VK) (i j : Str) : rEqU (.str i) (.str j) H Q = (Q (.bl (decide (i = j))) H) := rfl
theorem rEqU_ref (H : Hp) (Q : VK) (i j : Addr) : rEqU (.ref i) (.ref j) H Q = (rEqD (.ref i) (.ref j) H Q) := rfl
theorem rNeU_int (H : Hp) (Q : VK) (i j : Int) : rNeU (.int i) (.int j) H Q = (Q (.bl (!decide (i = j))) H) := rfl
theorem rNeU_bl (H : Hp) (Q : VK) (i j : Bool) : rNeU (.bl i) (.bl j) H Q = (Q (.bl (!decide (i = j))) H) := rfl
theorem rNeU_str (H : Hp) (Q : VK) (i j : Str) : rNeU (.str i) (.str j) H Q = (Q (.bl (!decide (i = j))) H) := rfl
theorem rNeU_ref (H : Hp) (Q : VK) (i j : Addr) : rNeU (.ref i) (.ref j) H Q = (rNeD (.ref i) (.ref j) H Q) := rfl
theorem rIsU_ty (K : PySem.W.Frag) (x : V) (c : String) (H : Hp) (Q : VK) : rIsU K [x, .ty c] H Q = (∃ t b, TyOf K H x t ∧ PySem.W.kitOne K t (.type c) = some b ∧ Q (.bl b) H) := rfl
theorem rSetU_ref (p : Addr) (k : Int) (v : V) (H : Hp) (Q : Hp → Prop) : rSetU (.ref p) (.int k) v H Q = (∃ xs, lstOf (H p) = some xs ∧ ∃ j, ixN xs.length k = some j ∧ Q (upd H p (.lst (xs.set j v)))) := rfl
theorem isL_ref (p : Addr) (H : Hp) : isL (.ref p) H = ((lstOf (H p)).isSome = true) := rfl
def LoopR (J : It) (g : TG) (tb : TS) (D : Ends) (σ : L2.St) (H1 : Hp) : Prop := ∃ W : Nat → Nat → L2.St → Hp → Prop, (∃ m, W 0 m σ H1) ∧ ∀ i m σ H, W i m σ H →
  (J.stop i H ∧ D.nx σ H) ∨ (J.go i H ∧ ∃ N : L2.St → Hp → Prop, (∀ σ' H', N σ' H' → ∃ m', m' < m ∧ W (i + 1) m' σ' H') ∧ ∀ x H', J.yld i H x H' → g x σ H' fun σ2 H2 => tb { D with nx := N, ct := N, bk := D.nx } σ2 H2)
theorem tFor_eq (wi : TI) (g : TG) (tb : TS) (D : Ends) (σ : L2.St) (H : Hp) : tFor wi g tb D σ H = wi σ H fun J H1 => LoopR J g tb D σ H1 := rfl
theorem loop_range {lo : Int} {n : Nat} {g : TG} {tb : TS} {D : Ends} {σ : L2.St} {H : Hp} (Pv : Nat → L2.St → Hp → Prop) (h0 : Pv 0 σ H)
    (hs : ∀ i σ H, i < n → Pv i σ H → g (.int (lo + i)) σ H fun σ2 H2 => tb { D with nx := Pv (i + 1), ct := Pv (i + 1), bk := D.nx } σ2 H2) (hd : ∀ σ H, Pv n σ H → D.nx σ H) : LoopR (Itr lo n) g tb D σ H := for_range Pv h0 hs hd
theorem loop_list {K : PySem.W.Frag} {a : Addr} {xs : List V} {g : TG} {tb : TS} {D : Ends} {σ : L2.St} {H : Hp} (Pv : Nat → L2.St → Hp → Prop) (h0 : Pv 0 σ H) (hl : ∀ i σ H, i ≤ xs.length → Pv i σ H → H a = some (.lst xs))
    (hs : ∀ i x σ H, xs[i]? = some x → Pv i σ H → g x σ H fun σ2 H2 => tb { D with nx := Pv (i + 1), ct := Pv (i + 1), bk := D.nx } σ2 H2) (hd : ∀ σ H, Pv xs.length σ H → D.nx σ H) : LoopR (Itl K a) g tb D σ H :=
  for_list Pv h0 (fun i σ H h p => SqL.of (hl i σ H h p)) hs hd
theorem loop_tup {K : PySem.W.Frag} {a : Addr} {xs : List V} {g : TG} {tb : TS} {D : Ends} {σ : L2.St} {H : Hp} (Pv : Nat → L2.St → Hp → Prop) (h0 : Pv 0 σ H) (hl : ∀ i σ H, i ≤ xs.length → Pv i σ H → H a = some (.tup xs))
    (hs : ∀ i x σ H, xs[i]? = some x → Pv i σ H → g x σ H fun σ2 H2 => tb { D with nx := Pv (i + 1), ct := Pv (i + 1), bk := D.nx } σ2 H2) (hd : ∀ σ H, Pv xs.length σ H → D.nx σ H) : LoopR (Itt K a) g tb D σ H :=
  for_tup Pv h0 (fun i σ H h p => SqT.of (hl i σ H h p)) hs hd
end
end L2
set_option Elab.async false
set_option linter.all false
set_option maxRecDepth 100000
set_option maxHeartbeats 4000000
namespace L2
open PySem PySem.Spec PyProof.Rows
def clOf (env : Env) : List (Str × NameKind) → List (Str × Addr) → List (Str × Addr)
  | [], cs => cs
  | (n, k) :: r, cs => clOf env r (if k == .free then (n, (env.cells.lookup n).getD 0) :: cs else cs)
theorem closure_of {env : Env} {scope : Scope} (h : ∀ y ∈ scope.names, y.2 = .free → ∃ c, env.cells.lookup y.1 = some c) : closureFor scope env = pure (clOf env scope.names []) := by
  have gen : ∀ (l : List (Str × NameKind)) (cs : List (Str × Addr)), (∀ y ∈ l, y.2 = .free → ∃ c, env.cells.lookup y.1 = some c) →
      (forIn l cs fun x r => (match x with | (name, kind) => if (kind == NameKind.free) = true then do let c ← cellOf env name; pure (ForInStep.yield ((name, c) :: r)) else pure (ForInStep.yield r)) : Sem (List (Str × Addr))) = pure (clOf env l cs) := by
    intro l
    induction l with
    | nil => intro cs _; rfl
    | cons y l ih =>
      intro cs hy
      obtain ⟨n, k⟩ := y
      rw [List.forIn_cons]
      have hr := fun z hz => hy z (List.mem_cons_of_mem _ hz)
      by_cases hk : k = .free
      · subst hk
        obtain ⟨c, hc⟩ := hy _ (List.mem_cons_self ..) rfl
        have hc' : env.cells.lookup n = some c := hc
        have e : cellOf env n = pure c := by unfold cellOf; rw [hc']
        simp only [beq_self_eq_true, if_true, e, pure_bind]
        rw [ih _ hr]
        simp [clOf, hc']
      · have hb : (k == NameKind.free) = false := by simpa using hk
        simp only [hb, Bool.false_eq_true, if_false, pure_bind]
        rw [ih _ hr]
        simp [clOf, hb]
  exact (congrArg (· >>= fun s => pure s) (gen scope.names [] h)).trans (by rfl)
theorem clOf_sub {env : Env} : ∀ (l : List (Str × NameKind)) (cs : List (Str × Addr)) (x : Str) (c : Addr), (∀ y ∈ l, y.2 = .free → ∃ c, env.cells.lookup y.1 = some c) → (∀ x c, cs.lookup x = some c → env.cells.lookup x = some c) →
    (clOf env l cs).lookup x = some c → env.cells.lookup x = some c
  | [], cs, x, c, _, hc, h => hc x c h
  | (n, k) :: r, cs, x, c, hl, hc, h => by
    unfold clOf at h
    refine clOf_sub r _ x c (fun y hy => hl y (List.mem_cons_of_mem _ hy)) (fun z d hz => ?_) h
    split at hz
    · rename_i hk
      rw [List.lookup_cons] at hz
      cases hzn : z == n with
      | true =>
        rw [hzn] at hz
        obtain ⟨c', hc'⟩ := hl _ (List.mem_cons_self ..) (by simpa using hk)
        have hc'' : env.cells.lookup n = some c' := hc'
        have ez : z = n := by simpa using hzn
        subst ez
        rw [hc''] at hz
        rw [hc'']
        exact hz
      | false => rw [hzn] at hz; exact hc z d hz
    · exact hc z d hz
theorem clOf_keep {env : Env} : ∀ (l : List (Str × NameKind)) (cs : List (Str × Addr)) (x : Str), (∃ c, cs.lookup x = some c) → ∃ c, (clOf env l cs).lookup x = some c
  | [], cs, x, h => h
  | (n, k) :: r, cs, x, h => by
    unfold clOf
    refine clOf_keep r _ x ?_
    split
    · rw [List.lookup_cons]
      cases x == n with
      | true => exact ⟨_, rfl⟩
      | false => exact h
    · exact h
theorem clOf_has {env : Env} : ∀ (l : List (Str × NameKind)) (cs : List (Str × Addr)) (x : Str), (x, NameKind.free) ∈ l → ∃ c, (clOf env l cs).lookup x = some c
  | (n, k) :: r, cs, x, h => by
    unfold clOf
    rcases List.mem_cons.mp h with h | h
    · cases h
      refine clOf_keep r _ _ ?_
      simp [List.lookup_cons]
    · exact clOf_has r _ x h
abbrev Cx.comp (X : Cx) (scope : Scope) (C : Addr) (Nc : List Str) (s3 : Shared) (H3 : Hp) (fp : List Addr) : Cx :=
  { X with N := Nc, s₀ := s3, H₀ := H3, env := compEnvC scope (clOf X.env scope.names []) C X.env, outer := X.stack, stack := X.stack, ex := fp, fn := fun _ => false, pn := [], xe := fun _ _ => False }
def compSt (js : List (Option Nat)) (σ : L2.St) : L2.St := js.map fun o => o.bind fun j => (σ[j]?).getD none
def tEmit (D : Addr) (te : TE) : TS := fun E σ H => te σ H fun v H1 => ∃ ys, lstOf (H1 D) = some ys ∧ ys.length < sizeLine ∧ E.nx σ (upd H1 D (.lst (ys ++ [v])))
def tComp (wi : TI) (g : TG) (js : List (Option Nat)) (te : TE) : TE := fun σ H Q => wi σ H fun J H1 => ∀ D, H1 D = none →
  LoopR J g (tEmit D te) { nx := fun _ H' => Q (.ref D) H', rt := fun _ _ => False } (compSt js σ) (upd H1 D (.lst []))
structure CompOk (X : Cx) (scope : Scope) (Nc : List Str) (js : List (Option Nat)) : Prop where
  kind : scope.kind = .function
  nocell : ∀ y ∈ scope.names, y.2 ≠ .cell
  loc : ∀ y ∈ scope.names, y.2 = .local → scope.names.lookup y.1 = some .local
  free : ∀ y ∈ scope.names, y.2 = .free → X.env.kindOf y.1 = some .cell ∨ X.env.kindOf y.1 = some .free
  len : js.length = Nc.length
  nol : ∀ x, (x, NameKind.free) ∈ scope.names → scope.names.lookup x ≠ some .local
  see : ∀ (i j : Nat) (x : Str), js[i]? = some (some j) → Nc[i]? = some x → X.N[j]? = some x ∧ (x, NameKind.free) ∈ scope.names
section
variable {X : Cx} {pins : List (Addr × Obj)} {σ : L2.St} {H : Hp} {s : Shared} {scope : Scope} {Nc : List Str} {js : List (Option Nat)} {fp : List Addr}
theorem CompOk.has (c : CompOk X scope Nc js) (I : Inv X pins σ H s) : ∀ y ∈ scope.names, y.2 = .free → ∃ a, X.env.cells.lookup y.1 = some a := fun y hy hf => I.ok.has _ (c.free y hy hf)
theorem relabel_kind {env : Env} {x : Str} : ∀ {l : List (Str × NameKind)}, (∀ y ∈ l, y.2 ≠ .cell) →
    ((l.map fun (n, k) => if (k == NameKind.free && env.scope.kind == .function && env.kindOf n == some .cell) then (n, NameKind.cell) else (n, k)).lookup x = some .cell ∨
     (l.map fun (n, k) => if (k == NameKind.free && env.scope.kind == .function && env.kindOf n == some .cell) then (n, NameKind.cell) else (n, k)).lookup x = some .free) → (x, NameKind.free) ∈ l
  | [], _, h => by simp at h
  | (n, k) :: r, hc, h => by
    rw [List.map_cons] at h
    by_cases hx : x = n
    · subst hx
      have hk : k = .free := by
        have hk' : k ≠ .cell := hc _ (List.mem_cons_self ..)
        by_cases hcond : (k == NameKind.free && env.scope.kind == .function && env.kindOf x == some .cell) = true
        · rw [Bool.and_eq_true, Bool.and_eq_true] at hcond
          simpa using hcond.1.1
        · simp only [hcond, Bool.false_eq_true, if_false, List.lookup_cons, beq_self_eq_true] at h
          rcases h with h | h
          · exact absurd (Option.some.inj h) hk'
          · exact Option.some.inj h
      subst hk
      exact List.mem_cons_self ..
    · refine List.mem_cons_of_mem _ (relabel_kind (env := env) (fun y hy => hc y (List.mem_cons_of_mem _ hy)) ?_)
      have hxn : (x == n) = false := by simpa using hx
      by_cases hcond : (k == NameKind.free && env.scope.kind == .function && env.kindOf n == some .cell) = true
      · simpa only [hcond, if_true, List.lookup_cons, hxn] using h
      · simpa only [hcond, Bool.false_eq_true, if_false, List.lookup_cons, hxn] using h
theorem relabel_loc {env : Env} {x : Str} : ∀ {l : List (Str × NameKind)},
    (l.map fun (n, k) => if (k == NameKind.free && env.scope.kind == .function && env.kindOf n == some .cell) then (n, NameKind.cell) else (n, k)).lookup x = some .local → l.lookup x = some .local
  | [], h => by simp at h
  | (n, k) :: r, h => by
    rw [List.map_cons] at h
    by_cases hx : x = n
    · subst hx
      by_cases hcond : (k == NameKind.free && env.scope.kind == .function && env.kindOf x == some .cell) = true
      · simp only [hcond, if_true, List.lookup_cons, beq_self_eq_true] at h
        cases h
      · simp only [hcond, Bool.false_eq_true, if_false, List.lookup_cons, beq_self_eq_true] at h
        simp only [List.lookup_cons, beq_self_eq_true]
        exact h
    · have hxn : (x == n) = false := by simpa using hx
      rw [List.lookup_cons, hxn]
      refine relabel_loc (env := env) ?_
      by_cases hcond : (k == NameKind.free && env.scope.kind == .function && env.kindOf n == some .cell) = true
      · simpa only [hcond, if_true, List.lookup_cons, hxn] using h
      · simpa only [hcond, Bool.false_eq_true, if_false, List.lookup_cons, hxn] using h
theorem comp_ok (c : CompOk X scope Nc js) (I : Inv X pins σ H s) (hf : ∀ b ∈ fp, FpOk X pins H b) (ho : ∀ b ∈ fp, ∃ o, s.heap.get? b = some o) : (X.comp scope s.heap.objs.size Nc s H fp).Ok := by
  have hs := c.has I
  have sub : ∀ x a, (clOf X.env scope.names []).lookup x = some a → X.env.cells.lookup x = some a := fun x a => clOf_sub _ _ x a hs (fun _ _ z => nomatch z)
  refine ⟨I.ok.mod, c.kind, I.ok.glob, I.ok.blt, Nat.le_refl _, fun x y a e1 e2 => I.ok.inj x y a (sub x a e1) (sub y a e2), fun x h => clOf_has _ _ x (relabel_kind (env := X.env) c.nocell h), (fun x a h => nomatch h), I.ok.hd, I.ok.frames, .inl rfl, fun b hb => ⟨?_, fun x a e => ?_⟩, I.bs,
    Nat.le_trans I.ok.bsz I.sz, fun b o e hb => ?_, fun b hb hb' => ?_, I.stack, I.stkFree⟩
  · obtain ⟨o, e⟩ := ho b hb
    exact Nat.ne_of_lt (Heap.lt_size e)
  · exact (hf b hb).2.2.2.2.1 x a (sub x a e)
  · rcases (hf b hb).2.2.2.1 with z | z
    · exact I.ok.noex b o e z
    · exact absurd (Nat.lt_of_lt_of_le (Heap.lt_size (I.ok.bs b o e).1) z) (Nat.lt_irrefl _)
  · rcases List.mem_cons.mp (I.stkSub b hb') with z | z
    · exact (hf b hb).2.1 z
    · exact (hf b hb).2.2.1 z
theorem comp_inv (c : CompOk X scope Nc js) (I : Inv X pins σ H s) (hf : ∀ b ∈ fp, FpOk X pins H b) (ho : ∀ b ∈ fp, ∃ o, s.heap.get? b = some o) {h' : Heap} {m : Str → Option Value} {tk : Nat} (hn : h'.Ns s.heap.objs.size m)
    (hk : ∀ b o, s.heap.get? b = some o → h'.get? b = some o) : Inv (X.comp scope s.heap.objs.size Nc s H fp) [] (compSt js σ) H { s with heap := h', toks := tk } := by
  have hs := c.has I
  have sub : ∀ x a, (clOf X.env scope.names []).lookup x = some a → X.env.cells.lookup x = some a := fun x a => clOf_sub _ _ x a hs (fun _ _ z => nomatch z)
  refine ⟨comp_ok c I hf ho, rfl, I.bare, Un.kept hk, ⟨m, hn, fun i x v e1 e2 e3 => ?_⟩, fun x a e => ?_, I.hok.fresh (Nat.le_refl _), fun x a e => I.freeC x a (sub x a e), (fun p hp => nomatch hp), I.hok.kept hk, by simp only [compSt, List.length_map]; exact c.len⟩
  · have e2' : (compSt js σ)[i]? = some (some v) := e2
    unfold compSt at e2'
    rw [List.getElem?_map] at e2'
    cases ej : js[i]? with
    | none => rw [ej] at e2'; cases e2'
    | some o =>
      rw [ej] at e2'
      cases o with
      | none => cases e2'
      | some j =>
        have e4 : (σ[j]?).getD none = some v := Option.some.inj e2'
        have e5 : σ[j]? = some (some v) := by
          cases q : σ[j]? with
          | none => rw [q] at e4; cases e4
          | some w => rw [q] at e4; exact congrArg some e4
        obtain ⟨n1, n2⟩ := c.see i j x ej e1
        have hkd := c.free _ n2 rfl
        obtain ⟨a, ha⟩ := clOf_has (env := X.env) scope.names [] x n2
        obtain ⟨m0, _, hl⟩ := I.loc
        obtain ⟨u, r, l⟩ := hl j x v n1 e5 (by
          rcases hkd with z | z
          · exact .inr (.inl z)
          · exact .inr (.inr z))
        refine ⟨u, r, ?_⟩
        rcases l with ⟨k, _⟩ | ⟨_, a', ha', hcell⟩
        · rcases hkd with z | z
          · rw [z] at k; cases k
          · rw [z] at k; cases k
        · have : a' = a := Option.some.inj (ha'.symm.trans (sub x a ha))
          subst this
          refine .inr ⟨?_, a', ha, ?_⟩
          · rcases e3 with z | z | z
            · exfalso
              have q : (relabel scope X.env).names.lookup x = some .local := z
              exact c.nol x n2 (relabel_loc q)
            · exact .inl z
            · exact .inr z
          · obtain ⟨o, q, d⟩ := hcell
            exact ⟨o, hk _ o q, d⟩
  · obtain ⟨v, o, q, d⟩ := I.cell x a (sub x a e)
    exact ⟨v, o, hk _ o q, d⟩
theorem comp_after (I : Inv X pins σ H s) (hf : ∀ b ∈ fp, FpOk X pins H b) {σ' : L2.St} {H' : Hp} {s' : Shared} {h'' : Heap} (J : Inv (X.comp scope s.heap.objs.size Nc s H fp) [] σ' H' s') (hs : Heap.SameBut s.heap.objs.size s'.heap h'') :
    Inv X pins σ H' { s' with heap := h'' } := by
  have ne : ∀ b o, s.heap.get? b = some o → b ≠ s.heap.objs.size := fun b o e => Nat.ne_of_lt (Heap.lt_size e)
  have u : Un (frs X.stack) fp H H' s.heap s'.heap := J.base
  refine I.call' (s' := { s' with heap := h'' }) (ch := fp) J.os ⟨fun b o e n hb hx => ?_, fun b o e n hb hx => ?_, u.free, fun b o e hx => ?_, u.tups, u.frzs, u.tbls⟩ (fun b o e => ?_) J.bare fun b hb => ?_
  · exact (hs.2 b (ne b o e)).trans (u.keep b o e n hb hx)
  · obtain ⟨sl, q⟩ := u.slot b o e n hb hx
    exact ⟨sl, (hs.2 b (ne b o e)).trans q⟩
  · obtain ⟨o', q⟩ := u.there b o e hx
    exact ⟨o', (hs.2 b (ne b o e)).trans q⟩
  · have hC : H' s.heap.objs.size = none := J.free
    refine (J.hok b o e).stay (fun d v hd q => (hs.2 d ?_).trans q) (fun _ q => q) fun _ _ q => q
    rintro rfl
    rcases hd with z | z
    · rw [← z, hC] at e; cases e
    · rw [hC] at z; cases z
  · obtain ⟨_, f1, _, f3, f4, f5⟩ := hf b hb
    exact ⟨f3, f1, f4, f5⟩
end
section
variable {X : Cx} {scope : Scope} {Nc : List Str} {js : List (Option Nat)} {elt tg iter : Expr} {pos : Pos} {wi : TI} {g : TG} {te : TE}
theorem comp_core (hc : X.calm = true) (c : CompOk X scope Nc js) (hi : PI X tg iter wi) (hg : ∀ C s3 H3 fp, PG (X.comp scope C Nc s3 H3 fp) tg g) (he : ∀ C s3 H3 fp, PE (X.comp scope C Nc s3 H3 fp) elt te)
    {pins : List (Addr × Obj)} {s : Shared} {σ : L2.St} {H : Hp} (I : Inv X pins σ H s) {RR : Value → Addr → Result → Shared → Prop} {NX : Addr → Hp → Prop}
    (h : wi σ H fun J H1 => ∀ D, H1 D = none → LoopR J g (tEmit D te) { nx := fun _ H' => NX D H', rt := fun _ _ => False } (compSt js σ) (upd H1 D (.lst [])))
    (fin : ∀ D H3 s3 fp σ5 H5 s6, Inv X pins σ H3 s3 → (∀ b ∈ fp, FpOk X pins H3 b) → Inv (X.comp scope s3.heap.objs.size Nc s3 H3 fp) [] σ5 H5 s6 → NX D H5 → RR (.ref D) s3.heap.objs.size (.ok .next) s6) :
    wpAny (model X.prog X.w) X.A (eval iter X.env) (fun x s₁ => wpAny (model X.prog X.w) X.A (pyIter x) (fun it s₂ => wpAny (model X.prog X.w) X.A (newList []) (fun acc s₃ =>
      wpAny (model X.prog X.w) X.A (newFunctionEnv scope X.env.globals (clOf X.env scope.names []) [] X.env.qual none .none (some X.env)) (fun cenv s₄ =>
        codeAny (model X.prog X.w) X.A (.compStart (.ListComp elt [⟨tg, iter, [], 0⟩] scope pos) 0 it acc { cenv with scope := relabel scope X.env }) (RR acc cenv.locals) s₄) X.xe s₃) X.xe s₂) X.xe s₁) X.xe s := by
  refine thn (hi pins s σ H _ I h) fun v s1 h1 => thn h1 fun itv s2 h2 => ?_
  obtain ⟨it, fp, tn, J, H2, rfl, I2, T, st2, f2, h2⟩ := h2
  -- the list
  refine wpAny_newObj_type ?_ (by show 0 ≤ sizeLine; decide)
  have hD : H2 s2.heap.objs.size = none := I2.hok.fresh (Nat.le_refl _)
  have I3 : Inv X pins σ (upd H2 s2.heap.objs.size (.lst [])) { s2 with heap := s2.heap.push { cls := .type "list", data := .seq ([] : List Value).toArray } } :=
    I2.laid (t' := s2.toks) (fun b u e => Heap.get?_push_of_some _ e) (Nat.le_refl _) ⟨by show 0 ≤ sizeLine; decide, [], 0, .nil, Heap.get?_push_size _ rfl⟩
  have f3 : ∀ b ∈ fp, FpOk X pins (upd H2 s2.heap.objs.size (.lst [])) b := fun b hb => by
    obtain ⟨q0, q⟩ := f2 b hb
    obtain ⟨o, e, _⟩ := T.obj _ _ st2 b hb
    exact ⟨by rw [upd_ne (Nat.ne_of_lt (Heap.lt_size e))]; exact q0, q⟩
  have o3 : ∀ b ∈ fp, ∃ o, (s2.heap.push { cls := .type "list", data := .seq ([] : List Value).toArray }).get? b = some o := fun b hb => by
    obtain ⟨o, e, _⟩ := T.obj _ _ st2 b hb
    exact ⟨o, Heap.get?_push_of_some _ e⟩
  have st3 : tn 0 (s2.heap.push { cls := .type "list", data := .seq ([] : List Value).toArray }) := T.keep _ _ _ st2 fun b _ o e => Heap.get?_push_of_some _ e
  generalize hh3 : s2.heap.push { cls := .type "list", data := .seq ([] : List Value).toArray } = h3 at I3 o3 st3 ⊢
  refine wpAny_newFunctionEnv c.nocell (by intro y hy; simp at hy) (fun h4 hn4 hs4 => ?_) c.kind
  have k4 : ∀ b o, h3.get? b = some o → h4.get? b = some o := fun b o e => (hs4.2 b (Nat.ne_of_lt (Heap.lt_size e))).trans (Heap.get?_push_of_some _ e)
  have I4 := comp_inv (tk := s2.toks + ([] : List (Str × Value)).length) c I3 f3 o3 hn4 k4
  have st4 : tn 0 h4 := T.keep _ _ _ st3 fun b _ o e => k4 b o e
  obtain ⟨W, ⟨m0, w0⟩, turn⟩ := h2 _ hD
  let s3 : Shared := { s2 with heap := h3 }
  let Y : Cx := X.comp scope h3.objs.size Nc s3 (upd H2 s2.heap.objs.size (.lst [])) fp
  have stat : ∀ {H' : Hp}, (∀ b ∈ fp, H' b = none) → ∀ b ∈ fp, FpOk Y [] H' b := fun hn b hb => ⟨hn b hb, (I4.ok.exf b hb).1, I4.ok.exfs b hb, .inl hb, (I4.ok.exf b hb).2, (fun p hp => nomatch hp)⟩
  have loop : codeAny (model X.prog X.w) X.A (.compLoop (.ListComp elt [⟨tg, iter, [], 0⟩] scope pos) 0 (.ref it) (.ref s2.heap.objs.size) Y.env)
      (RR (.ref s2.heap.objs.size) h3.objs.size) { s2 with heap := h4, toks := s2.toks + ([] : List (Str × Value)).length } := by
    refine codeAny_loop rfl (fun n s' => ∃ i σ' H', Inv Y [] σ' H' s' ∧ tn i s'.heap ∧ (∀ b ∈ fp, H' b = none) ∧ W i n σ' H') (fun n s5 hI => ?_) m0 ⟨0, _, _, I4, st4, fun b hb => (f3 b hb).1, w0⟩
    obtain ⟨i, σ5, H5, I5, st5, fr5, w5⟩ := hI
    show wpAny _ X.A ((compTurn (.ListComp elt [⟨tg, iter, [], 0⟩] scope pos) 0 (.ref it) (.ref s2.heap.objs.size) Y.env).onRaise (fun x => do noteFrame x Y.env; theTreesLotGoes x)) _ _ s5
    refine wpAny_noted (wpAny_mono (E := fun _ _ => False) ?_ (fun _ _ q => q) fun _ _ z => z.elim)
    rw [compTurn_list1]
    refine wpAny_bind (wpAny_standAt (wpAny_bind ?_))
    rcases turn i n σ5 H5 w5 with ⟨stop, qn⟩ | ⟨go, N, hN, step⟩
    · refine thn (T.done Y rfl rfl rfl hc i [] s5 σ5 H5 _ I5 (stat fr5) st5 stop) fun r s6 ⟨hr, I6⟩ => ?_
      subst hr
      refine wpAny_pure ?_
      exact fin _ _ s3 fp σ5 H5 s6 I3 f3 I6 qn
    · refine thn (T.item Y rfl rfl rfl hc i [] s5 σ5 H5 _ I5 (stat fr5) st5 go) fun r s6 ⟨u, hr, h6⟩ => ?_
      subst hr
      refine wpAny_bind (thn h6 fun _ s7 ⟨x, H7, I7, r7, y7, st7, fr7⟩ => ?_)
      have I7' := I7.pinned (stat fr7) (T.obj _ _ st7)
      refine wpAny_bind (thn (hg _ _ _ _ _ s7 σ5 H7 x u _ I7' r7 (step x H7 y7)) fun _ s8 ⟨σ8, H8, I8, q8⟩ => ?_)
      refine wpAny_bind (wpAny_bind (thn (he _ _ _ _ _ s8 σ8 H8 _ I8 q8) fun v s9 ⟨y, H9, I9, r9, ys, e9, z9, n9⟩ => ?_))
      refine wpAny_bind (thn (mt_append (X := Y) _ s9 σ8 H9 (.ref s2.heap.objs.size) [y] (.ref s2.heap.objs.size) [v] (fun w H' => N σ8 H') I9 rfl (.cons r9 .nil) ⟨_, ys, y, rfl, rfl, of_lstOf e9, z9, n9⟩) fun w s10 ⟨_, H10, I10, _, n10⟩ => ?_)
      refine wpAny_pure (wpAny_pure ⟨rfl, ?_⟩)
      obtain ⟨m', hm, w10⟩ := hN σ8 H10 n10
      refine ⟨m', hm, i + 1, σ8, H10, I10.unpinned, T.keep _ _ _ st7 fun b hb o e => (I10.pin (b, o) (List.mem_append_right _ (List.mem_append_right _ (mem_pinsAt hb e)))).1, fun b hb => ?_, w10⟩
      obtain ⟨o, e, d⟩ := T.obj _ _ st7 b hb
      exact (I10.pin (b, o) (List.mem_append_right _ (List.mem_append_right _ (mem_pinsAt hb e)))).2.1
  exact codeAny_compStart_list loop (T.self _ 0 _ _ _ st4 loop)
theorem pe_comp (hc : X.calm = true) (c : CompOk X scope Nc js) (hi : PI X tg iter wi) (hg : ∀ C s3 H3 fp, PG (X.comp scope C Nc s3 H3 fp) tg g) (he : ∀ C s3 H3 fp, PE (X.comp scope C Nc s3 H3 fp) elt te)
    (hs : ∀ x, foldedSetIterable iter X.env x = pure x := by intro _; rfl) : PE X (.ListComp elt [⟨tg, iter, [], 0⟩] scope pos) (tComp wi g js te) := by
  intro pins s σ H Q I h
  rw [eval_ListComp]
  refine wpAny_comprehension_free (use := none) (g := ⟨tg, iter, [], 0⟩) (gs := []) rfl hs (closure_of (c.has I)) c.kind c.loc
    (comp_core (RR := fun acc C => compPost (model X.prog X.w) X.A X.xe none (EP X pins σ Q) acc C) (NX := fun D H' => Q (.ref D) H') hc c hi hg he I h fun D H3 s3 fp σ5 H5 s6 I3 f3 I6 qn => ?_)
  obtain ⟨m, hn, _⟩ := I6.loc
  exact ⟨m, hn, fun h' hs' => ⟨.ref D, H5, comp_after I3 f3 I6 hs', rfl, qn⟩⟩
theorem ps_setc {i : Nat} {y : Str} {py spos : Pos} (hN : X.N.Nodup) (hiN : X.N[i]? = some y) (hy : Loc X.env.scope y) (hc : X.calm = true) (c : CompOk X scope Nc js) (hi : PI X tg iter wi) (hg : ∀ C s3 H3 fp, PG (X.comp scope C Nc s3 H3 fp) tg g)
    (he : ∀ C s3 H3 fp, PE (X.comp scope C Nc s3 H3 fp) elt te) (hsw : swapsWith (.ListComp elt [⟨tg, iter, [], 0⟩] scope pos) (some (.Name y py)) spos.line X.env = pure true := by rfl)
    (hs : ∀ x, foldedSetIterable iter X.env x = pure x := by intro _; rfl) (hf : X.fn y = true ∨ X.env.scope.names.lookup y = some .local := by first | exact .inl rfl | exact .inr rfl | assumption) :
    PS X (.Assign [.Name y py] (.ListComp elt [⟨tg, iter, [], 0⟩] scope pos) spos) (tAsg (tComp wi g js te) (gName i)) := by
  intro pins s σ H D I h
  rw [exec_Assign_Name_used _ _ _ _ hsw]
  refine wpAny_bind (wpAny_standAt (wpAny_bind ?_))
  show wpAny _ X.A (do let _ ← comprehension (.ListComp elt [⟨tg, iter, [], 0⟩] scope pos) scope X.env _ (newList []) false (eval iter X.env) (some (assign (.Name y py) X.env))) _ _ s
  refine wpAny_bind (wpAny_mono (wpAny_comprehension_free (use := some (assign (.Name y py) X.env)) (g := ⟨tg, iter, [], 0⟩) (gs := []) (Q := fun _ s' => SP X pins D .next s') rfl hs (closure_of (c.has I)) c.kind c.loc
    (comp_core (RR := fun acc C => compPost (model X.prog X.w) X.A X.xe (some (assign (.Name y py) X.env)) (fun _ s' => SP X pins D .next s') acc C) (NX := fun Da H' => D.nx (σ.set i (some (.ref Da))) H') hc c hi hg he I h fun Da H3 s3 fp σ5 H5 s6 I3 f3 I6 qn => ?_))
    (fun _ s' hq => wpAny_pure (wpAny_pure hq)) fun _ _ e => e)
  obtain ⟨m, hn, _⟩ := id I6.loc
  have I7 : Inv X pins σ H5 s6 := comp_after I3 f3 I6 (.refl ..)
  have hC : H5 s3.heap.objs.size = none := I6.free
  have nL : s3.heap.objs.size ≠ X.env.locals := Nat.ne_of_gt I3.lt
  have nc : ∀ x a, X.env.cells.lookup x = some a → a ≠ s3.heap.objs.size := fun x a e => by
    obtain ⟨v, q⟩ := I3.cell x a e
    exact Nat.ne_of_lt q.lt
  have np : ∀ p ∈ X.pn ++ pins, p.1 ≠ s3.heap.objs.size := fun p hp => Nat.ne_of_lt (Heap.lt_size (I3.pin p hp).1)
  show wpAny _ _ (assign (.Name y py) X.env (.ref Da)) _ _ _
  refine wpAny_assign_Name (store_ok2 (v := .ref Da) I7 hN hiN hy rfl (fun s8 I8 hb => ?_) hf)
  obtain ⟨a, hs8, ha⟩ := hb
  have nCa : s3.heap.objs.size ≠ a := by
    rcases ha with z | z
    · rw [z]; exact nL
    · exact (nc y a z).symm
  refine ⟨m, hn.sameBut hs8 nCa, fun h9 hs9 => ?_⟩
  exact ⟨_, H5, I8.turned (t' := s8.toks) (fun b o hb e => (hs9.2 b hb).trans e) hC nL (.inr (Nat.le_trans I3.sz (Nat.le_refl _))) nc np, qn⟩
end
end L2
set_option Elab.async false
set_option linter.all false
set_option maxRecDepth 100000
set_option maxHeartbeats 4000000
namespace L2
open PySem PySem.Spec PyProof.Rows
section
variable {X : Cx}
def rTupleU : List V → Hp → VK → Prop := fun xs H Q => match xs with
  | [.ref p] => (∃ ys, lstOf (H p) = some ys ∧ ∀ l, H l = none → Q (.ref l) (upd H l (.tup ys))) ∨ (∃ ys, tupOf (H p) = some ys ∧ Q (.ref p) H)
  | _ => False
theorem call_tupleU : CallR X (.type "tuple") rTupleU := by
  intro pins s σ H xs us Q I r h
  unfold rTupleU at h
  split at h
  · rename_i p
    rcases h with ⟨ys, e, h⟩ | ⟨ys, e, h⟩
    · exact call_tuple_of pins s σ H _ us Q I r ⟨p, ys, rfl, .inl ⟨SqL.of (of_lstOf e), h⟩⟩
    · exact call_tuple_of pins s σ H _ us Q I r ⟨p, ys, rfl, .inr ⟨SqT.of (of_tupOf e), h⟩⟩
  · exact h.elim
theorem rTupleU_lst {p : Addr} {H : Hp} {Q : VK} {ys : List V} (e : H p = some (.lst ys)) (h : ∀ l, H l = none → Q (.ref l) (upd H l (.tup ys))) : rTupleU [.ref p] H Q := .inl ⟨ys, by rw [e]; rfl, h⟩
def rMulW : R2 := fun x y H Q => match x, y with
  | .int i, .int j => CMul i j ∧ Q (.int (i * j)) H
  | .ref l, .int k => ∃ xs, lstOf (H l) = some xs ∧ 0 ≤ k ∧ k < 2 ^ 62 ∧ xs.length * k.toNat ≤ sizeLine ∧ ∀ p, H p = none → Q (.ref p) (upd H p (.lst (List.replicate k.toNat xs).flatten))
  | _, _ => False
theorem op_mulW : OpR X (binaryOp .Mult) rMulW := by
  intro pins s σ H x y v u Q I rx ry h
  cases x with
  | int i => cases y with
    | int j => exact op_mul pins s σ H _ _ v u Q I rx ry ⟨i, j, rfl, rfl, h⟩
    | _ => exact False.elim h
  | ref l => cases y with
    | int k =>
      obtain ⟨xs, e, k0, k1, h⟩ := h
      exact op_rep pins s σ H _ _ v u Q I rx ry ⟨l, k, xs, rfl, rfl, of_lstOf e, by omega, by omega, h⟩
    | _ => exact False.elim h
  | _ => exact False.elim h
theorem rMulW_int (H : Hp) (Q : VK) (i j : Int) : rMulW (.int i) (.int j) H Q = (CMul i j ∧ Q (.int (i * j)) H) := rfl
theorem rMulW_ref (H : Hp) (Q : VK) (l : Addr) (k : Int) : rMulW (.ref l) (.int k) H Q = (∃ xs, lstOf (H l) = some xs ∧ 0 ≤ k ∧ k < 2 ^ 62 ∧ xs.length * k.toNat ≤ sizeLine ∧ ∀ p, H p = none → Q (.ref p) (upd H p (.lst (List.replicate k.toNat xs).flatten))) := rfl
def isS (x : V) : Prop := match x with
  | .str _ => True
  | _ => False
def tBMS (r : V → List V → Hp → VK → Prop) (to : TE) (t : TA) : TE := fun σ H Q => to σ H fun x H1 => isS x ∧ t σ H1 fun xs H2 => r x xs H2 Q
theorem isS.ty {K : PySem.W.Frag} {x : V} {H : Hp} (h : isS x) : tyV K "str" x H := by
  unfold isS at h
  split at h
  · rfl
  · exact h.elim
theorem isS_str (z : Str) : isS (.str z) = True := rfl
theorem mono_c {v : V} : ∀ σ H Q Q', (∀ v H', Q v H' → Q' v H') → tC v σ H Q → tC v σ H Q' := fun _ _ _ _ h q => h _ _ q
variable {o e : Expr} {es : List Expr} {to : TE} {t : TA} {name : Str} {apos cpos : Pos} {id : String} {r : V → List V → Hp → VK → Prop}
theorem pe_bmS (slot : Slot "str" name id) (hty : typeOf (.builtin id) = pure (.type "method_descriptor")) (hm : MtM X id r) (ho : PE X o to) (ha : PA X (e :: es) t) (mono : ∀ σ H Q Q', (∀ v H', Q v H' → Q' v H') → to σ H Q → to σ H Q')
    (hbase : attributeBase o name X.env (eval o X.env) = eval o X.env := by rfl)
    (hfew : ((backTo cpos (starEach (e :: es) X.env)).all (fun x => !x.1) && (backToKw cpos (keywordEach [] X.env)).all (fun x => x.1.isSome)
      && decide ((e :: es).length + ([] : List Keyword).length + (if ([] : List Keyword).isEmpty then 0 else 1) < 30)) = true := by rfl)
    (hline : (apos.endLine == cpos.line) = true := by rfl) (hs : starEach (e :: es) X.env = (false, eval e X.env) :: starEach es X.env := by rfl) (hplain : (backTo cpos (starEach es X.env)).any (·.1) = false := by rfl) :
    PE X (.Call (.Attribute o name apos) (e :: es) [] cpos) (tBMS r to t) :=
  (pe_bm PySem.F.plainAttrs_str slot hty hm ho ha hbase hfew hline hs hplain).imp fun σ H Q h => mono σ H _ _ (fun v H' q => ⟨q.1.ty, q.2⟩) h
theorem strsAre_of : ∀ {ys : List Str} {us : List Value}, Vals (ys.map V.str) us → StrsAre us ys
  | [], us, r => by rw [List.map_nil] at r; cases r; exact .nil
  | y :: ys, us, r => by
    rw [List.map_cons] at r
    cases r with
    | cons r1 r2 =>
      obtain ⟨t, rfl⟩ := r1
      exact .cons y t (strsAre_of r2)
def rJoinU : V → List V → Hp → VK → Prop := fun x vs H Q => match x, vs with
  | .str z, [.ref p] => ∃ ys : List Str, H p = some (.lst (ys.map V.str)) ∧ (ys.map (·.length)).sum + ys.length * z.length ≤ 16777216 ∧ Q (.str (Txt.join z ys)) H
  | _, _ => False
theorem mt_joinU : MtM X "str.join" rJoinU := by
  intro pins s σ H x vs v us Q I rx rv h
  unfold rJoinU at h
  split at h
  · rename_i z p
    obtain ⟨ys, e, hz, q⟩ := h
    obtain ⟨t, rfl⟩ := rx
    obtain ⟨u, rfl, ru⟩ := rv.one
    cases ru
    obtain ⟨its, rr, pl, _⟩ := I.list (SqL.of e)
    exact join_list pl.isList (by simpa using strsAre_of rr) hz fun t' k => ⟨.str _, H, I.tok k, ⟨_, rfl⟩, q⟩
  · exact h.elim
def cutS (z : Str) (lo hi : Option Int) : Str := ⟨((z.cps.toList.drop (HT.sIx z.length 0 lo)).take (HT.sIx z.length z.length hi - HT.sIx z.length 0 lo)).toArray⟩
theorem strIx_eq (lo hi : Option Int) (n : Nat) : Builtin.Str.strSliceIndices lo hi 1 n = (List.range (HT.sIx n n hi - HT.sIx n 0 lo)).map (HT.sIx n 0 lo + ·) := by
  rw [← sliceRange_one]
  unfold Builtin.Str.strSliceIndices
  have e1 : (match lo with | none => (if (1 : Int) > 0 then (0 : Int) else (n : Int) - 1) | some i => let i := if i < 0 then i + (n : Int) else i; if (1 : Int) > 0 then max 0 (min i (n : Int)) else max (-1) (min i ((n : Int) - 1))) = ((HT.sIx n 0 lo : Nat) : Int) := by
    cases lo with
    | none => simp [HT.sIx]
    | some v =>
      simp only [show (1 : Int) > 0 by decide, if_true, HT.sIx]
      by_cases h : v < 0
      · simp only [h, if_true]; omega
      · simp only [h, if_false]; omega
  have e2 : (match hi with | none => (if (1 : Int) > 0 then (n : Int) else -1) | some i => let i := if i < 0 then i + (n : Int) else i; if (1 : Int) > 0 then max 0 (min i (n : Int)) else max (-1) (min i ((n : Int) - 1))) = ((HT.sIx n n hi : Nat) : Int) := by
    cases hi with
    | none => simp [HT.sIx]
    | some v =>
      simp only [show (1 : Int) > 0 by decide, if_true, HT.sIx]
      by_cases h : v < 0
      · simp only [h, if_true]; omega
      · simp only [h, if_false]; omega
  have key : ∀ a b a' b' : Int, a = a' → b = b' → sliceRange a b 1 = sliceRange a' b' 1 := by
    intro a b a' b' h1 h2
    rw [h1, h2]
  exact key _ _ _ _ e1 e2
theorem cutS_eq (z : Str) (lo hi : Option Int) : Txt.slice z lo hi = cutS z lo hi := by
  have e : (Builtin.Str.strSliceIndices lo hi 1 z.length).filterMap (z.cps[·]?) = (z.cps.toList.drop (HT.sIx z.length 0 lo)).take (HT.sIx z.length z.length hi - HT.sIx z.length 0 lo) := by
    rw [strIx_eq, pick_run]
  unfold Txt.slice cutS
  split
  · rename_i h
    have h2 : ((Builtin.Str.strSliceIndices lo hi 1 z.length).length == z.length) = true := by simpa using h
    have h3 : (Builtin.Str.strSliceIndices lo hi 1 z.length).length = z.length := eq_of_beq h2
    rw [strIx_eq, List.length_map, List.length_range] at h3
    have hl : z.cps.toList.length = z.length := by simp [Str.length]
    have q : ((z.cps.toList.drop (HT.sIx z.length 0 lo)).take (HT.sIx z.length z.length hi - HT.sIx z.length 0 lo)) = z.cps.toList := by
      have hb : HT.sIx z.length z.length hi ≤ z.length := by
        cases hi with
        | none => exact Nat.le_refl _
        | some v => simp only [HT.sIx]; split <;> omega
      by_cases h0 : z.length = 0
      · have : z.cps.toList = [] := List.length_eq_zero_iff.mp (by omega)
        rw [this]; simp
      · have ha : HT.sIx z.length 0 lo = 0 := by omega
        rw [h3, ha, List.drop_zero]
        exact List.take_of_length_le (by omega)
    rw [q]
  · rw [e]
def rSlS : V → Option Int → Option Int → Hp → VK → Prop := fun x lo hi H Q => ∃ z, x = .str z ∧ z.length ≤ sizeLine ∧ Q (.str (cutS z lo hi)) H
theorem sl_str : SlR X rSlS := by
  intro pins s σ H x v vl vu lo hi sl Q I rx hs pl pu h
  obtain ⟨z, rfl, hz, q⟩ := h
  obtain ⟨t, rfl⟩ := rx
  have gen : ∀ (l u : Option (Int × Tok)), vl = partValue l → vu = partValue u → lo = l.map (·.1) → hi = u.map (·.1) →
      wpAny (model X.prog X.w) X.A (getItem (.str z t) (.ref sl)) (EP X pins σ Q) X.xe s := by
    intro l u e1 e2 e3 e4
    subst e1 e2 e3 e4
    refine wpAny_getItem_str_slice (l := l) (u := u) (st := none) hs (by rfl) ?_
    have e : (if ((((none : Option (Int × Tok)).map (·.1)).getD 1 == 1 && (slicePicked z l u none).length == z.length) = true) then z else ⟨((slicePicked z l u none).filterMap (z.cps[·]?)).toArray⟩) = cutS z (l.map (·.1)) (u.map (·.1)) := by
      rw [← cutS_eq]; rfl
    refine post_val_or_str ⟨?_, fun t' c => ⟨.str (cutS z (l.map (·.1)) (u.map (·.1))), H, I.tok c, ⟨t', congrArg (Value.str · t') e⟩, q⟩⟩
    rw [e, ← cutS_eq]
    exact Nat.le_trans (Txt.slice_le _ _ _) hz
  refine ⟨"str", _, F.slot_str_getitem.lookup, typeIs_str _ _ _, ?_⟩
  cases pl with
  | none => cases pu with
    | none => exact gen none none rfl rfl rfl rfl
    | int j tj => exact gen none (some (j, tj)) rfl rfl rfl rfl
  | int i ti => cases pu with
    | none => exact gen (some (i, ti)) none rfl rfl rfl rfl
    | int j tj => exact gen (some (i, ti)) (some (j, tj)) rfl rfl rfl rfl
def compChk (sc : Scope) (N : List Str) (scope : Scope) (Nc : List Str) (js : List (Option Nat)) : Bool :=
  (scope.kind == .function) && scope.names.all (fun y => !(y.2 == .cell)) && scope.names.all (fun y => !(y.2 == .local) || scope.names.lookup y.1 == some .local) &&
  scope.names.all (fun y => !(y.2 == .free) || ((sc.names.lookup y.1 == some .cell || sc.names.lookup y.1 == some .free) && !(scope.names.lookup y.1 == some .local))) && (js.length == Nc.length) &&
  (List.range js.length).all (fun i => match js[i]? with
    | some (some j) => (N[j]? == Nc[i]?) && (match Nc[i]? with | some x => scope.names.any (fun y => y.1 == x && y.2 == .free) | none => true)
    | _ => true)
theorem compOk_of {sc scope : Scope} {N Nc : List Str} {js : List (Option Nat)} (hd : compChk sc N scope Nc js = true) (hsc : X.env.scope = sc := by rfl) (hN : X.N = N := by rfl) : CompOk X scope Nc js := by
  simp only [compChk, Bool.and_eq_true, List.all_eq_true, Bool.or_eq_true, Bool.not_eq_true', beq_iff_eq, List.mem_range] at hd
  obtain ⟨⟨⟨⟨⟨h1, h2⟩, h3⟩, h4⟩, h5⟩, h6⟩ := hd
  have kk : ∀ x, X.env.kindOf x = sc.names.lookup x := fun x => by rw [← hsc]; rfl
  refine ⟨h1, fun y hy e => ?_, fun y hy e => ?_, fun y hy e => ?_, h5, fun x hx => ?_, fun i j x e1 e2 => ?_⟩
  · have := h2 y hy
    rw [e] at this; cases this
  · rcases h3 y hy with q | q
    · rw [e] at q; cases q
    · exact q
  · rcases h4 y hy with q | q
    · rw [e] at q; cases q
    · rw [kk]
      exact q.1
  · rcases h4 _ hx with q | q
    · cases q
    · intro z
      have q2 := q.2
      rw [z] at q2
      cases q2
  · have hi : i < js.length := (List.getElem?_eq_some_iff.mp e1).1
    have q := h6 i hi
    rw [e1, e2] at q
    simp only [Bool.and_eq_true, beq_iff_eq, List.any_eq_true] at q
    refine ⟨by rw [hN]; exact q.1, ?_⟩
    obtain ⟨y, hy, hy1, hy2⟩ := q.2
    obtain ⟨a, b⟩ := y
    simp only at hy1 hy2
    subst hy1 hy2
    exact hy
end
end L2
set_option Elab.async false
set_option linter.all false
set_option maxRecDepth 100000
set_option maxHeartbeats 4000000
namespace L2
open PySem PySem.Spec PyProof.Rows
end L2
set_option Elab.async false
set_option linter.all false
set_option maxRecDepth 100000
set_option maxHeartbeats 4000000
namespace L2
open PySem PySem.Spec PyProof.Rows
section
variable {X : Cx}
def rAddW : R2 := fun x y H Q => match x, y with
  | .int i, .int j => Q (.int (i + j)) H
  | .str i, .str j => i.length + j.length ≤ sizeLine ∧ Q (.str (i ++ j)) H
  | .ref l, .ref b => (∃ xs zs, lstOf (H l) = some xs ∧ lstOf (H b) = some zs ∧ xs.length + zs.length ≤ sizeLine ∧ ∀ p, H p = none → Q (.ref p) (upd H p (.lst (xs ++ zs)))) ∨
      (∃ xs zs, tupOf (H l) = some xs ∧ tupOf (H b) = some zs ∧ xs ≠ [] ∧ zs ≠ [] ∧ xs.length + zs.length ≤ sizeLine ∧ ∀ p, H p = none → Q (.ref p) (upd H p (.tup (xs ++ zs))))
  | _, _ => False
theorem op_addW : OpR X (binaryOp .Add) rAddW := by
  intro pins s σ H x y v u Q I rx ry h
  cases x with
  | int i => cases y with
    | int j => exact op_add pins s σ H _ _ v u Q I rx ry ⟨i, j, rfl, rfl, h⟩
    | _ => exact False.elim h
  | str i => cases y with
    | str j => exact op_add_str pins s σ H _ _ v u Q I rx ry ⟨i, j, rfl, rfl, h⟩
    | _ => exact False.elim h
  | ref l => cases y with
    | ref b =>
      rcases h with ⟨xs, zs, e1, e2, h⟩ | ⟨xs, zs, e1, e2, n1, n2, hz, h⟩
      · exact op_cat pins s σ H _ _ v u Q I rx ry ⟨l, b, xs, zs, rfl, rfl, of_lstOf e1, of_lstOf e2, h⟩
      · exact op_catT pins s σ H _ _ v u Q I rx ry ⟨l, b, xs, zs, rfl, rfl, SqT.of (of_tupOf e1), SqT.of (of_tupOf e2), n1, hz, fun z => absurd z n2, fun _ => h⟩
    | _ => exact False.elim h
  | _ => exact False.elim h
theorem rAddW_int (H : Hp) (Q : VK) (i j : Int) : rAddW (.int i) (.int j) H Q = (Q (.int (i + j)) H) := rfl
theorem rAddW_str (H : Hp) (Q : VK) (i j : Str) : rAddW (.str i) (.str j) H Q = (i.length + j.length ≤ sizeLine ∧ Q (.str (i ++ j)) H) := rfl
end
end L2
set_option Elab.async false
set_option linter.all false
set_option maxRecDepth 100000
set_option maxHeartbeats 4000000
namespace L2
open PySem PySem.Spec PyProof.Rows
end L2
set_option Elab.async false
set_option linter.all false
set_option maxRecDepth 100000
set_option maxHeartbeats 4000000
namespace L2
open PySem PySem.Spec PyProof.Rows
section
variable {X : Cx}
def rSlU (K : PySem.W.Frag) : V → Option Int → Option Int → Hp → VK → Prop := fun x lo hi H Q => match x with
  | .str z => z.length ≤ sizeLine ∧ Q (.str (cutS z lo hi)) H
  | .ref a => (∃ xs, SqL K H a xs ∧ ∀ p, H p = none → Q (.ref p) (upd H p (.lst (cutV xs lo hi)))) ∨
      ∃ xs, SqT K H a xs ∧ ¬ (HT.sIx xs.length 0 lo = 0 ∧ HT.sIx xs.length xs.length hi = xs.length) ∧ ∀ p, H p = none → Q (.ref p) (upd H p (.tup (cutV xs lo hi)))
  | _ => False
theorem sl_U : SlR X (rSlU X.K) := by
  intro pins s σ H x v vl vu lo hi sl Q I rx hs pl pu h
  unfold rSlU at h
  split at h
  · rename_i z
    exact sl_str pins s σ H (.str z) v vl vu lo hi sl Q I rx hs pl pu ⟨z, rfl, h⟩
  · rename_i a
    rcases h with ⟨xs, hx, q⟩ | ⟨xs, hx, nw, q⟩
    · exact sl_list pins s σ H (.ref a) v vl vu lo hi sl Q I rx hs pl pu ⟨a, xs, rfl, hx, q⟩
    · exact sl_tup pins s σ H (.ref a) v vl vu lo hi sl Q I rx hs pl pu ⟨a, xs, rfl, hx, nw, q⟩
  · exact h.elim
theorem rSlU_str (K : PySem.W.Frag) (H : Hp) (Q : VK) (z : Str) (lo hi : Option Int) : rSlU K (.str z) lo hi H Q = (z.length ≤ sizeLine ∧ Q (.str (cutS z lo hi)) H) := rfl
end
end L2
set_option Elab.async false
set_option linter.all false
set_option maxRecDepth 100000
set_option maxHeartbeats 4000000
namespace L2
open PySem PySem.Spec PyProof.Rows
end L2
set_option Elab.async false
set_option linter.all false
set_option maxRecDepth 100000
set_option maxHeartbeats 4000000
namespace L2
open PySem PySem.Spec PyProof.Rows
theorem upd_D {H : Hp} {D : Addr} {a b : HO} : upd (upd H D a) D b = upd H D b := upd_upd
section
variable {D : Addr} {te : TE} {E : Ends} {r : L2.St} {H : Hp}
theorem comp_tup {K : PySem.W.Frag} {a : Addr} {xs : List V} (f : V → V) (ha : H a = some (.tup xs)) (hD : H D = none) (hz : xs.length ≤ sizeLine) (he : ∀ x ∈ xs, ∀ l Q, Q (f x) (upd H D (.lst l)) → te (some x :: r) (upd H D (.lst l)) Q)
    (hn : ∀ v, E.nx (v :: r) (upd H D (.lst (xs.map f)))) : LoopR (Itt K a) (gName 0) (tEmit D te) E (none :: r) (upd H D (.lst [])) := by
  have ne : a ≠ D := ne_of_none ha hD
  refine loop_tup (xs := xs) (fun i σ H' => ∃ v : Option V, σ = v :: r ∧ H' = upd H D (.lst ((xs.take i).map f))) ⟨none, rfl, rfl⟩ ?_ ?_ ?_
  · rintro i σ H' _ ⟨v, _, rfl⟩
    rw [upd_ne ne]; exact ha
  · rintro i x σ H' hx ⟨v, rfl, rfl⟩
    have hl : i < xs.length := (List.getElem?_eq_some_iff.mp hx).1
    refine he x (List.mem_of_getElem? hx) _ _ ⟨_, by rw [upd_same]; rfl, by simp; omega, some x, rfl, ?_⟩
    rw [upd_D, List.take_succ, hx]
    simp
  · rintro σ H' ⟨v, rfl, rfl⟩
    rw [List.take_of_length_le (Nat.le_refl _)]
    exact hn v
end
end L2
set_option Elab.async false
set_option linter.all false
set_option maxRecDepth 100000
set_option maxHeartbeats 4000000
set_option autoImplicit true
set_option relaxedAutoImplicit true
namespace L2
open PySem PySem.Spec PyProof.Rows
structure QE (X : Cx) (e : Expr) (t : TE) : Prop where
  h : PE X e t
structure QT (X : Cx) (e : Expr) (t : TT) : Prop where
  h : PT X e t
structure QW (X : Cx) (e : Expr) (t : TT) : Prop where
  h : PW X e t
structure QA (X : Cx) (es : List Expr) (t : TA) : Prop where
  h : PA X es t
structure QS (X : Cx) (st : Stmt) (t : TS) : Prop where
  h : PS X st t
structure QSs (X : Cx) (st : List Stmt) (t : TS) : Prop where
  h : PSs X st t
structure QG (X : Cx) (e : Expr) (t : TG) : Prop where
  h : PG X e t
structure QGs (X : Cx) (es : List Expr) (t : TGs) : Prop where
  h : PGs X es t
structure QI (X : Cx) (tg iter : Expr) (wi : TI) : Prop where
  h : PI X tg iter wi
structure QO (X : Cx) (e : Option Expr) (t : TO) : Prop where
  h : PO X e t
structure QC (X : Cx) (op : CmpOp) (a b : Expr) (t : TE) : Prop where
  h : PC X op a b t
theorem qpss_nil : QSs X [] tNext := ⟨pss_nil⟩
theorem qpss_one (h1 : QS X stm t) : QSs X [stm] t := ⟨pss_one h1.h⟩
theorem qpss_cons (h1 : QS X stm t) (h2 : QSs X rst u) : QSs X (stm :: rst) (tSeq t u) := ⟨pss_cons h1.h h2.h⟩
theorem qpv (i : Nat) {x : Str} {pos : Pos} (hN : X.N[i]? = some x := by rfl) (hv : Vis X.env.scope x := by first | exact Or.inl rfl | exact Or.inr (Or.inl rfl) | exact Or.inr (Or.inr rfl))
    (hd : (x == ("__debug__" : Str)) = false := by decide) (hcd : (x == ("__classdict__" : Str)) = false := by decide) : QE X (.Name x pos) (tVar i) := ⟨pv i hN hv hd hcd⟩
theorem qpe_int : QE X (.Constant (.int i) j pos) (tC (.int i)) := ⟨pe_int⟩
theorem qpe_bl : QE X (.Constant (.bool b) j pos) (tC (.bl b)) := ⟨pe_bl⟩
theorem qpe_str : QE X (.Constant (.str x) j pos) (tC (.str x)) := ⟨pe_str⟩
theorem qpe_glob {x : Str} {v : V} {u : Value} {pos : Pos} (hg : Gl X x) (hm : X.mg x = some u) (r : RelV v u) (hd : (x == ("__debug__" : Str)) = false := by decide) : QE X (.Name x pos) (tC v) := ⟨pe_glob hg hm r hd⟩
theorem qpe_bltn {x : Str} {v : V} {u : Value} {pos : Pos} (hg : Gl X x) (hm : X.mg x = none) (hv : bootBuiltins x = some u) (r : RelV v u) (hn : x ≠ "__name__" := by decide) (hd : (x == ("__debug__" : Str)) = false := by decide) :
    QE X (.Name x pos) (tC v) := ⟨pe_bltn hg hm hv r hn hd⟩
theorem qpe_op (ho : OpR X (binaryOp op) r) (ha : QE X a ta) (hb : QE X b tb) : QE X (.BinOp a op b pos) (tOp r ta tb) := ⟨pe_op ho ha.h hb.h⟩
theorem qpe_cmpR (ho : OpR X (compareOp op) r) (ha : QE X a ta) (hb : QE X b tb) (hm : behindInMarks op b = false) : QE X (.Compare a [op] [b] pos) (tOp r ta tb) := ⟨pe_cmpR ho ha.h hb.h hm⟩
theorem qpt_cmpR (ho : OpR X (compareOp op) r) (ha : QE X a ta) (hb : QE X b tb) (hm : behindInMarks op b = false) : QT X (.Compare a [op] [b] pos) (tTest (tOp r ta tb)) := ⟨pt_cmpR ho ha.h hb.h hm⟩
theorem qpt_cmp (h : QC X op a b t) (h1 : behindInMarks op b = false := by first | exact nobehind _ (by decide) (by decide) | rfl) : QT X (.Compare a [op] [b] pos) (tB t) := ⟨pt_cmp h.h h1⟩
theorem qpc_dnotin (hu : X.A.units + 1 < cLine) (hi : QE X i ty) (ho : QE X o td) : QC X .NotIn i o (tDNotIn ty td) := ⟨pc_dnotin hu hi.h ho.h⟩
theorem qpt_not (ha : QT X a tA) : QT X (.UnaryOp .Not a pos) (tNot tA) := ⟨pt_not ha.h⟩
theorem QW.pt (h : QW X e t) : QT X e t := ⟨PW.pt h.h⟩
theorem qpw_or (ha : QT X a tA) (hb : QW X (.BoolOp .Or (b :: rst) pos) tB') : QW X (.BoolOp .Or (a :: b :: rst) pos) (tOr tA tB') := ⟨pw_or ha.h hb.h⟩
theorem qpw_or1 (ha : QT X a tA) : QW X (.BoolOp .Or [a] pos) tA := ⟨pw_or1 ha.h⟩
theorem qpt_val {e : Expr} (h : QE X e t) (he : ∀ whole, isTrue e X.env whole = (do let v ← whole; standAt e.pos; holding [v] (truthy v)) := by intro _; rfl) : QT X e (tB t) := ⟨pt_val h.h he⟩
theorem qpe_one (h : QE X a t) : QE X (.BoolOp op [a] pos) t := ⟨pe_one h.h⟩
theorem qpe_and (ha : QE X a ta) (hb : QE X (.BoolOp .And (b :: rst) pos) tb) : QE X (.BoolOp .And (a :: b :: rst) pos) (tAndV ta tb) := ⟨pe_and ha.h hb.h⟩
theorem qpe_ifExp (hc : QT X c tA) (ha : QE X a ta) (hb : QE X b tb) : QE X (.IfExp c a b pos) (tIf tA ta tb) := ⟨pe_ifExp hc.h ha.h hb.h⟩
theorem qpe_lst (h : QA X es t) : QE X (.List es pos) (tLst t) := ⟨pe_lst h.h⟩
theorem qpe_tup (h : QA X es t) : QE X (.Tuple es x1 pos) (tTup t) := ⟨pe_tup h.h⟩
theorem qpe_rev {e : Expr} (he : QE X e te) (ht : ∀ o r, letTemporaryGo e o r = pure () := by intro _ _; with_unfolding_all rfl) :
    QE X (.Subscript e (.Slice none none (some (.UnaryOp .USub (.Constant (.int 1) k p1) p2)) p3) p4) (tRevS te) := ⟨pe_rev he.h ht⟩
theorem qpe_slice (hr : SlR X r) (he : QE X e te) (hl : QO X lw tl) (hu : QO X hi th) : QE X (.Subscript e (.Slice lw hi none p2) pos) (tSl r te tl th) := ⟨pe_slice hr he.h hl.h hu.h⟩
theorem qpo_none : QO X none tNoPart := ⟨po_none⟩
theorem qpo_some (h : QE X e te) : QO X (some e) (tPart te) := ⟨po_some h.h⟩
theorem qpe_ix (hr : IxR X r) (ha : QE X a ta) (hb : QE X b tb) (hs : PlainIx b) : QE X (.Subscript a b pos) (tOp r ta tb) := ⟨pe_ix hr ha.h hb.h hs⟩
theorem qpe_comp (hc : X.calm = true) (c : CompOk X scope Nc js) (hi : QI X tg iter wi) (hg : ∀ C s3 H3 fp, QG (X.comp scope C Nc s3 H3 fp) tg g) (he : ∀ C s3 H3 fp, QE (X.comp scope C Nc s3 H3 fp) elt te)
    (hs : ∀ x, foldedSetIterable iter X.env x = pure x := by intro _; rfl) : QE X (.ListComp elt [⟨tg, iter, [], 0⟩] scope pos) (tComp wi g js te) := ⟨pe_comp hc c hi.h (fun C s H f => (hg C s H f).h) (fun C s H f => (he C s H f).h) hs⟩
theorem qps_setc {i : Nat} {y : Str} {py spos : Pos} (hN : X.N.Nodup) (hiN : X.N[i]? = some y) (hy : Loc X.env.scope y) (hc : X.calm = true) (c : CompOk X scope Nc js) (hi : QI X tg iter wi) (hg : ∀ C s3 H3 fp, QG (X.comp scope C Nc s3 H3 fp) tg g)
    (he : ∀ C s3 H3 fp, QE (X.comp scope C Nc s3 H3 fp) elt te) (hsw : swapsWith (.ListComp elt [⟨tg, iter, [], 0⟩] scope pos) (some (.Name y py)) spos.line X.env = pure true := by rfl)
    (hs : ∀ x, foldedSetIterable iter X.env x = pure x := by intro _; rfl) (hf : X.fn y = true ∨ X.env.scope.names.lookup y = some .local := by first | exact .inl rfl | exact .inr rfl | assumption) :
    QS X (.Assign [.Name y py] (.ListComp elt [⟨tg, iter, [], 0⟩] scope pos) spos) (tAsg (tComp wi g js te) (gName i)) := ⟨ps_setc hN hiN hy hc c hi.h (fun C s H f => (hg C s H f).h) (fun C s H f => (he C s H f).h) hsw hs hf⟩
theorem qpe_call (F : FnOk X.prog X.w X.K X.mg X.base CX k f fd ps sp) (hr : Room k X.A) (hg : Gl X x) (hm : X.mg x = some (.ref f)) (hk : PySem.W.keepIn X.K (.ref f) = true) (hb : Binds X.K fd ps ds) (hd : Vals dvs ds) (hx : Passes CX X E)
    (ha : QA X (e :: es) t) (hdb : (x == ("__debug__" : Str)) = false := by decide) (he : starEach (e :: es) X.env = (false, eval e X.env) :: starEach es X.env := by rfl) (hpl : (backTo pos (starEach es X.env)).any (·.1) = false := by rfl) :
    QE X (.Call (.Name x p) (e :: es) [] pos) (tCall sp dvs E t) := ⟨pe_call F hr hg hm hk hb hd hx ha.h hdb he hpl⟩
theorem qpe_callTy (hc : CallR X (.type T) r) (hg : Gl X x) (hm : X.mg x = none) (hv : bootBuiltins x = some (.type T)) (ha : QA X (e :: es) t) (hn : x ≠ "__name__" := by decide) (hdb : (x == ("__debug__" : Str)) = false := by decide)
    (he : starEach (e :: es) X.env = (false, eval e X.env) :: starEach es X.env := by rfl) (hpl : (backTo pos (starEach es X.env)).any (·.1) = false := by rfl) : QE X (.Call (.Name x p) (e :: es) [] pos) (tCB r t) := ⟨pe_callTy hc hg hm hv ha.h hn hdb he hpl⟩
theorem qpe_callB (hc : CallR X (.builtin idn) r) (hg : Gl X x) (hm : X.mg x = none) (hv : bootBuiltins x = some (.builtin idn)) (ha : QA X (e :: es) t) (hn : x ≠ "__name__" := by decide) (hdb : (x == ("__debug__" : Str)) = false := by decide)
    (he : starEach (e :: es) X.env = (false, eval e X.env) :: starEach es X.env := by rfl) (hpl : (backTo pos (starEach es X.env)).any (·.1) = false := by rfl) : QE X (.Call (.Name x p) (e :: es) [] pos) (tCB r t) := ⟨pe_callB hc hg hm hv ha.h hn hdb he hpl⟩
theorem qpe_bmL (slot : Slot "list" name idn) (hty : typeOf (.builtin idn) = pure (.type "method_descriptor")) (hm : MtM X idn r) (ho : QE X o to) (ha : QA X (e :: es) t) (mono : ∀ σ H Q Q', (∀ v H', Q v H' → Q' v H') → to σ H Q → to σ H Q')
    (hbase : attributeBase o name X.env (eval o X.env) = eval o X.env := by rfl)
    (hfew : ((backTo cpos (starEach (e :: es) X.env)).all (fun x => !x.1) && (backToKw cpos (keywordEach [] X.env)).all (fun x => x.1.isSome)
      && decide ((e :: es).length + ([] : List Keyword).length + (if ([] : List Keyword).isEmpty then 0 else 1) < 30)) = true := by rfl)
    (hline : (apos.endLine == cpos.line) = true := by rfl) (hs : starEach (e :: es) X.env = (false, eval e X.env) :: starEach es X.env := by rfl) (hplain : (backTo cpos (starEach es X.env)).any (·.1) = false := by rfl) :
    QE X (.Call (.Attribute o name apos) (e :: es) [] cpos) (tBML r to t) := ⟨pe_bmL slot hty hm ho.h ha.h mono hbase hfew hline hs hplain⟩
theorem qpe_bmS (slot : Slot "str" name idn) (hty : typeOf (.builtin idn) = pure (.type "method_descriptor")) (hm : MtM X idn r) (ho : QE X o to) (ha : QA X (e :: es) t) (mono : ∀ σ H Q Q', (∀ v H', Q v H' → Q' v H') → to σ H Q → to σ H Q')
    (hbase : attributeBase o name X.env (eval o X.env) = eval o X.env := by rfl)
    (hfew : ((backTo cpos (starEach (e :: es) X.env)).all (fun x => !x.1) && (backToKw cpos (keywordEach [] X.env)).all (fun x => x.1.isSome)
      && decide ((e :: es).length + ([] : List Keyword).length + (if ([] : List Keyword).isEmpty then 0 else 1) < 30)) = true := by rfl)
    (hline : (apos.endLine == cpos.line) = true := by rfl) (hs : starEach (e :: es) X.env = (false, eval e X.env) :: starEach es X.env := by rfl) (hplain : (backTo cpos (starEach es X.env)).any (·.1) = false := by rfl) :
    QE X (.Call (.Attribute o name apos) (e :: es) [] cpos) (tBMS r to t) := ⟨pe_bmS slot hty hm ho.h ha.h mono hbase hfew hline hs hplain⟩
theorem qpa_nil : QA X [] tNil := ⟨pa_nil⟩
theorem qpa_cons (ha : QE X e te) (hr : QA X es t) (hs : starEach (e :: es) X.env = (false, eval e X.env) :: starEach es X.env := by rfl) : QA X (e :: es) (tCons te t) := ⟨pa_cons ha.h hr.h hs⟩
theorem qpg_name {i : Nat} {x : Str} (hN : X.N.Nodup) (hi : X.N[i]? = some x) (hx : Loc X.env.scope x) (hf : X.fn x = true ∨ X.env.scope.names.lookup x = some .local := by first | exact .inl rfl | exact .inr rfl | assumption) : QG X (.Name x pos) (gName i) := ⟨pg_name hN hi hx hf⟩
theorem qpg_tup {es : List Expr} {t : TGs} {n : Nat} {K : PySem.W.Frag} (hc : X.calm = true) (h : QGs X es t) (hK : X.K = K) (hn : (assignEach es X.env).length = n := by rfl) (hst : (assignEach es X.env).findIdx? (·.1) = none := by rfl) :
    QG X (.Tuple es k pos) (gTup K n t) := by subst hK; exact ⟨pg_tup hc h.h hn hst⟩
theorem qpgs_nil : QGs X [] gNil := ⟨pgs_nil⟩
theorem qpgs_cons {e : Expr} {es : List Expr} (h1 : QG X e t) (h2 : QGs X es u) (hs : (assignEach (e :: es) X.env).map (·.2) = assign e X.env :: (assignEach es X.env).map (·.2) := by rfl) : QGs X (e :: es) (gCons t u) := ⟨pgs_cons h1.h h2.h hs⟩
theorem qpg_sub {o i : Expr} (ho : QE X o to) (hi : QE X i ti) (hs : PSet X t)
    (ha : ∀ v, assign (.Subscript o i pos) X.env v = (do
      let ov ← holding [v] (eval o X.env)
      let iv ← holding [v, ov] (eval i X.env)
      standAt pos
      holding [v, ov, iv] (setItem ov iv v)
      release [v, ov, iv] []) := by intro _; rfl) : QG X (.Subscript o i pos) (gSub to ti t) := ⟨pg_sub ho.h hi.h hs ha⟩
theorem qps_set {i : Nat} {x : Str} {e : Expr} {te : TE} {pos' : Pos} (hN : X.N.Nodup) (hi : X.N[i]? = some x) (hx : Loc X.env.scope x) (he : QE X e te) (hs : swapsWith e (some (.Name x pos')) pos.line X.env = pure false := by rfl)
    (hf : X.fn x = true ∨ X.env.scope.names.lookup x = some .local := by first | exact .inl rfl | exact .inr rfl | assumption) : QS X (.Assign [.Name x pos'] e pos) (tAsg te (gName i)) := ⟨ps_set hN hi hx he.h hs hf⟩
theorem qps_asg {tg e : Expr} (he : QE X e te) (hg : QG X tg g) (hs : swapsWithSole [tg] e pos.line X.env = pure false := by rfl) (hw : swappedStores [tg] e X.env = pure none := by rfl)
    (h1 : (assignEach [tg] X.env).map (·.2) = [assign tg X.env] := by rfl) : QS X (.Assign [tg] e pos) (tAsg te g) := ⟨ps_asg he.h hg.h hs hw h1⟩
theorem qps_dput (hu : X.A.units + 1 < cLine) (ho : QE X o td) (hi : QE X i ty) (hv : QE X value tv) (hs : swapsWith value (some (.Subscript o i pos')) pos.line X.env = pure false) :
    QS X (.Assign [.Subscript o i pos'] value pos) (sDPut td ty tv) := ⟨ps_dput hu ho.h hi.h hv.h hs⟩
theorem qps_ret (he : QE X e te) : QS X (.Return (some e) pos) (tRet te) := ⟨ps_ret he.h⟩
theorem qps_expr (he : QE X e te) (hs : swapsWith e none pos.line X.env = pure false := by rfl) : QS X (.Expr e pos) (tDrop te) := ⟨ps_expr he.h hs⟩
theorem qps_if (hc : QT X c tc) (ha : QSs X a t) (hb : QSs X b u) : QS X (.If c a b pos) (tIfS tc t u) := ⟨ps_if hc.h ha.h hb.h⟩
theorem qps_for {iter : Expr} (hp : PassesOwn (model X.prog X.w) X.A X.env X.xe) (hc : X.calm = true) (hi : QI X tg iter wi) (hg : QG X tg g) (hb : QSs X body tb) (hs : ∀ x, foldedSetIterable iter X.env x = pure x := by intro _; rfl) :
    QS X (.For tg iter body [] pos) (tFor wi g tb) := ⟨ps_for hp hc hi.h hg.h hb.h hs⟩
theorem qpi_range1 {a : Expr} {ta : TA} {p pos : Pos} (hg : Gl X "range") (hm : X.mg "range" = none) (ha : QA X [a] ta) (hs : starEach [a] X.env = [(false, eval a X.env)] := by rfl) : QI X tg (.Call (.Name "range" p) [a] [] pos) (iRng1 ta) := ⟨pi_range1 hg hm ha.h hs⟩
theorem qpi_range2 {a b : Expr} {ta : TA} {p pos : Pos} (hg : Gl X "range") (hm : X.mg "range" = none) (ha : QA X [a, b] ta) (hs : starEach [a, b] X.env = [(false, eval a X.env), (false, eval b X.env)] := by rfl) (hs2 : starEach [b] X.env = [(false, eval b X.env)] := by rfl) :
    QI X tg (.Call (.Name "range" p) [a, b] [] pos) (iRng2 ta) := ⟨pi_range2 hg hm ha.h hs hs2⟩
theorem qpi_any {K : PySem.W.Frag} (hl : QE X l tl) (hK : X.K = K) : QI X tg l (iAny K tl) := by subst hK; exact ⟨pi_any hl.h⟩
end L2
set_option Elab.async false
set_option linter.all false
set_option maxRecDepth 100000
set_option maxHeartbeats 4000000
namespace L2
open PySem PySem.Spec PyProof.Rows
end L2
set_option Elab.async false
set_option linter.all false
set_option maxRecDepth 100000
set_option maxHeartbeats 4000000
namespace L2
open PySem PySem.Spec PyProof.Rows
end L2
set_option Elab.async false
set_option linter.all false
set_option maxRecDepth 100000
set_option maxHeartbeats 4000000
namespace L2
open PySem PySem.Spec PyProof.Rows
end L2
set_option Elab.async false
set_option linter.all false
set_option maxRecDepth 100000
set_option maxHeartbeats 4000000
namespace L2
open PySem PySem.Spec PyProof.Rows
def tMid (t u : TS) : TS := fun D σ H => ∃ J : L2.St → Hp → Prop, t { D with nx := J } σ H ∧ ∀ σ H, J σ H → u D σ H
theorem pss_mid {X : Cx} {st : Stmt} {rest : List Stmt} {t u : TS} (h1 : PS X st t) (h2 : PSs X rest u) : PSs X (st :: rest) (tMid t u) := by
  intro pins s σ H D I h
  obtain ⟨J, h, hJ⟩ := h
  refine wpAny_execs_cons (thn (h1 pins s σ H { D with nx := J } I h) fun f s1 q => ?_)
  cases f with
  | next =>
    obtain ⟨σ1, H1, I1, q1⟩ := q
    exact h2 pins s1 σ1 H1 D I1 (hJ _ _ q1)
  | ret v => exact q
  | brk => exact q
  | cont => exact q
theorem qpss_mid {X : Cx} {st : Stmt} {rest : List Stmt} {t u : TS} (h1 : QS X st t) (h2 : QSs X rest u) : QSs X (st :: rest) (tMid t u) := ⟨pss_mid h1.h h2.h⟩
section
variable {X : Cx}
theorem call_isinstanceK {K : PySem.W.Frag} (hK : X.K = K) : CallR X (.builtin "isinstance") (rIsU K) := by
  subst hK
  exact call_isinstanceU
end
end L2
set_option Elab.async false
set_option linter.all false
set_option maxRecDepth 100000
set_option maxHeartbeats 4000000
namespace L2
open PySem PySem.Spec PyProof.Rows
end L2
set_option Elab.async false
set_option linter.all false
set_option maxRecDepth 100000
set_option maxHeartbeats 4000000
namespace L2
open PySem PySem.Spec PyProof.Rows
end L2
set_option Elab.async false
set_option linter.all false
set_option maxRecDepth 100000
set_option maxHeartbeats 4000000
namespace L2
open PySem PySem.Spec PyProof.Rows
theorem sl_UK {X : Cx} {K : PySem.W.Frag} (hK : X.K = K) : SlR X (rSlU K) := by
  subst hK
  exact sl_U
end L2
namespace L2
open PySem PySem.Spec PyProof.Rows
end L2
set_option Elab.async false
set_option linter.all false
set_option maxRecDepth 100000
set_option maxHeartbeats 4000000
namespace L2
open PySem PySem.Spec PyProof.Rows
end L2
set_option Elab.async false
set_option linter.all false
set_option maxRecDepth 100000
set_option maxHeartbeats 4000000
namespace HT
open PySem PyProof.Rows
section
open PySem.SeqAt
open PySem.AutoSeq1 (wpAny_loadPart')
open PySem.MeetsSeq PySem.MeetsSeq2 PySem.MeetsSeq3
end
end HT
namespace L2
open PySem PySem.Spec PyProof.Rows
end L2
set_option Elab.async false
set_option linter.all false
set_option maxRecDepth 100000
set_option maxHeartbeats 4000000
namespace L2
open PySem PySem.Spec PyProof.Rows
end L2
set_option Elab.async false
set_option linter.all false
set_option maxRecDepth 100000
set_option maxHeartbeats 4000000
namespace L2
open PySem PySem.Spec PyProof.Rows
end L2
set_option Elab.async false
set_option linter.all false
set_option maxRecDepth 100000
set_option maxHeartbeats 4000000
namespace L2
open PySem PySem.Spec PyProof.Rows
open Builtin Builtin.ObjectAttr
end L2
set_option Elab.async false
set_option linter.all false
set_option maxRecDepth 100000
set_option maxHeartbeats 4000000
namespace L2
open PySem PySem.Spec PyProof.Rows
open Builtin Builtin.ObjectAttr
end L2
set_option Elab.async false
set_option linter.all false
set_option maxRecDepth 100000
set_option maxHeartbeats 4000000
namespace L2
open PySem PySem.Spec PyProof.Rows
end L2
set_option Elab.async false
set_option linter.all false
set_option maxRecDepth 100000
set_option maxHeartbeats 4000000
namespace L2
open PySem PySem.Spec PyProof.Rows
end L2
set_option Elab.async false
set_option linter.all false
set_option maxRecDepth 100000
set_option maxHeartbeats 4000000
namespace L2
open PySem PySem.Spec PyProof.Rows
open Builtin Builtin.ObjectAttr
end L2
set_option Elab.async false
set_option linter.all false
set_option maxRecDepth 100000
set_option maxHeartbeats 4000000
namespace L2
open PySem PySem.Spec PyProof.Rows
end L2
set_option Elab.async false
set_option linter.all false
set_option maxRecDepth 100000
set_option maxHeartbeats 4000000
namespace L2
open PySem PySem.Spec PyProof.Rows
end L2
set_option Elab.async false
set_option linter.all false
set_option maxRecDepth 100000
set_option maxHeartbeats 4000000
set_option autoImplicit true
set_option relaxedAutoImplicit true
namespace L2
open PySem PySem.Spec PyProof.Rows
end L2
set_option Elab.async false
set_option linter.all false
set_option maxRecDepth 100000
set_option maxHeartbeats 4000000
namespace HT
open PySem PyProof.Rows
section
open PySem.AutoSeq1 (wpAny_loadPart')
open PySem.MeetsSeq PySem.MeetsSeq2 PySem.MeetsSeq3
theorem tuple_add0 (l b : Addr) (items2 : Array Value) (n n2 : Nat) (dd dd2 : Option Addr) (sl sl2 : Array (Option Value)) :
    Meets (Builtin.«tuple.__add__» ⟨[.ref l, .ref b], []⟩)
      (fun _ R s => s.heap.get? l = some { cls := .type "tuple", dict := dd, data := .seq #[] n, slots := sl } ∧ s.heap.get? b = some { cls := .type "tuple", dict := dd2, data := .seq items2 n2, slots := sl2 } ∧ R (.ok (.ret (.ref b))) s) :=
  .of_wp fun prog w A R s h => by
    obtain ⟨hp, g, d, tk, os⟩ := s; obtain ⟨hl, hb, h⟩ := h
    have f2 := AutoSeq1.sub_tuple_tuple
    wp_walk using wpAny_loadPart' hl, wpAny_loadPart' hb
    exact ⟨_, rfl, h⟩
end
end HT
namespace L2
open PySem PySem.Spec PyProof.Rows
end L2
set_option Elab.async false
set_option linter.all false
set_option maxRecDepth 100000
set_option maxHeartbeats 4000000
set_option autoImplicit true
set_option relaxedAutoImplicit true
namespace L2
open PySem PySem.Spec PyProof.Rows
end L2
set_option Elab.async false
set_option linter.all false
set_option maxRecDepth 100000
set_option maxHeartbeats 4000000
namespace L2
open PySem PySem.Spec PyProof.Rows
end L2
set_option Elab.async false
set_option linter.all false
set_option maxRecDepth 100000
set_option maxHeartbeats 4000000
namespace L2
open PySem PySem.Spec PyProof.Rows
end L2
set_option Elab.async false
set_option linter.all false
set_option maxRecDepth 100000
set_option maxHeartbeats 4000000
namespace L2
open PySem PySem.Spec PyProof.Rows
end L2
set_option Elab.async false
set_option linter.all false
set_option maxRecDepth 100000
set_option maxHeartbeats 4000000
namespace L2
open PySem PySem.Spec PyProof.Rows
end L2
set_option Elab.async false
set_option linter.all false
set_option maxRecDepth 100000
set_option maxHeartbeats 4000000
namespace L2
open PySem PySem.Spec PyProof.Rows
end L2
set_option Elab.async false
set_option linter.all false
set_option maxRecDepth 100000
set_option maxHeartbeats 4000000
namespace L2
open PySem PySem.Spec PyProof.Rows
section
variable {X : Cx}
theorem tyV_str (K : PySem.W.Frag) (z : Str) (H : Hp) : tyV K "str" (.str z) H = True := by simp [tyV]
end
end L2
set_option Elab.async false
set_option linter.all false
set_option maxRecDepth 100000
set_option maxHeartbeats 4000000
namespace L2
open PySem PySem.Spec PyProof.Rows
section
variable {prog : Program} {w : World} {A : Around} {E : Value → Shared → Prop} {s : Shared}
open AutoSeq1 (wpAny_loadPart') in
end
end L2
set_option Elab.async false
set_option linter.all false
set_option maxRecDepth 100000
set_option maxHeartbeats 4000000
namespace L2
open PySem PySem.Spec PyProof.Rows
section
variable {X : Cx}
def rAddX : R2 := fun x y H Q => ∃ a b xs ys, x = .ref a ∧ y = .ref b ∧ H a = some (.tup xs) ∧ H b = some (.tup ys) ∧ xs.length + ys.length ≤ sizeLine ∧ ∀ p H', Kp [] H H' → H' p = some (.tup (xs ++ ys)) → Q (.ref p) H'
theorem op_addX : OpR X (binaryOp .Add) rAddX := by
  intro pins s σ H x y v u Q I rx ry h
  obtain ⟨a, b, xs, ys, rfl, rfl, ha, hb, hz, q⟩ := h
  by_cases hx : xs = []
  · subst hx
    cases rx
    cases ry
    obtain ⟨its, r1, p1, _⟩ := I.tuple (SqT.of ha)
    obtain ⟨its2, r2, p2, _⟩ := I.tuple (SqT.of hb)
    cases r1
    obtain ⟨⟨cls, dd, data, sl⟩, ho, hc, n, hd⟩ := id p1
    obtain ⟨⟨cls2, dd2, data2, sl2⟩, ho2, hc2, n2, hd2⟩ := id p2
    simp only at hc hd hc2 hd2
    subst hc hd hc2 hd2
    exact concat_meets ⟨_, ho, rfl⟩ ⟨_, ho2, rfl⟩ noFill_tuple_add seq_tuple_add PySem.F.slot_tuple_add PySem.F.entry_tuple_add (PySem.F.args_tuple_add_2 _ _)
      (HT.tuple_add0 a b its2.toArray n n2 dd dd2 sl sl2) ⟨ho, ho2, .ref b, H, I, rfl, q b H (Kp.refl _ _) (by simpa using hb)⟩
  · exact op_catT pins s σ H _ _ v u Q I rx ry ⟨a, b, xs, ys, rfl, rfl, SqT.of ha, SqT.of hb, hx, hz, fun e => q a H (Kp.refl _ _) (by rw [e, List.append_nil]; exact ha), fun e p hp => q p _ ((Kp.refl [] H).new hp) upd_same⟩
end
end L2
set_option Elab.async false
set_option linter.all false
set_option maxRecDepth 100000
set_option maxHeartbeats 4000000
namespace L2
open PySem PySem.Spec PyProof.Rows
end L2
set_option Elab.async false
set_option linter.all false
set_option maxRecDepth 100000
set_option maxHeartbeats 4000000
namespace L2
open PySem PySem.Spec PyProof.Rows
end L2
set_option Elab.async false
set_option linter.all false
set_option maxRecDepth 100000
set_option maxHeartbeats 4000000
namespace L2
open PySem PySem.Spec PyProof.Rows
end L2
set_option Elab.async false
set_option linter.all false
set_option maxRecDepth 100000
set_option maxHeartbeats 4000000
namespace L2
open PySem PySem.Spec PyProof.Rows
end L2
set_option Elab.async false
set_option linter.all false
set_option maxRecDepth 100000
set_option maxHeartbeats 4000000
namespace L2
open PySem PySem.Spec PyProof.Rows
end L2
set_option Elab.async false
set_option linter.all false
set_option maxRecDepth 100000
set_option maxHeartbeats 4000000
namespace L2
open PySem PySem.Spec PyProof.Rows
section
variable {X : Cx}
theorem qpe_dget {o i : Expr} {td ty : TE} {pos : Pos} (hu : X.A.units + 1 < cLine) (ho : QE X o td) (hi : QE X i ty) (hs : NoSl i) : QE X (.Subscript o i pos) (tDGet td ty) := ⟨pe_dget hu ho.h hi.h hs⟩
end
end L2
set_option Elab.async false
set_option linter.all false
set_option maxRecDepth 100000
set_option maxHeartbeats 4000000
namespace L2
open PySem PySem.Spec PyProof.Rows
theorem cf_look : ∀ (names : List (Str × NameKind)) (h : Heap) (acc : List (Str × Addr)) (x : Str) (c : Addr), (cellsFrom h.objs.size names acc).lookup x = some c →
    acc.lookup x = some c ∨ ((pushCells h names).IsCell c none ∧ h.objs.size ≤ c ∧ (x, NameKind.cell) ∈ names)
  | [], h, acc, x, c, e => .inl e
  | (n, k) :: r, h, acc, x, c, e => by
    unfold cellsFrom at e
    unfold pushCells
    by_cases hk : (k == NameKind.cell) = true
    · rw [if_pos hk] at e ⊢
      have hk' : k = .cell := by simpa using hk
      have hsz : (h.push { cls := .type "cell", data := .cell none }).objs.size = h.objs.size + 1 := Heap.size_push ..
      rw [← hsz] at e
      rcases cf_look r _ _ x c e with q | ⟨q1, q2, q3⟩
      · rw [List.lookup_cons] at q
        cases hx : x == n with
        | true =>
          rw [hx] at q
          have ex : x = n := by simpa using hx
          cases Option.some.inj q
          refine .inr ⟨⟨_, pushCells_keeps _ _ _ _ (Heap.get?_push_size _ rfl), rfl⟩, Nat.le_refl _, ?_⟩
          rw [ex, hk']
          exact List.mem_cons_self ..
        | false => rw [hx] at q; exact .inl q
      · exact .inr ⟨q1, by omega, List.mem_cons_of_mem _ q3⟩
    · rw [if_neg hk] at e ⊢
      rcases cf_look r h acc x c e with q | ⟨q1, q2, q3⟩
      · exact .inl q
      · exact .inr ⟨q1, q2, List.mem_cons_of_mem _ q3⟩
theorem cf_keep : ∀ (names : List (Str × NameKind)) (n : Nat) (acc : List (Str × Addr)) (x : Str), ((x, NameKind.cell) ∈ names ∨ ∃ c, acc.lookup x = some c) → ∃ c, (cellsFrom n names acc).lookup x = some c
  | [], n, acc, x, h => h.elim (fun q => nomatch q) id
  | (m, k) :: r, n, acc, x, h => by
    unfold cellsFrom
    by_cases hk : (k == NameKind.cell) = true
    · rw [if_pos hk]
      refine cf_keep r _ _ x ?_
      by_cases hx : x = m
      · subst hx
        exact .inr ⟨n, by simp [List.lookup_cons]⟩
      · rcases h with h | ⟨c, h⟩
        · rcases List.mem_cons.mp h with h | h
          · exact absurd (congrArg Prod.fst h) hx
          · exact .inl h
        · refine .inr ⟨c, ?_⟩
          rw [List.lookup_cons, show (x == m) = false by simpa using hx]
          exact h
    · rw [if_neg hk]
      refine cf_keep r n acc x ?_
      rcases h with h | h
      · rcases List.mem_cons.mp h with h | h
        · have : NameKind.cell = k := congrArg Prod.snd h
          rw [← this] at hk
          exact absurd rfl hk
        · exact .inl h
      · exact .inr h
theorem cf_above : ∀ (names : List (Str × NameKind)) (lo n : Nat) (acc : List (Str × Addr)) (x : Str) (c : Addr), lo ≤ n → ((x, NameKind.cell) ∈ names ∨ ∀ c0, acc.lookup x = some c0 → lo ≤ c0) → (cellsFrom n names acc).lookup x = some c → lo ≤ c
  | [], lo, n, acc, x, c, _, h, e => h.elim (fun q => nomatch q) fun q => q c e
  | (m, k) :: r, lo, n, acc, x, c, hl, h, e => by
    unfold cellsFrom at e
    by_cases hk : (k == NameKind.cell) = true
    · rw [if_pos hk] at e
      refine cf_above r lo (n + 1) _ x c (by omega) ?_ e
      by_cases hx : x = m
      · subst hx
        refine .inr fun c0 q => ?_
        simp [List.lookup_cons] at q
        rw [← q]
        exact hl
      · rcases h with h | h
        · rcases List.mem_cons.mp h with h | h
          · exact absurd (congrArg Prod.fst h) hx
          · exact .inl h
        · refine .inr fun c0 q => h c0 ?_
          rw [List.lookup_cons, show (x == m) = false by simpa using hx] at q
          exact q
    · rw [if_neg hk] at e
      refine cf_above r lo n acc x c hl ?_ e
      rcases h with h | h
      · rcases List.mem_cons.mp h with h | h
        · have : NameKind.cell = k := congrArg Prod.snd h
          rw [← this] at hk
          exact absurd rfl hk
        · exact .inl h
      · exact .inr h
theorem cf_inj : ∀ (names : List (Str × NameKind)) (n : Nat) (acc : List (Str × Addr)), (∀ x c, acc.lookup x = some c → c < n) → (∀ x y c, acc.lookup x = some c → acc.lookup y = some c → x = y) →
    ∀ x y c, (cellsFrom n names acc).lookup x = some c → (cellsFrom n names acc).lookup y = some c → x = y
  | [], _, _, _, hi => hi
  | (m, k) :: r, n, acc, hlt, hi => by
    unfold cellsFrom
    by_cases hk : (k == NameKind.cell) = true
    · rw [if_pos hk]
      refine cf_inj r (n + 1) _ (fun x c e => ?_) fun x y c e1 e2 => ?_
      · rw [List.lookup_cons] at e
        cases hx : x == m with
        | true => rw [hx] at e; cases Option.some.inj e; exact Nat.lt_succ_self _
        | false => rw [hx] at e; exact Nat.lt_succ_of_lt (hlt x c e)
      · rw [List.lookup_cons] at e1 e2
        cases hx : x == m with
        | true =>
          rw [hx] at e1
          cases Option.some.inj e1
          cases hy : y == m with
          | true => rw [show x = m by simpa using hx, show y = m by simpa using hy]
          | false => rw [hy] at e2; exact absurd (hlt y _ e2) (Nat.lt_irrefl _)
        | false =>
          rw [hx] at e1
          cases hy : y == m with
          | true => rw [hy] at e2; cases Option.some.inj e2; exact absurd (hlt x _ e1) (Nat.lt_irrefl _)
          | false => rw [hy] at e2; exact hi x y c e1 e2
    · rw [if_neg hk]
      exact cf_inj r n acc hlt hi
theorem newEnv_in {M : Model} {A : Around} {E : Value → Shared → Prop} {s : Shared} {scope : Scope} {globals : Addr} {cl : List (Str × Addr)} {qual : Str} {env : Env} {Q : Env → Shared → Prop}
    (h : Q (newEnv scope s.heap.objs.size globals (cellsFrom (s.heap.objs.size + 1) scope.names cl) qual none .none (some env) builtinsNs) { s with heap := pushCells (s.heap.push { cls := .type "dict", data := .dict #[] }) scope.names }) :
    wpAny M A (newFunctionEnv scope globals cl [] qual none .none (some env)) Q E s := by
  unfold newFunctionEnv
  refine wpAny_bind (wpAny_alloc ?_)
  refine wpAny_bind (wpAny_layCells _ (fun name kind cells => by cases hkc : kind == NameKind.cell <;> simp [hkc]) _ _ _ _ ?_)
  rw [show ({ s with heap := s.heap.push { cls := .type (if (some env).isSome then "dict" else "frame"), data := .dict #[] } } : Shared).heap.objs.size = s.heap.objs.size + 1 from Heap.size_push ..]
  refine wpAny_bind ?_
  rw [List.forIn_nil]
  exact wpAny_pure (wpAny_pure h)
end L2
set_option Elab.async false
set_option linter.all false
set_option maxRecDepth 100000
set_option maxHeartbeats 4000000
namespace L2
open PySem PySem.Spec PyProof.Rows
abbrev Cx.compC (X : Cx) (scope : Scope) (C : Addr) (Nc : List Str) (s3 : Shared) (H3 : Hp) (fp : List Addr) : Cx :=
  { X with N := Nc, s₀ := s3, H₀ := H3, env := compEnvC scope (cellsFrom (C + 1) scope.names (clOf X.env scope.names [])) C X.env, outer := X.stack, stack := X.stack, ex := fp, fn := fun x => scope.names.lookup x == some .cell, pn := [], xe := fun _ _ => False }
structure CompOkC (X : Cx) (scope : Scope) (Nc : List Str) (js : List (Option Nat)) : Prop where
  kind : scope.kind = .function
  loc : ∀ y ∈ scope.names, y.2 = .local → scope.names.lookup y.1 = some .local
  free : ∀ y ∈ scope.names, y.2 = .free → X.env.kindOf y.1 = some .cell ∨ X.env.kindOf y.1 = some .free
  len : js.length = Nc.length
  nol : ∀ x, (x, NameKind.free) ∈ scope.names → scope.names.lookup x ≠ some .local
  see : ∀ (i j : Nat) (x : Str), js[i]? = some (some j) → Nc[i]? = some x → X.N[j]? = some x ∧ (x, NameKind.free) ∈ scope.names
  noc : ∀ x, (x, NameKind.free) ∈ scope.names → (x, NameKind.cell) ∉ scope.names
section
variable {X : Cx} {pins : List (Addr × Obj)} {σ : L2.St} {H : Hp} {s : Shared} {scope : Scope} {Nc : List Str} {js : List (Option Nat)} {fp : List Addr}
theorem CompOkC.has (c : CompOkC X scope Nc js) (I : Inv X pins σ H s) : ∀ y ∈ scope.names, y.2 = .free → ∃ a, X.env.cells.lookup y.1 = some a := fun y hy hf => I.ok.has _ (c.free y hy hf)
theorem relabel_kindC {env : Env} {x : Str} : ∀ {l : List (Str × NameKind)},
    ((l.map fun (n, k) => if (k == NameKind.free && env.scope.kind == .function && env.kindOf n == some .cell) then (n, NameKind.cell) else (n, k)).lookup x = some .cell ∨
     (l.map fun (n, k) => if (k == NameKind.free && env.scope.kind == .function && env.kindOf n == some .cell) then (n, NameKind.cell) else (n, k)).lookup x = some .free) → (x, NameKind.free) ∈ l ∨ (x, NameKind.cell) ∈ l
  | [], h => by simp at h
  | (n, k) :: r, h => by
    rw [List.map_cons] at h
    by_cases hx : x = n
    · subst hx
      by_cases hcond : (k == NameKind.free && env.scope.kind == .function && env.kindOf x == some .cell) = true
      · rw [Bool.and_eq_true, Bool.and_eq_true] at hcond
        have hk : k = .free := by simpa using hcond.1.1
        subst hk
        exact .inl (List.mem_cons_self ..)
      · simp only [hcond, Bool.false_eq_true, if_false, List.lookup_cons, beq_self_eq_true] at h
        rcases h with h | h
        · cases Option.some.inj h
          exact .inr (List.mem_cons_self ..)
        · cases Option.some.inj h
          exact .inl (List.mem_cons_self ..)
    · have hxn : (x == n) = false := by simpa using hx
      have ih : (x, NameKind.free) ∈ r ∨ (x, NameKind.cell) ∈ r := by
        refine relabel_kindC (env := env) ?_
        by_cases hcond : (k == NameKind.free && env.scope.kind == .function && env.kindOf n == some .cell) = true
        · simpa only [hcond, if_true, List.lookup_cons, hxn] using h
        · simpa only [hcond, Bool.false_eq_true, if_false, List.lookup_cons, hxn] using h
      exact ih.imp (List.mem_cons_of_mem _) (List.mem_cons_of_mem _)
theorem CompOkC.sub (c : CompOkC X scope Nc js) (I : Inv X pins σ H s) (x : Str) (a : Addr) (e : (cellsFrom (s.heap.objs.size + 1) scope.names (clOf X.env scope.names [])).lookup x = some a) :
    (X.env.cells.lookup x = some a ∧ a < s.heap.objs.size) ∨ ((pushCells (s.heap.push { cls := .type "dict", data := .dict #[] }) scope.names).IsCell a none ∧ s.heap.objs.size + 1 ≤ a ∧ (x, NameKind.cell) ∈ scope.names) := by
  have hsz : (s.heap.push { cls := .type "dict", data := .dict #[] }).objs.size = s.heap.objs.size + 1 := Heap.size_push ..
  rw [← hsz] at e ⊢
  rcases cf_look _ _ _ x a e with q | q
  · have q' := clOf_sub scope.names [] x a (c.has I) (fun _ _ z => by simp at z) q
    obtain ⟨v, hc⟩ := I.cell x a q'
    exact .inl ⟨q', hc.lt⟩
  · exact .inr q
theorem comp_okC (c : CompOkC X scope Nc js) (I : Inv X pins σ H s) (hf : ∀ b ∈ fp, FpOk X pins H b) (ho : ∀ b ∈ fp, ∃ o, s.heap.get? b = some o) : (X.compC scope s.heap.objs.size Nc s H fp).Ok := by
  have hs := c.has I
  have sub0 : ∀ x a, (clOf X.env scope.names []).lookup x = some a → X.env.cells.lookup x = some a := fun x a => clOf_sub _ _ x a hs (fun _ _ z => nomatch z)
  refine ⟨I.ok.mod, c.kind, I.ok.glob, I.ok.blt, Nat.le_refl _, ?_, fun x h => ?_, fun x a h e => ?_, I.ok.hd, I.ok.frames, .inl rfl, fun b hb => ⟨?_, fun x a e => ?_⟩, I.bs,
    Nat.le_trans I.ok.bsz I.sz, fun b o e hb => ?_, fun b hb hb' => ?_, I.stack, I.stkFree⟩
  · refine cf_inj _ _ _ (fun x a e => ?_) fun x y a e1 e2 => I.ok.inj x y a (sub0 x a e1) (sub0 y a e2)
    obtain ⟨v, hc⟩ := I.cell x a (sub0 x a e)
    exact Nat.lt_succ_of_lt hc.lt
  · refine cf_keep _ _ _ x ?_
    rcases relabel_kindC (env := X.env) h with q | q
    · exact .inr (clOf_has _ _ x q)
    · exact .inl q
  · have hm : (x, NameKind.cell) ∈ scope.names := mem_of_lookup (by simpa using h)
    exact Nat.le_of_succ_le (cf_above _ (s.heap.objs.size + 1) _ _ x a (Nat.le_refl _) (.inl hm) e)
  · obtain ⟨o, e⟩ := ho b hb
    exact Nat.ne_of_lt (Heap.lt_size e)
  · rcases c.sub I x a e with ⟨q, _⟩ | ⟨_, q, _⟩
    · exact (hf b hb).2.2.2.2.1 x a q
    · obtain ⟨o, e'⟩ := ho b hb
      have := Heap.lt_size e'
      exact fun z => absurd (Nat.lt_of_lt_of_le (Nat.lt_of_lt_of_le this (Nat.le_succ _)) q) (by rw [z]; exact Nat.lt_irrefl _)
  · rcases (hf b hb).2.2.2.1 with z | z
    · exact I.ok.noex b o e z
    · exact absurd (Nat.lt_of_lt_of_le (Heap.lt_size (I.ok.bs b o e).1) z) (Nat.lt_irrefl _)
  · rcases List.mem_cons.mp (I.stkSub b hb') with z | z
    · exact (hf b hb).2.1 z
    · exact (hf b hb).2.2.1 z
theorem comp_invC (c : CompOkC X scope Nc js) (I : Inv X pins σ H s) (hf : ∀ b ∈ fp, FpOk X pins H b) (ho : ∀ b ∈ fp, ∃ o, s.heap.get? b = some o) :
    Inv (X.compC scope s.heap.objs.size Nc s H fp) [] (compSt js σ) H { s with heap := pushCells (s.heap.push { cls := .type "dict", data := .dict #[] }) scope.names } := by
  have hk : ∀ b o, s.heap.get? b = some o → (pushCells (s.heap.push { cls := .type "dict", data := .dict #[] }) scope.names).get? b = some o := fun b o e => pushCells_keeps _ _ b o (Heap.get?_push_of_some _ e)
  have hn := (Heap.Ns.new s.heap (.type "dict")).keeps (pushCells_keeps scope.names _)
  have hs := c.has I
  refine ⟨comp_okC c I hf ho, rfl, I.bare, Un.kept hk, ⟨_, hn, fun i x v e1 e2 e3 => ?_⟩, fun x a e => ?_, I.hok.fresh (Nat.le_refl _), fun x a e => ?_, (fun p hp => nomatch hp), I.hok.kept hk, by simp only [compSt, List.length_map]; exact c.len⟩
  · have e2' : (compSt js σ)[i]? = some (some v) := e2
    unfold compSt at e2'
    rw [List.getElem?_map] at e2'
    cases ej : js[i]? with
    | none => rw [ej] at e2'; cases e2'
    | some o =>
      rw [ej] at e2'
      cases o with
      | none => cases e2'
      | some j =>
        have e4 : (σ[j]?).getD none = some v := Option.some.inj e2'
        have e5 : σ[j]? = some (some v) := by
          cases q : σ[j]? with
          | none => rw [q] at e4; cases e4
          | some w => rw [q] at e4; exact congrArg some e4
        obtain ⟨n1, n2⟩ := c.see i j x ej e1
        have hkd := c.free _ n2 rfl
        obtain ⟨a, ha⟩ := cf_keep scope.names (s.heap.objs.size + 1) _ x (.inr (clOf_has (env := X.env) scope.names [] x n2))
        have hax : X.env.cells.lookup x = some a := by
          rcases c.sub I x a ha with ⟨q, _⟩ | ⟨_, _, q⟩
          · exact q
          · exact absurd q (c.noc x n2)
        obtain ⟨m0, _, hl⟩ := I.loc
        obtain ⟨u, r, l⟩ := hl j x v n1 e5 (by
          rcases hkd with z | z
          · exact .inr (.inl z)
          · exact .inr (.inr z))
        refine ⟨u, r, ?_⟩
        rcases l with ⟨k, _⟩ | ⟨_, a', ha', hcell⟩
        · rcases hkd with z | z
          · rw [z] at k; cases k
          · rw [z] at k; cases k
        · have : a' = a := Option.some.inj (ha'.symm.trans hax)
          subst this
          refine .inr ⟨?_, a', ha, ?_⟩
          · rcases e3 with z | z | z
            · exfalso
              have q : (relabel scope X.env).names.lookup x = some .local := z
              exact c.nol x n2 (relabel_loc q)
            · exact .inl z
            · exact .inr z
          · obtain ⟨o, q, d⟩ := hcell
            exact ⟨o, hk _ o q, d⟩
  · rcases c.sub I x a e with ⟨q, _⟩ | ⟨q, _, _⟩
    · obtain ⟨v, o, q, d⟩ := I.cell x a q
      exact ⟨v, o, hk _ o q, d⟩
    · exact ⟨none, q⟩
  · rcases c.sub I x a e with ⟨q, _⟩ | ⟨_, q, _⟩
    · exact I.freeC x a q
    · exact I.hok.fresh (Nat.le_of_succ_le q)
theorem comp_afterC (I : Inv X pins σ H s) (hf : ∀ b ∈ fp, FpOk X pins H b) {σ' : L2.St} {H' : Hp} {s' : Shared} {h'' : Heap} (J : Inv (X.compC scope s.heap.objs.size Nc s H fp) [] σ' H' s') (hs : Heap.SameBut s.heap.objs.size s'.heap h'') :
    Inv X pins σ H' { s' with heap := h'' } := by
  have ne : ∀ b o, s.heap.get? b = some o → b ≠ s.heap.objs.size := fun b o e => Nat.ne_of_lt (Heap.lt_size e)
  have u : Un (frs X.stack) fp H H' s.heap s'.heap := J.base
  refine I.call' (s' := { s' with heap := h'' }) (ch := fp) J.os ⟨fun b o e n hb hx => ?_, fun b o e n hb hx => ?_, u.free, fun b o e hx => ?_, u.tups, u.frzs, u.tbls⟩ (fun b o e => ?_) J.bare fun b hb => ?_
  · exact (hs.2 b (ne b o e)).trans (u.keep b o e n hb hx)
  · obtain ⟨sl, q⟩ := u.slot b o e n hb hx
    exact ⟨sl, (hs.2 b (ne b o e)).trans q⟩
  · obtain ⟨o', q⟩ := u.there b o e hx
    exact ⟨o', (hs.2 b (ne b o e)).trans q⟩
  · have hC : H' s.heap.objs.size = none := J.free
    refine (J.hok b o e).stay (fun d v hd q => (hs.2 d ?_).trans q) (fun _ q => q) fun _ _ q => q
    rintro rfl
    rcases hd with z | z
    · rw [← z, hC] at e; cases e
    · rw [hC] at z; cases z
  · obtain ⟨_, f1, _, f3, f4, f5⟩ := hf b hb
    exact ⟨f3, f1, f4, f5⟩
end
section
variable {X : Cx} {scope : Scope} {Nc : List Str} {js : List (Option Nat)} {elt tg iter : Expr} {pos : Pos} {wi : TI} {g : TG} {te : TE}
theorem comp_coreC (hc : X.calm = true) (c : CompOkC X scope Nc js) (hi : PI X tg iter wi) (hg : ∀ C s3 H3 fp, PG (X.compC scope C Nc s3 H3 fp) tg g) (he : ∀ C s3 H3 fp, PE (X.compC scope C Nc s3 H3 fp) elt te)
    {pins : List (Addr × Obj)} {s : Shared} {σ : L2.St} {H : Hp} (I : Inv X pins σ H s) {RR : Value → Addr → Result → Shared → Prop} {NX : Addr → Hp → Prop}
    (h : wi σ H fun J H1 => ∀ D, H1 D = none → LoopR J g (tEmit D te) { nx := fun _ H' => NX D H', rt := fun _ _ => False } (compSt js σ) (upd H1 D (.lst [])))
    (fin : ∀ D H3 s3 fp σ5 H5 s6, Inv X pins σ H3 s3 → (∀ b ∈ fp, FpOk X pins H3 b) → Inv (X.compC scope s3.heap.objs.size Nc s3 H3 fp) [] σ5 H5 s6 → NX D H5 → RR (.ref D) s3.heap.objs.size (.ok .next) s6) :
    wpAny (model X.prog X.w) X.A (eval iter X.env) (fun x s₁ => wpAny (model X.prog X.w) X.A (pyIter x) (fun it s₂ => wpAny (model X.prog X.w) X.A (newList []) (fun acc s₃ =>
      wpAny (model X.prog X.w) X.A (newFunctionEnv scope X.env.globals (clOf X.env scope.names []) [] X.env.qual none .none (some X.env)) (fun cenv s₄ =>
        codeAny (model X.prog X.w) X.A (.compStart (.ListComp elt [⟨tg, iter, [], 0⟩] scope pos) 0 it acc { cenv with scope := relabel scope X.env }) (RR acc cenv.locals) s₄) X.xe s₃) X.xe s₂) X.xe s₁) X.xe s := by
  refine thn (hi pins s σ H _ I h) fun v s1 h1 => thn h1 fun itv s2 h2 => ?_
  obtain ⟨it, fp, tn, J, H2, rfl, I2, T, st2, f2, h2⟩ := h2
  -- the list
  refine wpAny_newObj_type ?_ (by show 0 ≤ sizeLine; decide)
  have hD : H2 s2.heap.objs.size = none := I2.hok.fresh (Nat.le_refl _)
  have I3 : Inv X pins σ (upd H2 s2.heap.objs.size (.lst [])) { s2 with heap := s2.heap.push { cls := .type "list", data := .seq ([] : List Value).toArray } } :=
    I2.laid (t' := s2.toks) (fun b u e => Heap.get?_push_of_some _ e) (Nat.le_refl _) ⟨by show 0 ≤ sizeLine; decide, [], 0, .nil, Heap.get?_push_size _ rfl⟩
  have f3 : ∀ b ∈ fp, FpOk X pins (upd H2 s2.heap.objs.size (.lst [])) b := fun b hb => by
    obtain ⟨q0, q⟩ := f2 b hb
    obtain ⟨o, e, _⟩ := T.obj _ _ st2 b hb
    exact ⟨by rw [upd_ne (Nat.ne_of_lt (Heap.lt_size e))]; exact q0, q⟩
  have o3 : ∀ b ∈ fp, ∃ o, (s2.heap.push { cls := .type "list", data := .seq ([] : List Value).toArray }).get? b = some o := fun b hb => by
    obtain ⟨o, e, _⟩ := T.obj _ _ st2 b hb
    exact ⟨o, Heap.get?_push_of_some _ e⟩
  have st3 : tn 0 (s2.heap.push { cls := .type "list", data := .seq ([] : List Value).toArray }) := T.keep _ _ _ st2 fun b _ o e => Heap.get?_push_of_some _ e
  generalize hh3 : s2.heap.push { cls := .type "list", data := .seq ([] : List Value).toArray } = h3 at I3 o3 st3 ⊢
  refine newEnv_in ?_
  have k4 : ∀ b o, h3.get? b = some o → (pushCells (h3.push { cls := .type "dict", data := .dict #[] }) scope.names).get? b = some o := fun b o e => pushCells_keeps _ _ b o (Heap.get?_push_of_some _ e)
  have I4 := comp_invC c I3 f3 o3
  generalize hh4 : pushCells (h3.push { cls := .type "dict", data := .dict #[] }) scope.names = h4 at I4 k4
  have st4 : tn 0 h4 := T.keep _ _ _ st3 fun b _ o e => k4 b o e
  obtain ⟨W, ⟨m0, w0⟩, turn⟩ := h2 _ hD
  let s3 : Shared := { s2 with heap := h3 }
  let Y : Cx := X.compC scope h3.objs.size Nc s3 (upd H2 s2.heap.objs.size (.lst [])) fp
  have stat : ∀ {H' : Hp}, (∀ b ∈ fp, H' b = none) → ∀ b ∈ fp, FpOk Y [] H' b := fun hn b hb => ⟨hn b hb, (I4.ok.exf b hb).1, I4.ok.exfs b hb, .inl hb, (I4.ok.exf b hb).2, (fun p hp => nomatch hp)⟩
  have loop : codeAny (model X.prog X.w) X.A (.compLoop (.ListComp elt [⟨tg, iter, [], 0⟩] scope pos) 0 (.ref it) (.ref s2.heap.objs.size) Y.env)
      (RR (.ref s2.heap.objs.size) h3.objs.size) { s2 with heap := h4 } := by
    refine codeAny_loop rfl (fun n s' => ∃ i σ' H', Inv Y [] σ' H' s' ∧ tn i s'.heap ∧ (∀ b ∈ fp, H' b = none) ∧ W i n σ' H') (fun n s5 hI => ?_) m0 ⟨0, _, _, I4, st4, fun b hb => (f3 b hb).1, w0⟩
    obtain ⟨i, σ5, H5, I5, st5, fr5, w5⟩ := hI
    show wpAny _ X.A ((compTurn (.ListComp elt [⟨tg, iter, [], 0⟩] scope pos) 0 (.ref it) (.ref s2.heap.objs.size) Y.env).onRaise (fun x => do noteFrame x Y.env; theTreesLotGoes x)) _ _ s5
    refine wpAny_noted (wpAny_mono (E := fun _ _ => False) ?_ (fun _ _ q => q) fun _ _ z => z.elim)
    rw [compTurn_list1]
    refine wpAny_bind (wpAny_standAt (wpAny_bind ?_))
    rcases turn i n σ5 H5 w5 with ⟨stop, qn⟩ | ⟨go, N, hN, step⟩
    · refine thn (T.done Y rfl rfl rfl hc i [] s5 σ5 H5 _ I5 (stat fr5) st5 stop) fun r s6 ⟨hr, I6⟩ => ?_
      subst hr
      refine wpAny_pure ?_
      exact fin _ _ s3 fp σ5 H5 s6 I3 f3 I6 qn
    · refine thn (T.item Y rfl rfl rfl hc i [] s5 σ5 H5 _ I5 (stat fr5) st5 go) fun r s6 ⟨u, hr, h6⟩ => ?_
      subst hr
      refine wpAny_bind (thn h6 fun _ s7 ⟨x, H7, I7, r7, y7, st7, fr7⟩ => ?_)
      have I7' := I7.pinned (stat fr7) (T.obj _ _ st7)
      refine wpAny_bind (thn (hg _ _ _ _ _ s7 σ5 H7 x u _ I7' r7 (step x H7 y7)) fun _ s8 ⟨σ8, H8, I8, q8⟩ => ?_)
      refine wpAny_bind (wpAny_bind (thn (he _ _ _ _ _ s8 σ8 H8 _ I8 q8) fun v s9 ⟨y, H9, I9, r9, ys, e9, z9, n9⟩ => ?_))
      refine wpAny_bind (thn (mt_append (X := Y) _ s9 σ8 H9 (.ref s2.heap.objs.size) [y] (.ref s2.heap.objs.size) [v] (fun w H' => N σ8 H') I9 rfl (.cons r9 .nil) ⟨_, ys, y, rfl, rfl, of_lstOf e9, z9, n9⟩) fun w s10 ⟨_, H10, I10, _, n10⟩ => ?_)
      refine wpAny_pure (wpAny_pure ⟨rfl, ?_⟩)
      obtain ⟨m', hm, w10⟩ := hN σ8 H10 n10
      refine ⟨m', hm, i + 1, σ8, H10, I10.unpinned, T.keep _ _ _ st7 fun b hb o e => (I10.pin (b, o) (List.mem_append_right _ (List.mem_append_right _ (mem_pinsAt hb e)))).1, fun b hb => ?_, w10⟩
      obtain ⟨o, e, d⟩ := T.obj _ _ st7 b hb
      exact (I10.pin (b, o) (List.mem_append_right _ (List.mem_append_right _ (mem_pinsAt hb e)))).2.1
  exact codeAny_compStart_list loop (T.self _ 0 _ _ _ st4 loop)
theorem pe_compC (hc : X.calm = true) (c : CompOkC X scope Nc js) (hi : PI X tg iter wi) (hg : ∀ C s3 H3 fp, PG (X.compC scope C Nc s3 H3 fp) tg g) (he : ∀ C s3 H3 fp, PE (X.compC scope C Nc s3 H3 fp) elt te)
    (hs : ∀ x, foldedSetIterable iter X.env x = pure x := by intro _; rfl) : PE X (.ListComp elt [⟨tg, iter, [], 0⟩] scope pos) (tComp wi g js te) := by
  intro pins s σ H Q I h
  rw [eval_ListComp]
  refine wpAny_comprehension_free (use := none) (g := ⟨tg, iter, [], 0⟩) (gs := []) rfl hs (closure_of (c.has I)) c.kind c.loc
    (comp_coreC (RR := fun acc C => compPost (model X.prog X.w) X.A X.xe none (EP X pins σ Q) acc C) (NX := fun D H' => Q (.ref D) H') hc c hi hg he I h fun D H3 s3 fp σ5 H5 s6 I3 f3 I6 qn => ?_)
  obtain ⟨m, hn, _⟩ := I6.loc
  exact ⟨m, hn, fun h' hs' => ⟨.ref D, H5, comp_afterC I3 f3 I6 hs', rfl, qn⟩⟩
end
end L2
set_option Elab.async false
set_option linter.all false
set_option maxRecDepth 100000
set_option maxHeartbeats 4000000
namespace L2
open PySem PySem.Spec PyProof.Rows
section
variable {X : Cx} {scope : Scope} {Nc : List Str} {js : List (Option Nat)} {elt tg iter : Expr} {pos : Pos} {wi : TI} {g : TG} {te : TE}
theorem qpe_compC (hc : X.calm = true) (c : CompOkC X scope Nc js) (hi : QI X tg iter wi) (hg : ∀ C s3 H3 fp, QG (X.compC scope C Nc s3 H3 fp) tg g) (he : ∀ C s3 H3 fp, QE (X.compC scope C Nc s3 H3 fp) elt te)
    (hs : ∀ x, foldedSetIterable iter X.env x = pure x := by intro _; rfl) : QE X (.ListComp elt [⟨tg, iter, [], 0⟩] scope pos) (tComp wi g js te) := ⟨pe_compC hc c hi.h (fun C s H f => (hg C s H f).h) (fun C s H f => (he C s H f).h) hs⟩
def compChkC (sc : Scope) (N : List Str) (scope : Scope) (Nc : List Str) (js : List (Option Nat)) : Bool :=
  (scope.kind == .function) && scope.names.all (fun y => !(y.2 == .local) || scope.names.lookup y.1 == some .local) &&
  scope.names.all (fun y => !(y.2 == .free) || ((sc.names.lookup y.1 == some .cell || sc.names.lookup y.1 == some .free) && !(scope.names.lookup y.1 == some .local) && !(scope.names.any fun z => z.1 == y.1 && z.2 == .cell))) && (js.length == Nc.length) &&
  (List.range js.length).all (fun i => match js[i]? with
    | some (some j) => (N[j]? == Nc[i]?) && (match Nc[i]? with | some x => scope.names.any (fun y => y.1 == x && y.2 == .free) | none => true)
    | _ => true)
theorem compOkC_of {sc scope : Scope} {N Nc : List Str} {js : List (Option Nat)} (hd : compChkC sc N scope Nc js = true) (hsc : X.env.scope = sc := by rfl) (hN : X.N = N := by rfl) : CompOkC X scope Nc js := by
  simp only [compChkC, Bool.and_eq_true, List.all_eq_true, Bool.or_eq_true, Bool.not_eq_true', beq_iff_eq, List.mem_range] at hd
  obtain ⟨⟨⟨⟨h1, h3⟩, h4⟩, h5⟩, h6⟩ := hd
  have kk : ∀ x, X.env.kindOf x = sc.names.lookup x := fun x => by rw [← hsc]; rfl
  refine ⟨h1, fun y hy e => ?_, fun y hy e => ?_, h5, fun x hx => ?_, fun i j x e1 e2 => ?_, fun x hx => ?_⟩
  · rcases h3 y hy with q | q
    · rw [e] at q; cases q
    · exact q
  · rcases h4 y hy with q | q
    · rw [e] at q; cases q
    · rw [kk]
      exact q.1.1
  · rcases h4 _ hx with q | q
    · cases q
    · intro z
      have q2 := q.1.2
      rw [z] at q2
      cases q2
  · have hi : i < js.length := (List.getElem?_eq_some_iff.mp e1).1
    have q := h6 i hi
    rw [e1, e2] at q
    simp only [Bool.and_eq_true, beq_iff_eq, List.any_eq_true] at q
    refine ⟨by rw [hN]; exact q.1, ?_⟩
    obtain ⟨y, hy, hy1, hy2⟩ := q.2
    obtain ⟨a, b⟩ := y
    simp only at hy1 hy2
    subst hy1 hy2
    exact hy
  · rcases h4 _ hx with q | q
    · cases q
    · intro z
      have q2 := q.2
      rw [List.any_eq_false] at q2
      exact q2 _ z (by simp)
def relabel0 (scope sc : Scope) : Scope := { scope with names := scope.names.map fun (n, k) => if (k == .free && sc.kind == .function && sc.names.lookup n == some .cell) then (n, .cell) else (n, k) }
end
end L2
set_option Elab.async false
set_option linter.all false
set_option maxRecDepth 100000
set_option maxHeartbeats 4000000
namespace L2
open PySem PySem.Spec PyProof.Rows
end L2
set_option Elab.async false
set_option linter.all false
set_option maxRecDepth 100000
set_option maxHeartbeats 4000000
namespace L2
open PySem PySem.Spec PyProof.Rows
def setO (L : Bool) : Obj := { cls := .type "set", dict := none, data := .set #[] 0 (.fresh 0 0 L) }
section
variable {prog : Program} {w : World} {A : Around} {E : Value → Shared → Prop} {s : Shared}
theorem set_newL (a : Value) {Q₁ : Value → Shared → Prop} (h : Q₁ (.ref s.heap.objs.size) { s with heap := s.heap.push (setO (!w.params.followText "set-order")) }) :
    codeAny (model prog w) A (.call (.builtin "set.__new__") ⟨[.type "set", a], []⟩) (wants Q₁ E) s := by
  have hsub := sub_set_self
  refine codeAny_of_tree (show wpAny _ A.in1 (do checkBuiltinCall "set.__new__" ⟨[.type "set", a], []⟩; again (.builtin "set.__new__" ⟨[.type "set", a], []⟩)) _ _ s from ?_)
  refine wpAny_bind (wpAny_of_eq (PySem.F.newCall_set_1 a) (wpAny_pure ⟨plainId_quiet PySem.F.plain_set_new _, codeAny_builtin PySem.F.entry_set_new ?_⟩))
  rw [Around.under_plainId PySem.F.plain_set_new _, Builtin.«set.__new__», Builtin.Frozenset.newClass]
  obtain ⟨hp, g, d, tk, os⟩ := s
  dsimp only
  wp_walk
  refine wpAny_askSetting (wpAny_pure ?_)
  show wpAny _ _ (newObj (.type "set") (.set #[] 0 (.fresh 0 0 (!w.params.followText "set-order")))) _ _ _
  unfold newObj
  exact wpAny_bind (wpAny_alloc (wpAny_pure (wpAny_pure h)))
end
end L2
set_option Elab.async false
set_option linter.all false
set_option maxRecDepth 100000
set_option maxHeartbeats 4000000
namespace L2
open PySem PySem.Spec PyProof.Rows
theorem sit_next : Slot "set_iterator" "__next__" "set_iterator.__next__" := .of (owner := "set_iterator") (n := "__next__") (by rw [typeLookup_type, builtinLookup_eq_fast]; kernel_rfl) (by decide +kernel) (by decide +kernel) (by decide +kernel) (.inl (by decide +kernel)) (by rw [isSubtype_type]; kernel_rfl)
theorem sit_iter : Slot "set_iterator" "__iter__" "set_iterator.__iter__" := .of (owner := "set_iterator") (n := "__iter__") (by rw [typeLookup_type, builtinLookup_eq_fast]; kernel_rfl) (by decide +kernel) (by decide +kernel) (by decide +kernel) (.inl (by decide +kernel)) (by rw [isSubtype_type]; kernel_rfl)
theorem sit_entry : entryFor table "set_iterator.__next__" = some Builtin.«set_iterator.__next__» := entryFor_of_tree (by kernel_rfl)
theorem sit_args (a : Value) : argsOk "set_iterator.__next__" ⟨[a], []⟩ := by unfold argsOk; kernel_rfl
theorem sit_argsI (a : Value) : argsOk "set_iterator.__iter__" ⟨[a], []⟩ := by unfold argsOk; kernel_rfl
theorem set_iter_entry : entryFor table "set.__iter__" = some Builtin.«frozenset.__iter__» := entryFor_alias (id' := "frozenset.__iter__") (by kernel_rfl) rfl (by decide +kernel) (by kernel_rfl)
theorem sit_entryI : entryFor table "set_iterator.__iter__" = some Builtin.«dict_keyiterator.__iter__» := entryFor_alias (id' := "dict_keyiterator.__iter__") (by kernel_rfl) rfl (by decide +kernel) (by kernel_rfl)
def SIt (h : Heap) (I : Addr) (f : Value) (i : Nat) (a : Addr) (n ep : Nat) : Prop := ∃ o, h.get? I = some o ∧ o.cls = .type "set_iterator" ∧ o.data = .fields #[f, .int i 0, .ref a, .int n 0, .int ep 0]
theorem SIt.ty {s : Shared} {I : Addr} {f : Value} {i : Nat} {a : Addr} {n ep : Nat} (x : SIt s.heap I f i a n ep) : s.TypeIs (.ref I) "set_iterator" := let ⟨o, h, c, _⟩ := x; ⟨o, h, c⟩
section
variable {prog : Program} {w : World} {A : Around} {E : Value → Shared → Prop} {s : Shared}
theorem sit_self {I : Addr} {f : Value} {i : Nat} {a : Addr} {n ep : Nat} {Q : Value → Shared → Prop} (x : SIt s.heap I f i a n ep) (h : Q (.ref I) s) : wpAny (model prog w) A (pyIter (.ref I)) Q E s := by
  refine wpAny_pyIter_slot x.ty sit_iter (wpAny_call_entry sit_iter x.ty sit_entryI ?_ (sit_argsI _))
  exact wpAny_pure ⟨_, rfl, "set_iterator", _, x.ty, sit_next.lookup, h⟩
theorem SIt.upd {h : Heap} {I : Addr} {f : Value} {i : Nat} {a : Addr} {n ep : Nat} {o : Obj} (g : h.get? I = some o) (c : o.cls = .type "set_iterator") (d : o.data = .fields #[f, .int i 0, .ref a, .int n 0, .int ep 0]) (k : Nat) (v : Value) :
    ∃ o', (h.update I (Obj.mapFields (·.setIfInBounds k v))).get? I = some o' ∧ o'.cls = .type "set_iterator" ∧ o'.data = .fields ((#[f, .int i 0, .ref a, .int n 0, .int ep 0] : Array Value).setIfInBounds k v) :=
  ⟨_, Heap.get?_update_self _ g (Obj.isFreed_of_fields (Obj.data_mapFields d _)), (Obj.cls_mapFields ..).trans c, by rw [Obj.data_mapFields d]⟩
theorem stop_met {B : Around} (hh : B.handled = none) {Q : Option Value → Shared → Prop} {R : Fin → Shared → Prop} (h : ∀ h', (∀ b o, s.heap.get? b = some o → h'.get? b = some o) → Q none { s with heap := h' }) :
    wpAny (model prog w) B.in1 (newExc (.type "StopIteration") [] >>= fun e => (raiseNew e : Sem Fin)) R
      (fun e s' => wpAny (model prog w) B (do if (← isInstance e (.type "StopIteration")) = true then pure none else throw e) Q E s') s := by
  refine wpAny_bind ?_
  simp only [newExc, newTuple]
  refine wpAny_bind (wpAny_newObj_type ?_ (by size_fits))
  refine wpAny_bind (m := firstArgMember _ _) (wpAny_of_eq (a := Value.none) (by first | rfl | (simp only [firstArgMember]; rfl)) (wpAny_newObj_type ?_ (by size_fits)))
  simp only [raiseNew]
  refine wpAny_bind (wpAny_handled ?_)
  rw [show B.in1.handled = none from hh]
  refine wpAny_bind (wpAny_pure (wpAny_throw ?_))
  refine wpAny_bind (wpAny_isInstance (T := "StopIteration") (b := true) ⟨_, Heap.get?_push_size _ rfl, rfl⟩ isSubtype_stop (wpAny_pure ?_))
  exact (h _ fun b o e => Heap.get?_push_of_some _ (Heap.get?_push_of_some _ e))
end
end L2
set_option Elab.async false
set_option linter.all false
set_option maxRecDepth 100000
set_option maxHeartbeats 4000000
namespace L2
open PySem PySem.Spec PyProof.Rows
theorem out_perm {α : Type} : ∀ (l : List α) (i : Nat) (x : α), l[i]? = some x → (x :: l.eraseIdx i).Perm l
  | [], i, x, h => by simp at h
  | a :: l, 0, x, h => by simp at h; subst h; exact List.Perm.refl _
  | a :: l, i + 1, x, h => by
    rw [List.eraseIdx_cons_succ]
    exact (List.Perm.swap a x _).trans ((out_perm l i x (by simpa using h)).cons a)
theorem pick_go {α : Type} (f : Nat → Nat) : ∀ (fuel k : Nat) (left : List α) (out : Array α), left.length = fuel → (pickOrder.go f fuel k left out).toList.Perm (out.toList ++ left)
  | 0, k, left, out, h => by
    rw [List.length_eq_zero_iff.mp h, List.append_nil]
    exact List.Perm.refl _
  | fuel + 1, k, left, out, h => by
    have hlt : f k % left.length < left.length := Nat.mod_lt _ (by omega)
    unfold pickOrder.go
    rw [List.getElem?_eq_getElem hlt]
    dsimp only
    refine (pick_go f fuel (k + 1) _ _ (by rw [List.length_eraseIdx_of_lt hlt]; omega)).trans ?_
    rw [Array.toList_push, List.append_assoc]
    exact List.Perm.append_left _ (out_perm left _ _ (List.getElem?_eq_getElem hlt))
theorem pick_perm {α : Type} (f : Nat → Nat) (es : Array α) : (pickOrder f es).toList.Perm es.toList := by
  have := pick_go f es.size 0 es.toList #[] (by simp)
  simpa [pickOrder] using this
section
variable {prog : Program} {w : World} {A : Around} {E : Value → Shared → Prop} {s : Shared}
theorem choose_any {src : Source} {n : Nat} {Q : Nat → Shared → Prop} (hn : 0 < n) (h : ∀ i dr, i < n → Q i { s with drawn := dr }) : wpAny (model prog w) A (choose src n) Q E s := fun Γ p hΓ => by
  show Sem.wp _ Γ (.choose src n .pure) _ _ p s
  rw [Sem.wp_choose]
  exact ⟨by omega, h _ _ (Nat.mod_lt _ hn)⟩
theorem draw_any {α : Type} : ∀ (n : Nat) (xs : List α) (s : Shared) {Q : List α → Shared → Prop}, xs.length = n → (∀ ys dr, ys.Perm xs → Q ys { s with drawn := dr }) → wpAny (model prog w) A (drawOrder n xs) Q E s
  | 0, xs, s, Q, hl, h => by
    unfold drawOrder
    exact wpAny_pure (h [] s.drawn (by rw [List.length_eq_zero_iff.mp hl]))
  | n + 1, [], s, Q, hl, h => by simp at hl
  | n + 1, x :: xs, s, Q, hl, h => by
    unfold drawOrder
    refine wpAny_bind (choose_any (by simp) fun i dr hi => ?_)
    rw [List.getElem?_eq_getElem hi]
    dsimp only
    refine wpAny_bind (draw_any n _ _ (by rw [List.length_eraseIdx_of_lt hi]; omega) fun ys dr' hp => wpAny_pure (h _ dr' ?_))
    exact (hp.cons _).trans (out_perm _ i _ (List.getElem?_eq_getElem hi))
theorem SIt.keep {h h' : Heap} {I : Addr} {f : Value} {i : Nat} {a : Addr} {n ep : Nat} (x : SIt h I f i a n ep) (k : ∀ o, h.get? I = some o → h'.get? I = some o) : SIt h' I f i a n ep := let ⟨o, g, c, d⟩ := x; ⟨o, k _ g, c, d⟩
end
end L2
set_option Elab.async false
set_option linter.all false
set_option maxRecDepth 100000
set_option maxHeartbeats 4000000
namespace L2
open PySem PySem.Spec PyProof.Rows
section
variable {prog : Program} {w : World} {A : Around} {E : Value → Shared → Prop} {s : Shared}
theorem hint_set {r : Addr} {Q : Bool → Shared → Prop} (hT : s.TypeIs (.ref r) "set") (h : Q false s) : wpAny (model prog w) A (Builtin.List.listLengthHint (.ref r)) Q E s := by
  unfold Builtin.List.listLengthHint
  refine wpAny_bind (wpAny_specialOf hT PySem.F.slot_set_len.lookup ?_)
  generalize hid : ("set.__len__" : String) = id0
  wp_delta
  rw [show splitId id0 = some ("set", "__len__") from by subst hid; decide +kernel]
  subst hid
  refine wpAny_bind (wpAny_isInstance (T := "set") (b := true) hT (by rw [isSubtype_type]; kernel_rfl) (wpAny_ite_split (fun q => absurd q (by decide)) (fun _ => ?_)))
  refine wpAny_ite_split (fun _ => wpAny_bind (wpAny_typeOf hT ?_)) (fun q => absurd (by decide +kernel) q)
  exact wpAny_pure h
end
end L2
set_option Elab.async false
set_option linter.all false
set_option maxRecDepth 100000
set_option maxHeartbeats 4000000
namespace L2
open PySem PySem.Spec PyProof.Rows
section
variable {X : Cx} {pins : List (Addr × Obj)} {σ : L2.St} {H : Hp} {s : Shared}
theorem Inv.dr (I : Inv X pins σ H s) (dr : Drawn) : Inv X pins σ H { s with drawn := dr } := ⟨I.ok, I.os, I.bare, I.base, I.loc, I.cell, I.free, I.freeC, I.pin, I.hok, I.len⟩
end
def leS (a b : Str) : Prop := ¬ b.cps.toList < a.cps.toList
theorem leS_anti {a b : Str} (h1 : leS a b) (h2 : leS b a) : a = b := by
  have e : a.cps.toList = b.cps.toList := List.le_antisymm (List.not_lt.mp h1) (List.not_lt.mp h2)
  obtain ⟨x⟩ := a
  obtain ⟨y⟩ := b
  have : x = y := Array.toList_inj.mp e
  rw [this]
end L2
set_option Elab.async false
set_option linter.all false
set_option maxRecDepth 100000
set_option maxHeartbeats 4000000
namespace L2
open PySem PySem.Spec PyProof.Rows
theorem below_go (xs : Array Nat) (j : Nat) (hr : xs.toList.Pairwise (· < ·)) : ∀ (fuel lo hi : Nat), hi - lo ≤ fuel → lo ≤ hi → hi ≤ xs.size → (∀ k, k < lo → ∀ v, xs.toList[k]? = some v → v < j) → (∀ k, hi ≤ k → ∀ v, xs.toList[k]? = some v → j ≤ v) →
    (∀ k, k < SetTable.below.go xs j fuel lo hi → ∀ v, xs.toList[k]? = some v → v < j) ∧ (∀ k, SetTable.below.go xs j fuel lo hi ≤ k → ∀ v, xs.toList[k]? = some v → j ≤ v) ∧ SetTable.below.go xs j fuel lo hi ≤ xs.size
  | 0, lo, hi, hf, hl, hs, h1, h2 => by
    rw [SetTable.below.go]
    exact ⟨h1, fun k hk => h2 k (by omega), by omega⟩
  | fuel + 1, lo, hi, hf, hl, hs, h1, h2 => by
    rw [SetTable.below.go]
    have mono : ∀ {a b : Nat} {x y : Nat}, xs.toList[a]? = some x → xs.toList[b]? = some y → a ≤ b → x ≤ y := fun {a b x y} ha hb hab => by
      obtain ⟨la, ea⟩ := List.getElem?_eq_some_iff.mp ha
      obtain ⟨lb, eb⟩ := List.getElem?_eq_some_iff.mp hb
      by_cases c : a = b
      · subst c; rw [← ea, ← eb]; exact Nat.le_refl _
      · have := (List.pairwise_iff_getElem.mp hr) a b la lb (by omega)
        omega
    by_cases c : lo < hi
    · rw [if_pos c]
      have hm : (lo + hi) / 2 < xs.size := by omega
      have em : xs.toList[(lo + hi) / 2]? = some (xs.getD ((lo + hi) / 2) j) := by
        rw [Array.getElem?_toList, Array.getD_eq_getD_getElem?, Array.getElem?_eq_getElem hm]; rfl
      dsimp only
      by_cases d : xs.getD ((lo + hi) / 2) j < j
      · rw [if_pos d]
        exact below_go xs j hr fuel _ hi (by omega) (by omega) hs (fun k hk v hv => by have := mono hv em (by omega); omega) h2
      · rw [if_neg d]
        exact below_go xs j hr fuel lo _ (by omega) (by omega) (by omega) h1 (fun k hk v hv => by have := mono em hv hk; omega)
    · rw [if_neg c]
      exact ⟨h1, fun k hk => h2 k (by omega), by omega⟩
theorem below_ok {xs : Array Nat} (hr : xs.toList.Pairwise (· < ·)) (j : Nat) : (∀ k, k < SetTable.below xs j → ∀ v, xs.toList[k]? = some v → v < j) ∧ (∀ k, SetTable.below xs j ≤ k → ∀ v, xs.toList[k]? = some v → j ≤ v) ∧ SetTable.below xs j ≤ xs.size := by
  unfold SetTable.below
  refine below_go xs j hr xs.size 0 xs.size (by omega) (Nat.zero_le _) (Nat.le_refl _) (fun k hk => by omega) fun k hk v hv => ?_
  have := (List.getElem?_eq_some_iff.mp hv).1
  rw [Array.length_toList] at this
  omega
theorem below_at {xs : Array Nat} (hr : xs.toList.Pairwise (· < ·)) {i j : Nat} (h : xs.toList[i]? = some j) : SetTable.below xs j = i := by
  obtain ⟨h1, h2, h3⟩ := below_ok hr j
  have hi := (List.getElem?_eq_some_iff.mp h).1
  rw [Array.length_toList] at hi
  by_cases c : i < SetTable.below xs j
  · have := h1 i c j h; omega
  · by_cases d : SetTable.below xs j = i
    · exact d
    · have hb : SetTable.below xs j < xs.toList.length := by rw [Array.length_toList]; omega
      have q1 := h2 _ (Nat.le_refl _) _ (List.getElem?_eq_getElem hb)
      obtain ⟨li, ei⟩ := List.getElem?_eq_some_iff.mp h
      have q2 := (List.pairwise_iff_getElem.mp hr) _ i hb li (by omega)
      omega
structure LY (t : SetTable) (es : Array (Int × Value)) (L : List (Nat × (Int × Value))) : Prop where
  pl : t.place.toList = L.map Prod.fst
  el : es.toList = L.map Prod.snd
  ris : (L.map Prod.fst).Pairwise (· < ·)
  dm : t.dummies = #[]
  mx : ∀ x ∈ L, x.1 ≤ t.mask
theorem has_nil (j : Nat) : SetTable.has #[] j = false := by
  unfold SetTable.has; simp
theorem LY.rp {t : SetTable} {es : Array (Int × Value)} {L : List (Nat × (Int × Value))} (h : LY t es L) : t.place.toList.Pairwise (· < ·) := by rw [h.pl]; exact h.ris
theorem LY.live {t : SetTable} {es : Array (Int × Value)} {L : List (Nat × (Int × Value))} (h : LY t es L) {j : Nat} {e : Int × Value} (m : (j, e) ∈ L) : ∃ i, t.slot j = .live i ∧ es[i]? = some e := by
  obtain ⟨i, hi⟩ := List.getElem?_of_mem m
  have h1 : t.place.toList[i]? = some j := by rw [h.pl, List.getElem?_map, hi]; rfl
  have h2 : es[i]? = some e := by rw [← Array.getElem?_toList, h.el, List.getElem?_map, hi]; rfl
  refine ⟨i, ?_, h2⟩
  unfold SetTable.slot
  rw [below_at h.rp h1]
  have : (t.place[i]? == some j) = true := by rw [← Array.getElem?_toList, h1]; simp
  simp only [this, if_true]
theorem LY.empty {t : SetTable} {es : Array (Int × Value)} {L : List (Nat × (Int × Value))} (h : LY t es L) {j : Nat} (m : j ∉ L.map Prod.fst) : t.slot j = .empty := by
  unfold SetTable.slot
  have : (t.place[SetTable.below t.place j]? == some j) = false := by
    rw [← Array.getElem?_toList, h.pl]
    cases c : (L.map Prod.fst)[SetTable.below t.place j]? with
    | none => rfl
    | some v =>
      have : v ≠ j := fun e => m (e ▸ List.mem_of_getElem? c)
      simpa using this
  simp only [this, h.dm, has_nil, Bool.false_eq_true, if_false]
theorem insertAt_list {α : Type} (xs : Array α) (p : Nat) (x : α) (hp : p ≤ xs.size) : (SetTable.insertAt xs p x).toList = xs.toList.take p ++ x :: xs.toList.drop p := by
  unfold SetTable.insertAt
  simp only [Array.toList_append, Array.toList_push, Array.toList_extract, List.extract_eq_take_drop, Nat.sub_zero, List.drop_zero]
  rw [List.append_assoc, List.singleton_append]
  congr 2
  rw [List.take_of_length_le]
  simp
theorem LY.put {t : SetTable} {es : Array (Int × Value)} {L : List (Nat × (Int × Value))} (h : LY t es L) {j : Nat} (e : Int × Value) (nj : j ∉ L.map Prod.fst) (jm : j ≤ t.mask) :
    ∃ L', LY (t.put j).1 (SetTable.insertAt es (t.put j).2 e) L' ∧ (∀ x, x ∈ L' ↔ x = (j, e) ∨ x ∈ L) ∧ L'.length = L.length + 1 ∧ (L'.map Prod.snd).Perm (e :: L.map Prod.snd) := by
  obtain ⟨b1, b2, b3⟩ := below_ok h.rp j
  have sz : t.place.size = L.length := by rw [← Array.length_toList, h.pl, List.length_map]
  have sz2 : es.size = L.length := by rw [← Array.length_toList, h.el, List.length_map]
  have e2 : (t.put j).2 = SetTable.below t.place j := rfl
  have e1 : (t.put j).1.place = SetTable.insertAt t.place (SetTable.below t.place j) j := rfl
  have e3 : (t.put j).1.dummies = #[] := by
    show (if SetTable.has t.dummies j = true then _ else t.dummies) = #[]
    rw [h.dm, has_nil]; rfl
  have e4 : (t.put j).1.mask = t.mask := rfl
  generalize SetTable.below t.place j = p at b1 b2 b3 e2 e1
  have tp : (L.take p).map Prod.fst = (L.map Prod.fst).take p := List.map_take ..
  have dp : (L.drop p).map Prod.fst = (L.map Prod.fst).drop p := List.map_drop ..
  have mem : ∀ x, x ∈ L.take p ++ (j, e) :: L.drop p ↔ x = (j, e) ∨ x ∈ L := fun x => by
    rw [List.mem_append, List.mem_cons]
    constructor
    · rintro (q | q | q)
      · exact .inr (List.mem_of_mem_take q)
      · exact .inl q
      · exact .inr (List.mem_of_mem_drop q)
    · rintro (q | q)
      · exact .inr (.inl q)
      · rw [← List.take_append_drop p L, List.mem_append] at q
        exact q.elim .inl fun q => .inr (.inr q)
  refine ⟨L.take p ++ (j, e) :: L.drop p, ⟨?_, ?_, ?_, e3, fun x hx => ?_⟩, mem, ?_, ?_⟩
  · rw [e1, insertAt_list _ _ _ b3, h.pl, List.map_append, List.map_cons, tp, dp]
  · rw [e2, insertAt_list _ _ _ (by omega), h.el, List.map_append, List.map_cons, List.map_take, List.map_drop]
  · rw [List.map_append, List.map_cons, tp, dp]
    have r := h.ris
    rw [← List.take_append_drop p (L.map Prod.fst), List.pairwise_append] at r
    have lt : ∀ a ∈ (L.map Prod.fst).take p, a < j := fun a ha => by
      obtain ⟨k, hk⟩ := List.getElem?_of_mem ha
      have kp : k < p := by have := (List.getElem?_eq_some_iff.mp hk).1; rw [List.length_take] at this; omega
      rw [List.getElem?_take_of_lt kp, ← h.pl] at hk
      exact b1 k kp a hk
    have gt : ∀ a ∈ (L.map Prod.fst).drop p, j < a := fun a ha => by
      obtain ⟨k, hk⟩ := List.getElem?_of_mem ha
      rw [List.getElem?_drop, ← h.pl] at hk
      have q := b2 (p + k) (by omega) a hk
      have : a ≠ j := fun z => nj (z ▸ List.mem_of_mem_drop ha)
      omega
    rw [List.pairwise_append]
    refine ⟨r.1, List.pairwise_cons.mpr ⟨gt, r.2.1⟩, fun a ha b hb => ?_⟩
    rcases List.mem_cons.mp hb with q | q
    · rw [q]; exact lt a ha
    · exact Nat.lt_trans (lt a ha) (gt b q)
  · rw [e4]
    rcases (mem x).mp hx with q | q
    · rw [q]; exact jm
    · exact h.mx x q
  · rw [List.length_append, List.length_cons, List.length_take, List.length_drop]; omega
  · rw [List.map_append, List.map_cons, List.map_take, List.map_drop]
    refine List.perm_middle.trans ?_
    rw [List.take_append_drop]
end L2
set_option Elab.async false
set_option linter.all false
set_option maxRecDepth 100000
set_option maxHeartbeats 4000000
namespace L2
open PySem PySem.Spec PyProof.Rows
def adv (m : Nat) (p : SetTable.Probe) : SetTable.Probe :=
  if p.more > 0 then { p with j := p.j + 1, more := p.more - 1 } else
  { p with j := (p.i * 5 + 1 + p.perturb / 32) % (m + 1), more := SetTable.runEnd m ((p.i * 5 + 1 + p.perturb / 32) % (m + 1)) - (p.i * 5 + 1 + p.perturb / 32) % (m + 1), i := (p.i * 5 + 1 + p.perturb / 32) % (m + 1), perturb := p.perturb / 32 }
def pst (m : Nat) (h : Int) : SetTable.Probe := { j := SetTable.bits h % (m + 1), more := SetTable.runEnd m (SetTable.bits h % (m + 1)) - SetTable.bits h % (m + 1), i := SetTable.bits h % (m + 1), perturb := SetTable.bits h, dummy := none }
def advN (m : Nat) (p : SetTable.Probe) : Nat → SetTable.Probe
  | 0 => p
  | n + 1 => adv m (advN m p n)
theorem advN_add (m : Nat) (p : SetTable.Probe) (a : Nat) : ∀ b, advN m (advN m p a) b = advN m p (a + b)
  | 0 => rfl
  | b + 1 => by show adv m (advN m (advN m p a) b) = adv m (advN m p (a + b)); rw [advN_add m p a b]
structure PV (m : Nat) (p : SetTable.Probe) : Prop where
  i : p.i ≤ m
  pe : p.perturb < 2 ^ 64
  mo : p.more ≤ 9
  jm : p.j + p.more ≤ m
  dm : p.dummy = none
theorem runEnd_le {m i : Nat} (h : i ≤ m) : SetTable.runEnd m i ≤ m ∧ i ≤ SetTable.runEnd m i ∧ SetTable.runEnd m i - i ≤ 9 := by
  unfold SetTable.runEnd
  split <;> omega
theorem PV.start (m : Nat) (h : Int) : PV m (pst m h) := by
  have hi : SetTable.bits h % (m + 1) ≤ m := by have := Nat.mod_lt (SetTable.bits h) (show 0 < m + 1 by omega); omega
  obtain ⟨r1, r2, r3⟩ := runEnd_le hi
  refine ⟨hi, ?_, r3, ?_, rfl⟩
  · show SetTable.bits h < 2 ^ 64
    unfold SetTable.bits
    have := Int.emod_lt_of_pos h (show (0 : Int) < 2 ^ 64 by decide)
    have := Int.emod_nonneg h (show (2 ^ 64 : Int) ≠ 0 by decide)
    omega
  · show SetTable.bits h % (m + 1) + (SetTable.runEnd m (SetTable.bits h % (m + 1)) - SetTable.bits h % (m + 1)) ≤ m
    omega
theorem PV.adv {m : Nat} {p : SetTable.Probe} (h : PV m p) : PV m (adv m p) := by
  unfold L2.adv
  by_cases c : p.more > 0
  · rw [if_pos c]
    refine ⟨h.i, h.pe, ?_, ?_, h.dm⟩
    · show p.more - 1 ≤ 9
      have := h.mo; omega
    · show p.j + 1 + (p.more - 1) ≤ m
      have := h.jm; omega
  · rw [if_neg c]
    have hi : (p.i * 5 + 1 + p.perturb / 32) % (m + 1) ≤ m := by have := Nat.mod_lt (p.i * 5 + 1 + p.perturb / 32) (show 0 < m + 1 by omega); omega
    obtain ⟨r1, r2, r3⟩ := runEnd_le hi
    refine ⟨hi, ?_, r3, ?_, h.dm⟩
    · show p.perturb / 32 < 2 ^ 64
      have := h.pe
      exact Nat.lt_of_le_of_lt (Nat.div_le_self _ _) this
    · generalize (p.i * 5 + 1 + p.perturb / 32) % (m + 1) = x at *
      show x + (SetTable.runEnd m x - x) ≤ m
      omega
theorem PV.advN {m : Nat} {p : SetTable.Probe} (h : PV m p) : ∀ n, PV m (advN m p n)
  | 0 => h
  | n + 1 => (PV.advN h n).adv
theorem PV.j {m : Nat} {p : SetTable.Probe} (h : PV m p) : p.j ≤ m := by have := h.jm; omega
def lpI (m : Nat) (i pe : Nat) : Nat → Nat × Nat
  | 0 => (i, pe)
  | k + 1 => (((lpI m i pe k).1 * 5 + 1 + (lpI m i pe k).2 / 32) % (m + 1), (lpI m i pe k).2 / 32)
theorem run_more {m : Nat} : ∀ (k : Nat) {p : SetTable.Probe}, k ≤ p.more → (advN m p k).more = p.more - k ∧ (advN m p k).j = p.j + k ∧ (advN m p k).i = p.i ∧ (advN m p k).perturb = p.perturb
  | 0, p, _ => ⟨rfl, rfl, rfl, rfl⟩
  | k + 1, p, h => by
    obtain ⟨h1, h2, h3, h4⟩ := run_more (m := m) k (p := p) (by omega)
    show (adv m (advN m p k)).more = _ ∧ (adv m (advN m p k)).j = _ ∧ (adv m (advN m p k)).i = _ ∧ (adv m (advN m p k)).perturb = _
    unfold adv
    rw [if_pos (by omega)]
    exact ⟨by show _ - 1 = _; omega, by show _ + 1 = _; omega, h3, h4⟩
theorem leap_one {m : Nat} {p : SetTable.Probe} (h : PV m p) : ∃ d, d ≤ 10 ∧ 1 ≤ d ∧ (advN m p d).i = (p.i * 5 + 1 + p.perturb / 32) % (m + 1) ∧ (advN m p d).perturb = p.perturb / 32 ∧ (advN m p d).j = (p.i * 5 + 1 + p.perturb / 32) % (m + 1) ∧ d = p.more + 1 := by
  obtain ⟨h1, h2, h3, h4⟩ := run_more (m := m) p.more (p := p) (Nat.le_refl _)
  have := h.mo
  refine ⟨p.more + 1, by omega, by omega, ?_⟩
  show (adv m (advN m p p.more)).i = _ ∧ (adv m (advN m p p.more)).perturb = _ ∧ (adv m (advN m p p.more)).j = _ ∧ _
  unfold adv
  rw [if_neg (by omega)]
  dsimp only
  rw [h3, h4]
  exact ⟨rfl, rfl, rfl, rfl⟩
theorem leap_many {m : Nat} {p : SetTable.Probe} (h : PV m p) : ∀ k, ∃ d, d ≤ 10 * k ∧ (advN m p d).i = (lpI m p.i p.perturb k).1 ∧ (advN m p d).perturb = (lpI m p.i p.perturb k).2 ∧ (1 ≤ k → (advN m p d).j = (lpI m p.i p.perturb k).1)
  | 0 => ⟨0, by omega, rfl, rfl, fun h => by omega⟩
  | k + 1 => by
    obtain ⟨d, h1, h2, h3, _⟩ := leap_many h k
    obtain ⟨d', q1, _, q2, q3, q4, _⟩ := leap_one (h.advN d)
    rw [advN_add] at q2 q3 q4
    rw [h2, h3] at q2 q4
    rw [h3] at q3
    exact ⟨d + d', by omega, q2, q3, fun _ => q4⟩
theorem lpI_pe (m i pe : Nat) : ∀ k, (lpI m i pe k).2 = pe / 32 ^ k
  | 0 => by simp [lpI]
  | k + 1 => by
    show (lpI m i pe k).2 / 32 = _
    rw [lpI_pe m i pe k, Nat.div_div_eq_div_mul, Nat.pow_succ]
def orb (m : Nat) (i : Nat) : Nat → Nat
  | 0 => i
  | k + 1 => (orb m i k * 5 + 1) % (m + 1)
theorem lpI_orb {m i pe : Nat} {k0 : Nat} (h : (lpI m i pe k0).2 = 0) : ∀ k, (lpI m i pe (k0 + k)).1 = orb m (lpI m i pe k0).1 k ∧ (lpI m i pe (k0 + k)).2 = 0
  | 0 => ⟨rfl, h⟩
  | k + 1 => by
    obtain ⟨h1, h2⟩ := lpI_orb h k
    show ((lpI m i pe (k0 + k)).1 * 5 + 1 + (lpI m i pe (k0 + k)).2 / 32) % (m + 1) = _ ∧ (lpI m i pe (k0 + k)).2 / 32 = 0
    rw [h1, h2]
    exact ⟨rfl, rfl⟩
def orbL (m : Nat) : Nat → Nat → List Nat
  | i, 0 => [i]
  | i, k + 1 => i :: orbL m ((i * 5 + 1) % (m + 1)) k
theorem orb_shift (m i : Nat) : ∀ k, orb m ((i * 5 + 1) % (m + 1)) k = orb m i (k + 1)
  | 0 => rfl
  | k + 1 => by show (orb m _ k * 5 + 1) % (m + 1) = _; rw [orb_shift m i k]; rfl
theorem orbL_mem (m : Nat) : ∀ (n i j : Nat), j ∈ orbL m i n → ∃ k, k ≤ n ∧ orb m i k = j
  | 0, i, j, h => ⟨0, Nat.le_refl _, (List.mem_singleton.mp h).symm⟩
  | n + 1, i, j, h => by
    rcases List.mem_cons.mp h with q | q
    · exact ⟨0, Nat.zero_le _, q.symm⟩
    · obtain ⟨k, h1, h2⟩ := orbL_mem m n _ j q
      exact ⟨k + 1, by omega, by rw [← orb_shift]; exact h2⟩
theorem orb_add (m i : Nat) (a : Nat) : ∀ b, orb m (orb m i a) b = orb m i (a + b)
  | 0 => rfl
  | b + 1 => by show (orb m (orb m i a) b * 5 + 1) % (m + 1) = (orb m i (a + b) * 5 + 1) % (m + 1); rw [orb_add m i a b]
def MaskOk (m : Nat) : Prop := m = 7 ∨ m = 31 ∨ m = 127
theorem orb_all {m : Nat} (hm : MaskOk m) {i j : Nat} (hi : i ≤ m) (hj : j ≤ m) : ∃ k, k ≤ m ∧ orb m i k = j := by
  have key : (List.range (m + 1)).all (fun j => (orbL m 0 m).contains j) = true := by
    rcases hm with rfl | rfl | rfl <;> decide +kernel
  have per : orb m 0 (m + 1) = 0 := by
    rcases hm with rfl | rfl | rfl <;> decide +kernel
  have at_ : ∀ j, j ≤ m → ∃ k, k ≤ m ∧ orb m 0 k = j := fun j hj => orbL_mem m m 0 j (by simpa using List.all_eq_true.mp key j (List.mem_range.mpr (by omega)))
  obtain ⟨a, a1, a2⟩ := at_ i hi
  obtain ⟨b, b1, b2⟩ := at_ j hj
  by_cases c : a ≤ b
  · exact ⟨b - a, by omega, by rw [← a2, orb_add, show a + (b - a) = b by omega]; exact b2⟩
  · refine ⟨m + 1 - a + b, by omega, ?_⟩
    rw [← a2, orb_add, show a + (m + 1 - a + b) = m + 1 + b by omega, ← orb_add, per]
    exact b2
theorem cover {m : Nat} (hm : MaskOk m) {p : SetTable.Probe} (h : PV m p) {j : Nat} (hj : j ≤ m) : ∃ k d, k ≤ 13 + m ∧ 1 ≤ k ∧ d ≤ 10 * k ∧ (lpI m p.i p.perturb k).1 = j ∧ (advN m p d).j = j := by
  have z : (lpI m p.i p.perturb 13).2 = 0 := by
    rw [lpI_pe]
    exact Nat.div_eq_of_lt (Nat.lt_trans h.pe (by decide))
  have hi : (lpI m p.i p.perturb 13).1 ≤ m := by
    show (_ % (m + 1)) ≤ m
    exact Nat.le_of_lt_succ (Nat.mod_lt ((lpI m p.i p.perturb 12).1 * 5 + 1 + (lpI m p.i p.perturb 12).2 / 32) (show 0 < m + 1 by omega))
  obtain ⟨k, h1, h2⟩ := orb_all hm hi hj
  obtain ⟨d, q1, _, _, q2⟩ := leap_many h (13 + k)
  have q3 := q2 (by omega)
  have q4 := (lpI_orb z k).1
  exact ⟨13 + k, d, by omega, by omega, q1, by rw [q4, h2], by rw [q3, q4, h2]⟩
end L2
set_option Elab.async false
set_option linter.all false
set_option maxRecDepth 100000
set_option maxHeartbeats 4000000
namespace L2
open PySem PySem.Spec PyProof.Rows
def pth (m : Nat) (h : Int) (n : Nat) : SetTable.Probe := advN m (pst m h) n
theorem pth_pv (m : Nat) (h : Int) (n : Nat) : PV m (pth m h n) := (PV.start m h).advN n
def WayI (m : Nat) (L : List (Nat × (Int × Value))) : Prop := ∀ x ∈ L, ∃ n, (pth m x.2.1 n).j = x.1 ∧ ∀ k, k < n → (pth m x.2.1 k).j ∈ L.map Prod.fst
theorem LY.uniq {t : SetTable} {es : Array (Int × Value)} {L : List (Nat × (Int × Value))} (h : LY t es L) {j : Nat} {e e' : Int × Value} (m : (j, e) ∈ L) (m' : (j, e') ∈ L) : e = e' := by
  obtain ⟨i, h1, h2⟩ := h.live m
  obtain ⟨i', h3, h4⟩ := h.live m'
  rw [h1] at h3
  cases h3
  rw [h2] at h4
  exact Option.some.inj h4
theorem mem_fst {L : List (Nat × (Int × Value))} {j : Nat} : j ∈ L.map Prod.fst ↔ ∃ e, (j, e) ∈ L := by
  rw [List.mem_map]
  exact ⟨fun ⟨x, h1, h2⟩ => ⟨x.2, by rw [← h2]; exact h1⟩, fun ⟨e, h⟩ => ⟨_, h, rfl⟩⟩
theorem probe_go {t : SetTable} {es : Array (Int × Value)} {L : List (Nat × (Int × Value))} (hy : LY t es L) {ha : Nat → Int} (hh : ∀ i e, es[i]? = some e → ha i = e.1) (h : Int) : ∀ (fuel n : Nat), (∃ d, d < fuel ∧ (pth t.mask h (n + d)).j ∉ L.map Prod.fst) →
    ∃ d, d < fuel ∧ (∀ k, k < d → ∃ e, ((pth t.mask h (n + k)).j, e) ∈ L ∧ e.1 ≠ h) ∧
      ((SetTable.probe.go t ha h fuel (pth t.mask h n) = some (.empty (pth t.mask h (n + d)).j none) ∧ (pth t.mask h (n + d)).j ∉ L.map Prod.fst) ∨
       ∃ e i, ((pth t.mask h (n + d)).j, e) ∈ L ∧ e.1 = h ∧ es[i]? = some e ∧ SetTable.probe.go t ha h fuel (pth t.mask h n) = some (.candidate (pth t.mask h (n + d)).j i (pth t.mask h (n + d + 1))))
  | 0, n, ⟨d, hd, _⟩ => by omega
  | fuel + 1, n, ⟨d, hd, he⟩ => by
    by_cases c : (pth t.mask h n).j ∈ L.map Prod.fst
    · obtain ⟨e, hm⟩ := mem_fst.mp c
      obtain ⟨i, h1, h2⟩ := hy.live hm
      by_cases q : e.1 = h
      · refine ⟨0, by omega, fun k hk => by omega, .inr ⟨e, i, hm, q, h2, ?_⟩⟩
        rw [SetTable.probe.go, h1]
        dsimp only
        rw [hh i e h2, if_pos (by simpa using q)]
        rfl
      · have d0 : d ≠ 0 := fun z => he (by rw [z]; exact c)
        obtain ⟨d', q1, q2, q3⟩ := probe_go hy hh h fuel (n + 1) ⟨d - 1, by omega, by rw [show n + 1 + (d - 1) = n + d by omega]; exact he⟩
        have st : SetTable.probe.go t ha h (fuel + 1) (pth t.mask h n) = SetTable.probe.go t ha h fuel (pth t.mask h (n + 1)) := by
          rw [SetTable.probe.go, h1]
          dsimp only
          rw [hh i e h2, if_neg (by simpa using q)]
          rfl
        refine ⟨d' + 1, by omega, fun k hk => ?_, ?_⟩
        · by_cases z : k = 0
          · subst z; exact ⟨e, hm, q⟩
          · have := q2 (k - 1) (by omega)
            rw [show n + 1 + (k - 1) = n + k by omega] at this
            exact this
        · rw [st, show n + (d' + 1) = n + 1 + d' by omega]
          exact q3
    · refine ⟨0, by omega, fun k hk => by omega, .inl ⟨?_, c⟩⟩
      rw [SetTable.probe.go, hy.empty c]
      dsimp only
      rw [(pth_pv t.mask h n).dm]
      rfl
theorem free_ex {m : Nat} {L : List (Nat × (Int × Value))} (ris : (L.map Prod.fst).Pairwise (· < ·)) (hl : L.length ≤ m) : ∃ j, j ≤ m ∧ j ∉ L.map Prod.fst := Classical.byContradiction fun no => by
  have all : ∀ j, j ≤ m → j ∈ L.map Prod.fst := fun j hj => Classical.byContradiction fun c => no ⟨j, hj, c⟩
  have nd : (List.range (m + 1)).Nodup := List.nodup_range
  have sub : ∀ x ∈ List.range (m + 1), x ∈ L.map Prod.fst := fun x hx => all x (by have := List.mem_range.mp hx; omega)
  have len : ∀ (a b : List Nat), a.Nodup → (∀ x ∈ a, x ∈ b) → a.length ≤ b.length := fun a => by
    induction a with
    | nil => intro b _ _; simp
    | cons x a ih =>
      intro b nd sub
      obtain ⟨nx, nd'⟩ := List.nodup_cons.mp nd
      have := ih (b.erase x) nd' fun y hy => (List.mem_erase_of_ne (fun e : y = x => nx (e ▸ hy))).mpr (sub y (.tail _ hy))
      have hb := sub x (.head _)
      rw [List.length_erase_of_mem hb] at this
      have := List.length_pos_of_mem hb
      rw [List.length_cons]; omega
  have := len _ _ nd sub
  rw [List.length_range, List.length_map] at this
  omega
theorem free_on {m : Nat} (hm : MaskOk m) {L : List (Nat × (Int × Value))} (ris : (L.map Prod.fst).Pairwise (· < ·)) (hl : L.length ≤ m) (h : Int) (n : Nat) : ∃ d, d < 10 * SetTable.turns m ∧ (pth m h (n + d)).j ∉ L.map Prod.fst := by
  obtain ⟨j, j1, j2⟩ := free_ex ris hl
  obtain ⟨k, d, k1, _, d1, _, e⟩ := cover hm (pth_pv m h n) j1
  refine ⟨d, by unfold SetTable.turns; omega, ?_⟩
  have : pth m h (n + d) = advN m (pth m h n) d := (advN_add m (pst m h) n d).symm
  rw [this, e]; exact j2
theorem first_free {m : Nat} (hm : MaskOk m) {L : List (Nat × (Int × Value))} (ris : (L.map Prod.fst).Pairwise (· < ·)) (hl : L.length ≤ m) (h : Int) : ∃ N, N < 10 * SetTable.turns m ∧ (pth m h N).j ∉ L.map Prod.fst ∧ ∀ k, k < N → (pth m h k).j ∈ L.map Prod.fst := by
  obtain ⟨d, d1, d2⟩ := free_on hm ris hl h 0
  rw [Nat.zero_add] at d2
  have key : ∀ d, (pth m h d).j ∉ L.map Prod.fst → ∃ N, N ≤ d ∧ (pth m h N).j ∉ L.map Prod.fst ∧ ∀ k, k < N → (pth m h k).j ∈ L.map Prod.fst := fun d => by
    induction d using Nat.strongRecOn with
    | ind d ih =>
      intro hd
      by_cases c : ∀ k, k < d → (pth m h k).j ∈ L.map Prod.fst
      · exact ⟨d, Nat.le_refl _, hd, c⟩
      · obtain ⟨k, k1, k2⟩ : ∃ k, k < d ∧ (pth m h k).j ∉ L.map Prod.fst := Classical.byContradiction fun no => c fun k hk => Classical.byContradiction fun z => no ⟨k, hk, z⟩
        obtain ⟨N, q1, q2⟩ := ih k k1 k2
        exact ⟨N, by omega, q2⟩
  obtain ⟨N, q1, q2⟩ := key d d2
  exact ⟨N, by omega, q2⟩
theorem WayI.put {m : Nat} {L L' : List (Nat × (Int × Value))} (h : WayI m L) {e : Int × Value} {N : Nat} (hN : ∀ k, k < N → (pth m e.1 k).j ∈ L.map Prod.fst) (mem : ∀ x, x ∈ L' ↔ x = ((pth m e.1 N).j, e) ∨ x ∈ L) : WayI m L' := by
  have sub : ∀ j, j ∈ L.map Prod.fst → j ∈ L'.map Prod.fst := fun j hj => by
    obtain ⟨e', he⟩ := mem_fst.mp hj
    exact mem_fst.mpr ⟨e', (mem _).mpr (.inr he)⟩
  intro x hx
  rcases (mem x).mp hx with q | q
  · subst q
    exact ⟨N, rfl, fun k hk => sub _ (hN k hk)⟩
  · obtain ⟨n, h1, h2⟩ := h x q
    exact ⟨n, h1, fun k hk => sub _ (h2 k hk)⟩
theorem WayI.found {t : SetTable} {es : Array (Int × Value)} {L : List (Nat × (Int × Value))} (hy : LY t es L) (h : WayI t.mask L) {j : Nat} {e : Int × Value} (m : (j, e) ∈ L) {N : Nat} (hN : (pth t.mask e.1 N).j ∉ L.map Prod.fst) : ∃ k, k < N ∧ (pth t.mask e.1 k).j = j := by
  obtain ⟨n, h1, h2⟩ := h _ m
  refine ⟨n, ?_, h1⟩
  by_cases c : n < N
  · exact c
  · by_cases d : N = n
    · subst d
      exact absurd (mem_fst.mpr ⟨e, by rw [h1]; exact m⟩) hN
    · exact absurd (h2 N (by omega)) hN
end L2
set_option Elab.async false
set_option linter.all false
set_option maxRecDepth 100000
set_option maxHeartbeats 4000000
namespace L2
open PySem PySem.Spec PyProof.Rows
def Occ (ow : Array (Option Nat)) (j : Nat) : Prop := ∃ k, ow.toList[j]? = some (some k)
structure LpS (m : Nat) (p : SetTable.Probe) : Prop where
  v : PV m p
  ji : p.j = p.i
  mo : p.more = SetTable.runEnd m p.i - p.i
theorem lpI_shift (m i pe : Nat) : ∀ k, lpI m ((i * 5 + 1 + pe / 32) % (m + 1)) (pe / 32) k = lpI m i pe (k + 1)
  | 0 => rfl
  | k + 1 => by
    show (((lpI m ((i * 5 + 1 + pe / 32) % (m + 1)) (pe / 32) k).1 * 5 + 1 + (lpI m ((i * 5 + 1 + pe / 32) % (m + 1)) (pe / 32) k).2 / 32) % (m + 1), (lpI m ((i * 5 + 1 + pe / 32) % (m + 1)) (pe / 32) k).2 / 32) = _
    rw [lpI_shift m i pe k]; rfl
theorem LpS.next {m : Nat} {p : SetTable.Probe} (h : LpS m p) : LpS m (advN m p (p.more + 1)) ∧ (advN m p (p.more + 1)).i = (p.i * 5 + 1 + p.perturb / 32) % (m + 1) ∧ (advN m p (p.more + 1)).perturb = p.perturb / 32 := by
  obtain ⟨h1, h2, h3, h4⟩ := run_more (m := m) p.more (p := p) (Nat.le_refl _)
  have e : advN m p (p.more + 1) = adv m (advN m p p.more) := rfl
  have pv := h.v.advN (p.more + 1)
  rw [e] at pv ⊢
  unfold adv at pv ⊢
  rw [if_neg (by omega)] at pv ⊢
  refine ⟨⟨pv, rfl, rfl⟩, ?_, ?_⟩
  · show ((advN m p p.more).i * 5 + 1 + (advN m p p.more).perturb / 32) % (m + 1) = _
    rw [h3, h4]
  · show (advN m p p.more).perturb / 32 = _
    rw [h4]
theorem free_spec {m : Nat} {ow : Array (Option Nat)} (sz : ow.size = m + 1) : ∀ (fuel : Nat) {p : SetTable.Probe}, LpS m p → (∃ k, k < fuel ∧ ¬ Occ ow (lpI m p.i p.perturb k).1) →
    ∃ n, SetTable.layClean.free m ow fuel p.i p.perturb = some (advN m p n).j ∧ ¬ Occ ow (advN m p n).j ∧ ∀ k, k < n → Occ ow (advN m p k).j
  | 0, p, _, ⟨k, hk, _⟩ => by omega
  | fuel + 1, p, hp, ⟨k, hk, hf⟩ => by
    have pi := hp.v.i
    obtain ⟨r1, r2, r3⟩ := runEnd_le pi
    have mo := hp.mo
    have ji := hp.ji
    have nn : ∀ a, a ≤ m → ((ow.getD a (some 0)).isNone = true ↔ ¬ Occ ow a) := fun a ha => by
      have hl : a < ow.size := by omega
      rw [Array.getD_eq_getD_getElem?, Array.getElem?_eq_getElem hl]
      show (ow[a]).isNone = true ↔ _
      unfold Occ
      rw [Array.getElem?_toList, Array.getElem?_eq_getElem hl]
      cases ow[a] with
      | none => simp
      | some k => simp
    rw [SetTable.layClean.free]
    cases hq : (List.range (SetTable.runEnd m p.i + 1 - p.i)).find? fun k => (ow.getD (p.i + k) (some 0)).isNone with
    | some k0 =>
      obtain ⟨q1, q2, q3⟩ := List.find?_range_eq_some.mp hq
      have kl := List.mem_range.mp q2
      obtain ⟨_, w2, _, _⟩ := run_more (m := m) k0 (p := p) (by omega)
      refine ⟨k0, by rw [w2, ji], by rw [w2, ji]; exact (nn _ (by omega)).mp q1, fun k hk => ?_⟩
      obtain ⟨_, w2, _, _⟩ := run_more (m := m) k (p := p) (by omega)
      rw [w2, ji]
      have := q3 k hk
      exact Classical.byContradiction fun c => by rw [(nn _ (by omega)).mpr c] at this; cases this
    | none =>
      have all : ∀ a, a ≤ p.more → Occ ow (p.i + a) := fun a ha => Classical.byContradiction fun c => by
        have := List.find?_eq_none.mp hq a (List.mem_range.mpr (by omega))
        exact this ((nn _ (by omega)).mpr c)
      obtain ⟨nx, ni, npe⟩ := hp.next
      have k0 : k ≠ 0 := fun z => hf (by rw [z]; exact all 0 (Nat.zero_le _))
      obtain ⟨n, g1, g2, g3⟩ := free_spec sz fuel nx ⟨k - 1, by omega, by rw [ni, npe, lpI_shift, show k - 1 + 1 = k by omega]; exact hf⟩
      rw [advN_add] at g1 g2
      refine ⟨p.more + 1 + n, ?_, g2, fun k hk => ?_⟩
      · rw [← g1, ni, npe]; rfl
      · by_cases c : k ≤ p.more
        · obtain ⟨_, w2, _, _⟩ := run_more (m := m) k (p := p) c
          rw [w2, ji]; exact all k c
        · have := g3 (k - (p.more + 1)) (by omega)
          rw [advN_add, show p.more + 1 + (k - (p.more + 1)) = k by omega] at this
          exact this
structure OW (m : Nat) (hs : List Int) (ow : Array (Option Nat)) : Prop where
  sz : ow.size = m + 1
  ex : ∀ k, k < hs.length → ∃ j : Nat, ow.toList[j]? = some (some k)
  lt : ∀ (j k : Nat), ow.toList[j]? = some (some k) → k < hs.length
  un : ∀ (j j' k : Nat), ow.toList[j]? = some (some k) → ow.toList[j']? = some (some k) → j = j'
  way : ∀ (j k : Nat) (h : Int), ow.toList[j]? = some (some k) → hs[k]? = some h → ∃ n, (pth m h n).j = j ∧ ∀ i, i < n → Occ ow (pth m h i).j
theorem OW.nil (m : Nat) : OW m [] (Array.replicate (m + 1) none) := by
  have no : ∀ j k, (Array.replicate (m + 1) (none : Option Nat)).toList[j]? ≠ some (some k) := fun j k e => by
    rw [Array.toList_replicate, List.getElem?_replicate] at e
    split at e <;> cases e
  exact ⟨by simp, fun k hk => by simp at hk, fun j k e => absurd e (no j k), fun j j' k e => absurd e (no j k), fun j k h e => absurd e (no j k)⟩
theorem nodup_len : ∀ (a b : List Nat), a.Nodup → (∀ x ∈ a, x ∈ b) → a.length ≤ b.length := fun a => by
  induction a with
  | nil => intro b _ _; simp
  | cons x a ih =>
    intro b nd sub
    obtain ⟨nx, nd'⟩ := List.nodup_cons.mp nd
    have := ih (b.erase x) nd' fun y hy => (List.mem_erase_of_ne (fun e : y = x => nx (e ▸ hy))).mpr (sub y (.tail _ hy))
    have hb := sub x (.head _)
    rw [List.length_erase_of_mem hb] at this
    have := List.length_pos_of_mem hb
    rw [List.length_cons]; omega
theorem OW.free {m : Nat} {hs : List Int} {ow : Array (Option Nat)} (h : OW m hs ow) (hl : hs.length ≤ m) : ∃ j, j ≤ m ∧ ¬ Occ ow j := Classical.byContradiction fun no => by
  have all : ∀ j, j ≤ m → Occ ow j := fun j hj => Classical.byContradiction fun c => no ⟨j, hj, c⟩
  let f : Nat → Nat := fun j => ((ow.toList[j]?).getD none).getD 0
  have fe : ∀ j, j ≤ m → ow.toList[j]? = some (some (f j)) := fun j hj => by
    obtain ⟨k, hk⟩ := all j hj
    show _ = some (some (((ow.toList[j]?).getD none).getD 0))
    rw [hk]; rfl
  have nd : ((List.range (m + 1)).map f).Nodup := by
    refine List.pairwise_map.mpr (List.Pairwise.imp_of_mem (fun {i j} hi hj hij e => ?_) List.nodup_range)
    have hi := List.mem_range.mp hi
    have hj := List.mem_range.mp hj
    have q := fe i (by omega)
    rw [e] at q
    exact hij (h.un i j _ q (fe j (by omega)))
  have := nodup_len _ (List.range hs.length) nd fun x hx => by
    obtain ⟨j, hj, rfl⟩ := List.mem_map.mp hx
    have hj := List.mem_range.mp hj
    exact List.mem_range.mpr (h.lt j _ (fe j (by omega)))
  rw [List.length_map, List.length_range, List.length_range] at this
  omega
theorem OW.step {m : Nat} (hm : MaskOk m) {hs : List Int} {ow : Array (Option Nat)} (h : OW m hs ow) (hl : hs.length ≤ m) (x : Int) :
    ∃ j, SetTable.layClean.free m ow (SetTable.turns m) (SetTable.bits x % (m + 1)) (SetTable.bits x) = some j ∧ OW m (hs ++ [x]) (ow.setIfInBounds j (some hs.length)) := by
  obtain ⟨j0, j1, j2⟩ := h.free hl
  have ps : LpS m (pst m x) := ⟨PV.start m x, rfl, rfl⟩
  obtain ⟨k, _, k1, _, _, k2, _⟩ := cover hm ps.v j1
  obtain ⟨n, n1, n2, n3⟩ := free_spec h.sz (SetTable.turns m) ps ⟨k, by unfold SetTable.turns; omega, by rw [k2]; exact j2⟩
  have jm : (advN m (pst m x) n).j ≤ m := (ps.v.advN n).j
  refine ⟨_, n1, ?_⟩
  have pe : ∀ i, pth m x i = advN m (pst m x) i := fun _ => rfl
  generalize hj : (advN m (pst m x) n).j = j at n2 jm
  have lj : j < ow.toList.length := by rw [Array.length_toList, h.sz]; omega
  have e1 : ∀ i, (ow.setIfInBounds j (some hs.length)).toList[i]? = if j = i then some (some hs.length) else ow.toList[i]? := fun i => by
    rw [Array.toList_setIfInBounds, List.getElem?_set]
    by_cases c : j = i
    · subst c; rw [if_pos rfl, if_pos rfl, if_pos lj]
    · rw [if_neg c, if_neg c]
  have old : ∀ i, Occ ow i → Occ (ow.setIfInBounds j (some hs.length)) i := fun i ⟨k, hk⟩ => by
    unfold Occ
    rw [e1]
    by_cases c : j = i
    · exact ⟨_, by rw [if_pos c]⟩
    · exact ⟨k, by rw [if_neg c]; exact hk⟩
  refine ⟨by rw [Array.size_setIfInBounds]; exact h.sz, fun k hk => ?_, fun i k e => ?_, fun i i' k e e' => ?_, fun i k y e ey => ?_⟩
  · rw [List.length_append, List.length_singleton] at hk
    by_cases c : k = hs.length
    · exact ⟨j, by rw [e1, if_pos rfl, c]⟩
    · obtain ⟨i, hi⟩ := h.ex k (by omega)
      refine ⟨i, ?_⟩
      rw [e1, if_neg fun z => n2 ⟨k, by rw [z]; exact hi⟩]; exact hi
  · rw [e1] at e
    rw [List.length_append, List.length_singleton]
    split at e
    · cases e; omega
    · have := h.lt i k e; omega
  · rw [e1] at e e'
    split at e <;> split at e'
    · rename_i a b; exact a.symm.trans b
    · cases e; have := h.lt _ _ e'; omega
    · cases e'; have := h.lt _ _ e; omega
    · exact h.un i i' k e e'
  · rw [e1] at e
    split at e
    · rename_i c
      cases e
      rw [List.getElem?_append_right (Nat.le_refl _), Nat.sub_self] at ey
      cases ey
      exact ⟨n, by rw [pe, hj]; exact c, fun i hi => old _ (n3 i hi)⟩
    · have kl := h.lt i k e
      rw [List.getElem?_append_left kl] at ey
      obtain ⟨n', q1, q2⟩ := h.way i k y e ey
      exact ⟨n', q1, fun i hi => old _ (q2 i hi)⟩
theorem layClean_ok {m : Nat} (hm : MaskOk m) : ∀ (l : List Int) (hs : List Int) (ow : Array (Option Nat)), OW m hs ow → hs.length + l.length ≤ m + 1 →
    ∃ ow', l.foldl (fun acc h => do
      let (owner, k) ← acc
      let j ← SetTable.layClean.free m owner (SetTable.turns m) (SetTable.bits h % (m + 1)) (SetTable.bits h)
      pure (owner.setIfInBounds j (some k), k + 1)) (some (ow, hs.length)) = some (ow', (hs ++ l).length) ∧ OW m (hs ++ l) ow'
  | [], hs, ow, h, _ => ⟨ow, by simp, by simpa using h⟩
  | x :: l, hs, ow, h, hl => by
    rw [List.length_cons] at hl
    obtain ⟨j, j1, j2⟩ := h.step hm (by omega) x
    obtain ⟨ow', q1, q2⟩ := layClean_ok hm l (hs ++ [x]) _ j2 (by rw [List.length_append, List.length_singleton]; omega)
    refine ⟨ow', ?_, by simpa using q2⟩
    rw [List.foldl_cons]
    have : (do
      let (owner, k) ← (some (ow, hs.length) : Option (Array (Option Nat) × Nat))
      let j ← SetTable.layClean.free m owner (SetTable.turns m) (SetTable.bits x % (m + 1)) (SetTable.bits x)
      pure (owner.setIfInBounds j (some k), k + 1)) = some (ow.setIfInBounds j (some hs.length), (hs ++ [x]).length) := by
      show (SetTable.layClean.free m ow (SetTable.turns m) (SetTable.bits x % (m + 1)) (SetTable.bits x)).bind _ = _
      rw [j1]
      simp
    rw [this, q1]
    simp
end L2
set_option Elab.async false
set_option linter.all false
set_option maxRecDepth 100000
set_option maxHeartbeats 4000000
namespace L2
open PySem PySem.Spec PyProof.Rows
theorem layClean_all {m : Nat} (hm : MaskOk m) (hs : Array Int) (hl : hs.size ≤ m + 1) : ∃ ow, SetTable.layClean m hs = some ow ∧ OW m hs.toList ow := by
  obtain ⟨ow, h1, h2⟩ := layClean_ok hm hs.toList [] _ (OW.nil m) (by simpa using hl)
  refine ⟨ow, ?_, by simpa using h2⟩
  unfold SetTable.layClean
  rw [← Array.foldl_toList]
  have e := h1
  rw [List.length_nil] at e
  rw [e]
  rfl
def liveL (m : Nat) (ow : Array (Option Nat)) : List (Nat × Nat) := (List.range (m + 1)).filterMap fun j => (ow.getD j none).map (j, ·)
theorem liveL_mem {m : Nat} {ow : Array (Option Nat)} (sz : ow.size = m + 1) {j k : Nat} : (j, k) ∈ liveL m ow ↔ ow.toList[j]? = some (some k) := by
  unfold liveL
  rw [List.mem_filterMap]
  constructor
  · rintro ⟨a, ha, e⟩
    have al : a < ow.size := by have := List.mem_range.mp ha; omega
    rw [Array.getD_eq_getD_getElem?, Array.getElem?_eq_getElem al] at e
    have e : (ow[a]).map (a, ·) = some (j, k) := e
    obtain ⟨b, q1, q2⟩ := Option.map_eq_some_iff.mp e
    cases q2
    rw [Array.getElem?_toList, Array.getElem?_eq_getElem al, q1]
  · intro e
    have jl := (List.getElem?_eq_some_iff.mp e).1
    rw [Array.length_toList, sz] at jl
    refine ⟨j, List.mem_range.mpr jl, ?_⟩
    rw [Array.getElem?_toList] at e
    rw [Array.getD_eq_getD_getElem?, e]; rfl
theorem fm_ris {f : Nat → Option (Nat × Nat)} (hf : ∀ j x, f j = some x → x.1 = j) : ∀ {l : List Nat}, l.Pairwise (· < ·) → ((l.filterMap f).map Prod.fst).Pairwise (· < ·)
  | [], _ => by simp
  | a :: l, h => by
    obtain ⟨h1, h2⟩ := List.pairwise_cons.mp h
    have i := fm_ris hf h2
    rw [List.filterMap_cons]
    cases e : f a with
    | none => exact i
    | some x =>
      dsimp only
      rw [List.map_cons, List.pairwise_cons]
      refine ⟨fun b hb => ?_, i⟩
      obtain ⟨y, hy, rfl⟩ := List.mem_map.mp hb
      obtain ⟨c, hc, ec⟩ := List.mem_filterMap.mp hy
      rw [hf a x e, hf c y ec]
      exact h1 c hc
theorem liveL_ris (m : Nat) (ow : Array (Option Nat)) : ((liveL m ow).map Prod.fst).Pairwise (· < ·) := by
  unfold liveL
  refine fm_ris (fun j x e => ?_) List.pairwise_lt_range
  obtain ⟨b, q1, q2⟩ := Option.map_eq_some_iff.mp e
  rw [← q2]
theorem perm_of_mem : ∀ {a b : List Nat}, a.Nodup → b.Nodup → (∀ x, x ∈ a ↔ x ∈ b) → a.Perm b
  | a, b, ha, hb, h => (List.perm_ext_iff_of_nodup ha hb).mpr h
theorem filterMap_some {α β : Type} {f : α → Option β} {g : α → β} : ∀ {l : List α}, (∀ x ∈ l, f x = some (g x)) → l.filterMap f = l.map g
  | [], _ => rfl
  | x :: l, h => by
    rw [List.filterMap_cons, h x (.head _), List.map_cons, filterMap_some fun y hy => h y (.tail _ hy)]
theorem laid_ok {m f mvs : Nat} {led pl : Bool} (hm : MaskOk m) (es : Array (Int × Value)) (hl : es.size ≤ m) :
    ∃ t order L, SetTable.laid m f mvs led pl (es.map (·.1)) = some (t, order) ∧ t.mask = m ∧ t.led = led ∧ t.plain = pl ∧ LY t (order.filterMap (es[·]?)) L ∧ WayI m L ∧ (L.map Prod.snd).Perm es.toList ∧ L.length = es.size ∧ (order.filterMap (es[·]?)).size = es.size := by
  obtain ⟨ow, h1, h2⟩ := layClean_all hm (es.map (·.1)) (by rw [Array.size_map]; omega)
  have hlen : (es.map (·.1)).toList.length = es.size := by simp
  have hsk : ∀ (k : Nat) (e : Int × Value), es.toList[k]? = some e → (es.map (·.1)).toList[k]? = some e.1 := fun k e q => by rw [Array.toList_map, List.getElem?_map, q]; rfl
  have mem := fun {j k : Nat} => liveL_mem (j := j) (k := k) h2.sz
  let g : Nat × Nat → Int × Value := fun x => es.toList.getD x.2 (0, .none)
  have gx : ∀ x ∈ liveL m ow, es.toList[x.2]? = some (g x) := fun x hx => by
    have := h2.lt x.1 x.2 (mem.mp hx)
    rw [hlen] at this
    show _ = some (es.toList.getD x.2 (0, .none))
    rw [List.getD_eq_getElem?_getD, List.getElem?_eq_getElem (by rw [Array.length_toList]; exact this)]; rfl
  have nd2 : ((liveL m ow).map Prod.snd).Nodup := by
    have r := List.pairwise_map.mp (liveL_ris m ow)
    refine List.pairwise_map.mpr (List.Pairwise.imp_of_mem (fun {x y} hx hy hxy e => ?_) r)
    have q1 := mem.mp hx
    have q2 := mem.mp hy
    rw [e] at q1
    have := h2.un _ _ _ q1 q2
    omega
  have p2 : ((liveL m ow).map Prod.snd).Perm (List.range es.size) := by
    refine perm_of_mem nd2 List.nodup_range fun k => ?_
    rw [List.mem_range, ← hlen]
    constructor
    · intro q
      obtain ⟨x, hx, rfl⟩ := List.mem_map.mp q
      exact h2.lt x.1 x.2 (mem.mp hx)
    · intro q
      obtain ⟨j, hj⟩ := h2.ex k q
      exact List.mem_map.mpr ⟨(j, k), mem.mpr hj, rfl⟩
  have ll : (liveL m ow).length = es.size := by
    have := p2.length_eq
    rw [List.length_map, List.length_range] at this; exact this
  have ef : (((liveL m ow).map Prod.snd).toArray.filterMap (es[·]?)).toList = (liveL m ow).map g := by
    rw [Array.toList_filterMap]
    rw [List.filterMap_map]
    refine filterMap_some fun x hx => ?_
    show es[x.2]? = _
    rw [← Array.getElem?_toList]; exact gx x hx
  refine ⟨{ mask := m, place := ((liveL m ow).map Prod.fst).toArray, dummies := #[], finger := f, led := led, moves := mvs, plain := pl }, ((liveL m ow).map Prod.snd).toArray, (liveL m ow).map fun x => (x.1, g x), ?_, rfl, rfl, rfl, ⟨?_, ?_, ?_, rfl, ?_⟩, ?_, ?_, by rw [List.length_map]; exact ll, ?_⟩
  · unfold SetTable.laid
    rw [h1]; rfl
  · show ((liveL m ow).map Prod.fst).toArray.toList = _
    rw [List.map_map]; rfl
  · rw [ef, List.map_map]; rfl
  · rw [List.map_map]
    exact liveL_ris m ow
  · intro x hx
    obtain ⟨y, hy, rfl⟩ := List.mem_map.mp hx
    have := (List.getElem?_eq_some_iff.mp (mem.mp hy)).1
    rw [Array.length_toList, h2.sz] at this
    show y.1 ≤ m
    omega
  · intro x hx
    obtain ⟨y, hy, rfl⟩ := List.mem_map.mp hx
    obtain ⟨n, q1, q2⟩ := h2.way y.1 y.2 (g y).1 (mem.mp hy) (hsk _ _ (gx y hy))
    refine ⟨n, q1, fun k hk => ?_⟩
    obtain ⟨k', hk'⟩ := q2 k hk
    rw [List.map_map]
    exact List.mem_map.mpr ⟨(_, k'), mem.mpr hk', rfl⟩
  · rw [List.map_map]
    have e1 : (liveL m ow).map (Prod.snd ∘ fun x => (x.1, g x)) = ((liveL m ow).map Prod.snd).map fun k => es.toList.getD k (0, .none) := by rw [List.map_map]; rfl
    have e2 : (List.range es.size).map (fun k => es.toList.getD k (0, .none)) = es.toList := by
      refine List.ext_getElem (by simp) fun i q1 q2 => ?_
      rw [List.getElem_map, List.getElem_range, List.getD_eq_getElem?_getD, List.getElem?_eq_getElem q2]; rfl
    rw [e1]
    exact (p2.map _).trans (by rw [e2])
  · rw [← Array.length_toList, ef, List.length_map]; exact ll
end L2
set_option Elab.async false
set_option linter.all false
set_option maxRecDepth 100000
set_option maxHeartbeats 4000000
namespace L2
open PySem PySem.Spec PyProof.Rows
end L2
set_option Elab.async false
set_option linter.all false
set_option maxRecDepth 100000
set_option maxHeartbeats 4000000
namespace L2
open PySem PySem.Spec PyProof.Rows
section
variable {prog : Program} {w : World} {A : Around} {E : Value → Shared → Prop} {s : Shared}
variable {kf : Addr → List Int} {bd : Nat} {a : Addr} {led : Bool} {ks : List (List Int)} {o : Obj} {es : Array (Int × Value)} {ep : Nat} {t : SetTable} {L : List (Nat × (Int × Value))}
theorem mask_odd {m : Nat} (h : MaskOk m) : (m % 2 == 0) = false := by rcases h with rfl | rfl | rfl <;> rfl
end
end L2
set_option Elab.async false
set_option linter.all false
set_option maxRecDepth 100000
set_option maxHeartbeats 4000000
namespace L2
open PySem PySem.Spec PyProof.Rows
section
variable {prog : Program} {w : World} {A : Around} {E : Value → Shared → Prop} {s : Shared}
variable {kf : Addr → List Int} {bd : Nat} {a : Addr} {led : Bool} {ks : List (List Int)} {o : Obj} {es : Array (Int × Value)} {ep : Nat} {t : SetTable} {L : List (Nat × (Int × Value))}
theorem store_at {h : Heap} (es' : Array (Int × Value)) (t' : SetTable) (ho : h.get? a = some o) (hd : o.data = .set es ep t) : (h.update a (Obj.putSet es' t')).get? a = some { o with data := .set es' (ep + 1) t' } := by
  have e := Heap.get?_update_self (Obj.putSet es' t') ho (by rw [putSet_of es' t' hd]; rfl)
  rwa [putSet_of es' t' hd] at e
theorem grown_mask {m n : Nat} (hm : MaskOk m) (h1 : n * 5 < m * 3) (h2 : ¬ (n + 1) * 5 < m * 3) (h3 : n + 1 ≤ 76) : ∃ m', SetTable.sizeAbove (SetTable.grown (n + 1)) - 1 = m' ∧ MaskOk m' ∧ (n + 1) * 5 < m' * 3 ∧ SetTable.sizeAbove (SetTable.grown (n + 1)) ≤ sizeLine := by
  have hs := sizeLine_eq
  rcases hm with rfl | rfl | rfl
  · have : n = 4 := by omega
    subst this
    exact ⟨31, by decide, .inr (.inl rfl), by decide, by rw [hs]; decide⟩
  · have : n = 18 := by omega
    subst this
    exact ⟨127, by decide, .inr (.inr rfl), by decide, by rw [hs]; decide⟩
  · omega
end
end L2
set_option Elab.async false
set_option linter.all false
set_option maxRecDepth 100000
set_option maxHeartbeats 4000000
namespace L2
open PySem PySem.Spec PyProof.Rows
def Leafs {α : Type} (N : Nat) (P : α → Prop) : PySem.W.KasT α → Prop
  | .ret a => P a
  | .ask i j k => i < N ∧ j < N ∧ ∀ b, Leafs N P (k b)
theorem Leafs.bind {α β : Type} {N : Nat} {P : β → Prop} {f : α → PySem.W.KasT β} : ∀ {t : PySem.W.KasT α}, Leafs N (fun a => Leafs N P (f a)) t → Leafs N P (t.bind f)
  | .ret _, h => h
  | .ask _ _ k, h => ⟨h.1, h.2.1, fun b => Leafs.bind (h.2.2 b)⟩
theorem Leafs.mono {α : Type} {N : Nat} {P P' : α → Prop} (hp : ∀ a, P a → P' a) : ∀ {t : PySem.W.KasT α}, Leafs N P t → Leafs N P' t
  | .ret a, h => hp a h
  | .ask _ _ k, h => ⟨h.1, h.2.1, fun b => Leafs.mono hp (h.2.2 b)⟩
section
variable {N : Nat} {r : Array Nat} (hN : 0 < N) (hr : ∀ x ∈ r.toList, x < N)
theorem PermOk {p : Array Nat} (hN : 0 < N) (hr : ∀ x ∈ r.toList, x < N) (h : p.Perm r) (k : Nat) : p.getD k 0 < N := by
  rw [Array.getD_eq_getD_getElem?]
  cases e : p[k]? with
  | none => exact hN
  | some v =>
    rw [← Array.getElem?_toList] at e
    exact hr v (h.toList.mem_iff.mp (List.mem_of_getElem? e))
include hN hr
theorem asc_leaf {p : Array Nat} (h : p.Perm r) {P : Nat → Prop} (hp : ∀ n, P n) : ∀ (f n : Nat), Leafs N P (PySem.W.kas_asc p f n)
  | 0, n => hp n
  | f + 1, n => ⟨PermOk hN hr h _, PermOk hN hr h _, fun c => by
    cases c with
    | true => exact hp n
    | false => exact asc_leaf h hp f (n + 1)⟩
theorem place_leaf {p : Array Nat} (h : p.Perm r) {P : Nat → Prop} (hp : ∀ n, P n) (k : Nat) : ∀ (f l m : Nat), Leafs N P (PySem.W.kas_place p k f l m)
  | 0, l, m => hp l
  | f + 1, l, m => by
    show Leafs N P (if l ≥ m then _ else _)
    split
    · exact hp l
    · refine ⟨PermOk hN hr h _, PermOk hN hr h _, fun c => ?_⟩
      cases c with
      | true => exact place_leaf h hp k f _ _
      | false => exact place_leaf h hp k f _ _
omit hN hr in
theorem rev_leaf {p : Array Nat} (h : p.Perm r) (i j : Nat) : (PySem.W.kas_rev p i j).Perm r := (mirror_perm p i j _).trans h
theorem desc_leaf : ∀ (f : Nat) {p : Array Nat} (n q : Nat), p.Perm r → Leafs N (fun x : Array Nat × Nat × Nat => x.1.Perm r) (PySem.W.kas_desc f p n q)
  | 0, p, n, q, h => h
  | f + 1, p, n, q, h => ⟨PermOk hN hr h _, PermOk hN hr h _, fun c => by
    cases c with
    | true =>
      show Leafs N _ (if q > 0 then _ else _)
      split
      · exact desc_leaf f _ _ (rev_leaf h _ _)
      · exact desc_leaf f _ _ h
    | false =>
      refine ⟨PermOk hN hr h _, PermOk hN hr h _, fun d => ?_⟩
      cases d with
      | true => exact h
      | false => exact desc_leaf f _ _ h⟩
theorem tail_leaf {p : Array Nat} (h : p.Perm r) (n m : Nat) : Leafs N (fun x : Nat × Array Nat => x.2.Perm r) (PySem.W.kas_tail3 n m p) := Leafs.bind (asc_leaf hN hr (rev_leaf h _ _) (fun _ => rev_leaf h _ _) _ _)
theorem part_leaf {p : Array Nat} (h : p.Perm r) (n m : Nat) : Leafs N (fun x : Nat × Array Nat => x.2.Perm r) (PySem.W.kas_descPart n m p) := by
  refine Leafs.bind (Leafs.mono (fun a ha => ?_) (desc_leaf hN hr _ _ _ h))
  split
  · exact tail_leaf hN hr (rev_leaf ha _ _) _ _
  · exact tail_leaf hN hr ha _ _
theorem count_leaf {p : Array Nat} (h : p.Perm r) (m : Nat) : Leafs N (fun x : Nat × Array Nat => x.2.Perm r) (PySem.W.kas_count m p) := by
  refine Leafs.bind (asc_leaf hN hr h (fun n => ?_) _ _)
  split
  · exact h
  · split
    · refine ⟨PermOk hN hr h _, PermOk hN hr h _, fun c => ?_⟩
      cases c with
      | true => exact h
      | false => exact part_leaf hN hr (rev_leaf h _ _) _ _
    · exact part_leaf hN hr h _ _
theorem bin_leaf : ∀ (f : Nat) {p : Array Nat} (k : Nat), p.Perm r → Leafs N (fun x : Array Nat => x.Perm r) (PySem.W.kas_bin f p k)
  | 0, p, k, h => h
  | f + 1, p, k, h => Leafs.bind (place_leaf hN hr h (fun l => bin_leaf f _ ((bubble_perm p _ _).trans h)) _ _ _ _)
end
theorem sort_leaf {n : Nat} (hn : 0 < n) : Leafs n (fun x : Array Nat => x.Perm (List.toArray (List.range n))) (PySem.W.kas_sort n) := by
  have hr : ∀ x ∈ (List.toArray (List.range n)).toList, x < n := fun x hx => List.mem_range.mp (by simpa using hx)
  refine Leafs.bind (Leafs.mono (fun a ha => ?_) (count_leaf hn hr (Array.Perm.refl _) n))
  split
  · exact bin_leaf hn hr _ _ ha
  · exact ha
end L2
set_option Elab.async false
set_option linter.all false
set_option maxRecDepth 100000
set_option maxHeartbeats 4000000
namespace L2
open PySem PySem.Spec PyProof.Rows
end L2
set_option Elab.async false
set_option linter.all false
set_option maxRecDepth 100000
set_option maxHeartbeats 4000000
namespace L2
open PySem PySem.Spec PyProof.Rows
section
variable {prog : Program} {w : World} {A : Around} {R : Result → Shared → Prop} {I S : Addr} {fp wr : List Addr} {n : Nat} {P : Nat → Value → Prop} {St : Nat → Heap → Prop}
structure SetSteps (prog : Program) (w : World) (S I : Addr) (n : Nat) (P : Nat → Value → Prop) (SP : Nat → Heap → Prop) : Prop where
  keep : ∀ i h h', SP i h → (∀ b o, b ≠ I → h.get? b = some o → h'.get? b = some o) → SP i h'
  add : ∀ (A : Around) (E : Value → Shared → Prop) (i : Nat) (v : Value) (s : Shared) (Q : Bool → Shared → Prop), A.units + 8 < cLine → i < n → P i v → SP i s.heap → (∀ h' tk, Heap.SameBut S s.heap h' → SP (i + 1) h' → ∀ b, Q b { s with heap := h', toks := tk }) → wpAny (model prog w) A (setAdd S v) Q E s
theorem set_steps {SP : Nat → Heap → Prop} (W : Walks prog w A.in1 I fp [I] n P St) (T : SetSteps prog w S I n P SP) (hu : A.in1.units + 8 < cLine) (hSf : S ∉ fp) (hIS : S ≠ I) (hfp : I ∈ fp) :
    ∀ (k i : Nat) (s : Shared), n - i = k → i ≤ n → St i s.heap → SP i s.heap →
      (∀ h' tk, (∀ b o, b ≠ S → b ≠ I → s.heap.get? b = some o → h'.get? b = some o) → SP n h' → R (.ok (.ret .none)) { s with heap := h', toks := tk }) →
      codeAny (model prog w) A (.builtin "set.update.loop" ⟨[.ref S, .ref I], []⟩) R s
  | 0, i, s, hk, hi, st, sp, hR => by
    have hin : i = n := by omega
    subst hin
    refine codeAny_builtin PyProof.Rows.F.entry_set_update_loop ?_
    rw [Around.under_plainId PyProof.Rows.F.plain_set_update_loop _]
    refine show wpAny _ A.in1 (pyNext (.ref I) >>= _) _ _ s from wpAny_bind (W.done s _ _ st fun h' tk kk => ?_)
    refine show wpAny _ A.in1 (ret Value.none) _ _ _ from wpAny_pure (hR h' tk (fun b o _ hb e => kk b o (by simpa using hb) e) (T.keep _ _ _ sp fun b o hb e => kk b o (by simpa using hb) e))
  | k + 1, i, s, hk, hi, st, sp, hR => by
    have hlt : i < n := by omega
    refine codeAny_builtin PyProof.Rows.F.entry_set_update_loop ?_
    rw [Around.under_plainId PyProof.Rows.F.plain_set_update_loop _]
    refine show wpAny _ A.in1 (pyNext (.ref I) >>= _) _ _ s from wpAny_bind (W.item i s _ _ hlt st fun v h1 tk hP st1 kk => ?_)
    have sp1 := T.keep _ _ _ sp fun b o hb e => kk b o (by simpa using hb) e
    refine show wpAny _ A.in1 (holding [v] (setAdd S v) >>= _) _ _ _ from wpAny_bind (wpAny_holding (T.add _ _ i v { s with heap := h1, toks := tk } _ hu hlt hP sp1 fun h2 tk2 sb sp2 _ => ?_))
    refine wpAny_pure ⟨plainId_quiet PyProof.Rows.F.plain_set_update_loop _, set_steps W T hu hSf hIS hfp k (i + 1) _ (by omega) hlt (W.frame _ _ _ st1 fun b hb o e => ?_) sp2 fun h3 tk3 k3 sp3 => ?_⟩
    · exact (sb.2 b fun z => hSf (z ▸ hb)).trans e
    · exact hR h3 tk3 (fun b o h1 h2 e => k3 b o h1 h2 ((sb.2 b h1).trans (kk b o (by simpa using h2) e))) sp3
end
section
variable {prog : Program} {w : World} {A : Around} {E : Value → Shared → Prop} {s : Shared}
theorem call_setG {l : Addr} {items : Array Value} {SP : Nat → Heap → Prop} {Q : Value → Shared → Prop} (hh : A.handled = none) (hu : A.units + 16 < cLine) (hl : s.heap.IsList l items)
    (T : SetSteps prog w s.heap.objs.size (s.heap.objs.size + 1) items.size (fun i v => items[i]? = some v) SP)
    (h0 : ∀ h : Heap, h.get? s.heap.objs.size = some (setO (!w.params.followText "set-order")) → (∀ b o, s.heap.get? b = some o → h.get? b = some o) → SP 0 h)
    (h : ∀ (h' : Heap) (tk : Nat), SP items.size h' → (∀ b o, b < s.heap.objs.size → s.heap.get? b = some o → h'.get? b = some o) → Q (.ref s.heap.objs.size) { s with heap := h', toks := tk }) :
    wpAny (model prog w) A (call (.type "set") [.ref l]) Q E s := by
  obtain ⟨ol, hol, hcl, nl, hdl⟩ := hl
  obtain ⟨c, tl, hmro⟩ := PySem.F.called_set.mro
  have hmade := PySem.F.called_set.made
  have hsub := PySem.F.called_set.sub
  have h1 := PySem.F.called_set.notType
  have h2 := PySem.F.called_set.canCreate
  have hct := PySem.F.typeCall_set_1 (.ref l)
  refine wpAny_call (codeAny_of_tree (show wpAny _ _ (callAny (.type "set") _) _ _ _ from wpAny_pure ⟨Code.quiet_builtin _ (by decide +kernel), codeAny_builtin PySem.F.entry_type_call ?_⟩))
  rw [Around.under_plain (weight_type_call_type "set" [.ref l] []) rfl]
  repeat (any_goals (first | assumption | wp_step))
  refine codeAny_mono (set_newL (.ref l) (E := E) (Q₁ := fun obj s₁ => obj = .ref s.heap.objs.size ∧ s₁ = { s with heap := s.heap.push (setO (!w.params.followText "set-order")) }) ⟨rfl, rfl⟩) fun r s₁ hr => ?_
  cases r with
  | error e => exact hr
  | ok fl =>
    cases fl with
    | ret obj =>
      obtain ⟨rfl, rfl⟩ := hr
      have hS : (s.heap.push (setO (!w.params.followText "set-order"))).get? s.heap.objs.size = some (setO (!w.params.followText "set-order")) := Heap.get?_push_size _ rfl
      have hT : Shared.TypeIs { s with heap := s.heap.push (setO (!w.params.followText "set-order")) } (.ref s.heap.objs.size) "set" := ⟨_, hS, rfl⟩
      have hli := PySem.F.called_set.init.lookup
      have hbi := PySem.F.called_set.init.bind (.ref s.heap.objs.size)
      repeat (any_goals (first | assumption | wp_step))
      refine codeAny_mono (codeAny_call_builtin (R := wants (fun r s₂ => r = .none ∧ ∃ h' tk, s₂ = { s with heap := h', toks := tk } ∧ SP items.size h' ∧ (∀ b o, b < s.heap.objs.size → s.heap.get? b = some o → h'.get? b = some o)) E) PySem.F.called_set.init.plain PySem.F.entry_set_init (check_set_init_1 hT ?_)) fun r₂ s₂ hr₂ => ?_
      · have hol' : (s.heap.push (setO (!w.params.followText "set-order"))).get? l = some ol := Heap.get?_push_of_some _ hol
        have hTl : Shared.TypeIs { s with heap := s.heap.push (setO (!w.params.followText "set-order")) } (.ref l) "list" := ⟨_, hol', hcl⟩
        have hsls := PySem.F.sub_list_set
        have hslf := PySem.F.sub_list_frozenset
        have hne : (Value.type "list" == Value.type "dict") = false := by decide
        have hsp : (s.heap.push (setO (!w.params.followText "set-order"))).objs.size = s.heap.objs.size + 1 := Heap.size_push ..
        have hlS : l < s.heap.objs.size := Heap.lt_size hol
        unfold Builtin.«set.__init__» noKeywords Builtin.Frozenset.updateFrom
        generalize hPI : pyIter = PI
        wp_walk
        subst hPI
        refine wpAny_pyIter_list ⟨ol, hol', hcl, nl, hdl⟩ ?_
        rw [hsp]
        refine wpAny_bind (wpAny_runValue ?_)
        have hSf : s.heap.objs.size ∉ [s.heap.objs.size + 1, l] := by
          simp only [List.mem_cons, List.not_mem_nil, or_false, not_or]
          exact ⟨Nat.ne_of_lt (Nat.lt_succ_self _), Nat.ne_of_gt hlS⟩
        have kp : ∀ b o, s.heap.get? b = some o → ((s.heap.push (setO (!w.params.followText "set-order"))).push { cls := .type "list_iterator", data := .fields #[.ref l, .int 0 0] }).get? b = some o := fun b o e => Heap.get?_push_of_some _ (Heap.get?_push_of_some _ e)
        refine set_steps (Walks.list (by simp [hh]) (s.heap.objs.size + 1) l (Nat.ne_of_lt (Nat.lt_succ_of_lt hlS)) items) T (by show _ < _; simp; omega) hSf (Nat.ne_of_lt (Nat.lt_succ_self _)) (by simp) (items.size - 0) 0 _ rfl (Nat.zero_le _) ⟨⟨_, by rw [← hsp]; exact Heap.get?_push_size _ rfl, rfl, rfl⟩, ol, kp _ _ hol, hcl, nl, hdl⟩ (h0 _ (Heap.get?_push_of_some _ hS) kp) fun h' tk kk sp => ?_
        refine show wpAny _ _ _ _ _ _ from wpAny_pure (show wpAny _ _ (ret Value.none) _ _ _ from wpAny_pure ⟨rfl, h', tk, rfl, sp, fun b o hb e => kk b o (Nat.ne_of_lt hb) (Nat.ne_of_lt (Nat.lt_succ_of_lt hb)) (kp b o e)⟩)
      · cases r₂ with
        | error e => exact hr₂
        | ok fl₂ =>
          cases fl₂ with
          | ret r =>
            obtain ⟨rfl, h', tk, rfl, hS', hk'⟩ := hr₂
            repeat (any_goals (first | assumption | wp_step))
            exact h _ _ hS' hk'
          | _ => exact hr₂.elim
    | _ => exact hr.elim
end
end L2
set_option Elab.async false
set_option linter.all false
set_option maxRecDepth 100000
set_option maxHeartbeats 4000000
namespace L2
open PySem PySem.Spec PyProof.Rows
end L2
set_option Elab.async false
set_option linter.all false
set_option maxRecDepth 100000
set_option maxHeartbeats 4000000
namespace L2
open PySem PySem.Spec PyProof.Rows
structure SR (h : Heap) (a : Addr) (o : Obj) (es : Array (Int × Value)) (ep : Nat) (t : SetTable) : Prop where
  at_ : h.get? a = some o
  ct : o.cls = .type "set"
  dt : o.data = .set es ep t
  fits : t.fits es.size = true
  ris : t.place.toList.Pairwise (· < ·)
  pl : t.plain = true
  sz : es.size < 1000
theorem SR.keep {h h' : Heap} {a : Addr} {o : Obj} {es : Array (Int × Value)} {ep : Nat} {t : SetTable} (x : SR h a o es ep t) (k : h'.get? a = some o) : SR h' a o es ep t := ⟨k, x.ct, x.dt, x.fits, x.ris, x.pl, x.sz⟩
theorem below_uniq {xs : Array Nat} (hr : xs.toList.Pairwise (· < ·)) {i j : Nat} (h1 : ∀ k, k < i → ∀ v, xs.toList[k]? = some v → v < j) (h2 : ∀ k, i ≤ k → ∀ v, xs.toList[k]? = some v → j ≤ v) (hi : i ≤ xs.size) : SetTable.below xs j = i := by
  obtain ⟨q1, q2, q3⟩ := below_ok hr j
  by_cases c : SetTable.below xs j < i
  · have hl : SetTable.below xs j < xs.toList.length := by rw [Array.length_toList]; omega
    have a1 := h1 _ c _ (List.getElem?_eq_getElem hl)
    have a2 := q2 _ (Nat.le_refl _) _ (List.getElem?_eq_getElem hl)
    omega
  · by_cases d : i < SetTable.below xs j
    · have hl : i < xs.toList.length := by rw [Array.length_toList]; omega
      have a1 := q1 _ d _ (List.getElem?_eq_getElem hl)
      have a2 := h2 _ (Nat.le_refl _) _ (List.getElem?_eq_getElem hl)
      omega
    · omega
def slotN (t : SetTable) : Nat → Nat
  | 0 => 0
  | i + 1 => t.place.getD i 0 + 1
theorem slotN_below {t : SetTable} (hr : t.place.toList.Pairwise (· < ·)) : ∀ {i : Nat}, i ≤ t.place.size → SetTable.below t.place (slotN t i) = i
  | 0, _ => below_uniq hr (fun k hk => by omega) (fun k _ v _ => Nat.zero_le _) (Nat.zero_le _)
  | i + 1, h => by
    have hl : i < t.place.toList.length := by rw [Array.length_toList]; omega
    have e : t.place.toList[i]? = some (t.place.getD i 0) := by
      rw [Array.getElem?_toList, Array.getD_eq_getD_getElem?, Array.getElem?_eq_getElem (by omega)]; rfl
    have pw := List.pairwise_iff_getElem.mp hr
    refine below_uniq hr (fun k hk v hv => ?_) (fun k hk v hv => ?_) h
    · show v < t.place.getD i 0 + 1
      obtain ⟨lk, ek⟩ := List.getElem?_eq_some_iff.mp hv
      obtain ⟨li, ei⟩ := List.getElem?_eq_some_iff.mp e
      by_cases c : k = i
      · subst c; rw [hv] at e; cases e; omega
      · have := pw k i lk li (by omega)
        omega
    · show t.place.getD i 0 + 1 ≤ v
      obtain ⟨lk, ek⟩ := List.getElem?_eq_some_iff.mp hv
      obtain ⟨li, ei⟩ := List.getElem?_eq_some_iff.mp e
      have := pw i k li lk (by omega)
      omega
section
variable {prog : Program} {w : World} {A : Around} {E : Value → Shared → Prop} {s : Shared}
variable {I a : Addr} {o : Obj} {es : Array (Int × Value)} {ep : Nat} {t : SetTable}
theorem sitR_open {f : Value} {i : Nat} {Q : Option Value → Shared → Prop} (x : SIt s.heap I f i a es.size ep) (y : SR s.heap a o es ep t) {sl : Nat} (ef : f = .int sl 0)
    (h : wpAny (model prog w) A.in1 (do
          match ← setNext a sl i ep with
          | some (x, next) =>
            setField (.ref I) 0 (rawInt next)
            setField (.ref I) 1 (rawInt (i + 1))
            ret x
          | none => setField (.ref I) 2 .none; raiseNew (← newExc (.type "StopIteration") []))
      (fun fin s' => ∃ v, fin = Fin.done (Flow.ret v) ∧ Q (some v) s') (fun e s' => wpAny (model prog w) A (do if (← isInstance e (.type "StopIteration")) = true then pure none else throw e) Q E s') s) :
    wpAny (model prog w) A (pyNext (.ref I)) Q E s := by
  subst ef
  obtain ⟨oi, hi, ci, di⟩ := id x
  unfold pyNext
  refine wpAny_bind (wpAny_attempt (wpAny_callSpecial?_slot (name := Str.ofString "__next__") x.ty sit_next (wpAny_call_entry sit_next x.ty sit_entry ?_ (sit_args _))))
  unfold Builtin.«set_iterator.__next__»
  refine wpAny_bind (wpAny_pure (wpAny_bind (wpAny_fieldsOf hi di ?_)))
  dsimp only
  refine wpAny_bind (wpAny_setEntries_of y.at_ y.dt y.fits ?_)
  rw [if_neg (by simp)]
  refine wpAny_mono ?_ (Q := fun fin s' => ∃ v, fin = Fin.done (Flow.ret v) ∧ Q (some v) s') (fun fin s' ⟨v, e, q⟩ => ⟨v, e, wpAny_pure q⟩) fun _ _ q => q
  simp only [Int.toNat_natCast]
  exact h
theorem sitR_int {sl i nx : Nat} {v : Value} {Q : Option Value → Shared → Prop} (x : SIt s.heap I (.int sl 0) i a es.size ep) (y : SR s.heap a o es ep t)
    (hx : ∀ (A' : Around) (E' : Value → Shared → Prop) (Q' : Option (Value × Nat) → Shared → Prop), Q' (some (v, nx)) s → wpAny (model prog w) A' (setNext a sl i ep) Q' E' s)
    (hQ : ∀ h', SIt h' I (.int nx 0) (i + 1) a es.size ep → Heap.SameBut I s.heap h' → Q (some v) { s with heap := h' }) : wpAny (model prog w) A (pyNext (.ref I)) Q E s := by
  refine sitR_open x y rfl (wpAny_bind (hx _ _ _ ?_))
  obtain ⟨oi, hi, ci, di⟩ := id x
  obtain ⟨o1, g1, c1, d1⟩ := SIt.upd hi ci di 0 (rawInt nx)
  dsimp only
  refine wpAny_bind (wpAny_setField hi di (by simp) (wpAny_bind (wpAny_setField g1 d1 (by simp) (wpAny_pure ⟨v, rfl, hQ _ ?_ ((Heap.SameBut.update ..).trans (Heap.SameBut.update ..))⟩))))
  exact ⟨_, Heap.get?_update_self _ g1 (Obj.isFreed_of_fields (Obj.data_mapFields d1 _)), (Obj.cls_mapFields ..).trans c1, by rw [Obj.data_mapFields d1]; simp [rawInt]⟩
theorem sitR_end {sl i : Nat} {Q : Option Value → Shared → Prop} (hh : A.handled = none) (x : SIt s.heap I (.int sl 0) i a es.size ep) (y : SR s.heap a o es ep t)
    (hx : ∀ (A' : Around) (E' : Value → Shared → Prop) (Q' : Option (Value × Nat) → Shared → Prop), Q' none s → wpAny (model prog w) A' (setNext a sl i ep) Q' E' s)
    (hQ : ∀ h', (∀ b o, b ≠ I → s.heap.get? b = some o → h'.get? b = some o) → Q none { s with heap := h' }) : wpAny (model prog w) A (pyNext (.ref I)) Q E s := by
  refine sitR_open x y rfl (wpAny_bind (hx _ _ _ ?_))
  obtain ⟨oi, hi, ci, di⟩ := id x
  dsimp only
  refine wpAny_bind (wpAny_setField hi di (by simp) ?_)
  exact stop_met hh fun h' k => hQ h' fun b o hb e => k b o ((Heap.get?_update_other _ _ (Ne.symm hb)).trans e)
theorem nextR_text {sl i : Nat} {Q : Option (Value × Nat) → Shared → Prop} (hB : w.params.followText "set-order" = true) (y : SR s.heap a o es ep t)
    (h : Q (((pickOrder (w.params.setOrder a ep) es)[i]?).map fun e => (e.2, sl)) s) : wpAny (model prog w) A (setNext a sl i ep) Q E s := by
  unfold setNext setsByText
  refine wpAny_bind (wpAny_setState_of y.at_ y.dt y.fits ?_)
  dsimp only
  refine wpAny_bind (wpAny_bind (wpAny_askSetting (wpAny_pure (wpAny_ite_split (fun _ => wpAny_ite_split (fun q => absurd q (by simp)) (fun _ => ?_)) (fun q => absurd hB q)))))
  unfold setWalk setsByText
  refine wpAny_bind (wpAny_bind (wpAny_setState_of y.at_ y.dt y.fits ?_))
  dsimp only
  exact wpAny_bind (wpAny_bind (wpAny_askSetting (wpAny_pure (wpAny_ite_split (fun _ => wpAny_bind (wpAny_askSetting (wpAny_pure (wpAny_pure h)))) (fun q => absurd hB q)))))
theorem nextR_slot {i : Nat} {Q : Option (Value × Nat) → Shared → Prop} (hB : w.params.followText "set-order" = false) (y : SR s.heap a o es ep t) (ld : t.led = true) {sl g : Nat}
    (h : Q (match es[SetTable.below t.place sl]?, t.place[SetTable.below t.place sl]? with | some (_, x), some j => some (x, j + 1) | _, _ => none) s) : wpAny (model prog w) A (setNext a sl g ep) Q E s := by
  unfold setNext setsByText
  refine wpAny_bind (wpAny_setState_of y.at_ y.dt y.fits ?_)
  dsimp only
  refine wpAny_bind (wpAny_bind (wpAny_askSetting (wpAny_pure (wpAny_ite_split (fun q => absurd q (show ¬ w.params.followText "set-order" = true by rw [hB]; decide)) (fun _ => ?_)))))
  refine wpAny_ite_split (fun q => ?_) (fun _ => ?_)
  · have q' : (!t.plain && decide (es.size > 1)) = true := q
    rw [y.pl] at q'; cases q'
  refine wpAny_bind (show wpAny _ _ (if (!t.led && !es.isEmpty) = true then unsupported _ else pure ()) _ _ _ from ?_)
  exact wpAny_ite_split (fun q => absurd q (by rw [ld]; simp)) (fun _ => wpAny_pure (wpAny_pure h))
theorem walkR_text (hne : a ≠ I) (hB : w.params.followText "set-order" = true) (hh : A.handled = none) :
    Walks prog w A I [I, a] [I] ((pickOrder (w.params.setOrder a ep) es).toList.map (·.2)).length (fun i v => ((pickOrder (w.params.setOrder a ep) es).toList.map (·.2))[i]? = some v)
      (fun i h => SIt h I (.int (0 : Nat) 0) i a es.size ep ∧ SR h a o es ep t) where
  sub := fun b hb => by simp at hb; simp [hb]
  frame := fun _ _ _ st hk => ⟨st.1.keep fun o e => hk I (by simp) o e, st.2.keep (hk a (by simp) _ st.2.at_)⟩
  item := fun i s Q E hi st hQ => by
    rw [List.length_map] at hi
    have hg := List.getElem?_eq_getElem hi
    generalize (pickOrder (w.params.setOrder a ep) es).toList[i] = e at hg
    refine sitR_int (v := e.2) (nx := 0) st.1 st.2 (fun A' E' Q' q => nextR_text hB st.2 ?_) fun h' x' k => hQ e.2 h' s.toks (by rw [List.getElem?_map, hg]; rfl) ⟨x', st.2.keep ((k.2 a hne).trans st.2.at_)⟩ fun b o hb g => (k.2 b (by simpa using hb)).trans g
    rw [← Array.getElem?_toList, hg]; exact q
  done := fun s Q E st hQ => by
    refine sitR_end hh st.1 st.2 (fun A' E' Q' q => nextR_text hB st.2 ?_) fun h' k => hQ h' s.toks fun b o hb g => k b o (by simpa using hb) g
    rw [← Array.getElem?_toList, List.length_map, List.getElem?_eq_none (Nat.le_refl _)]; exact q
  self := fun _ _ _ _ st hQ => sit_self st.1 hQ
theorem walkR_slot (hne : a ≠ I) (hB : w.params.followText "set-order" = false) (ld : t.led = true) (hp : t.place.size = es.size) (hh : A.handled = none) :
    Walks prog w A I [I, a] [I] (es.toList.map (·.2)).length (fun i v => (es.toList.map (·.2))[i]? = some v)
      (fun i h => SIt h I (.int (slotN t i : Nat) 0) i a es.size ep ∧ SR h a o es ep t) where
  sub := fun b hb => by simp at hb; simp [hb]
  frame := fun _ _ _ st hk => ⟨st.1.keep fun o e => hk I (by simp) o e, st.2.keep (hk a (by simp) _ st.2.at_)⟩
  item := fun i s Q E hi st hQ => by
    rw [List.length_map, Array.length_toList] at hi
    have hb := slotN_below st.2.ris (i := i) (by omega)
    have he : es[i]? = some es[i] := Array.getElem?_eq_getElem hi
    have hj : t.place[i]? = some (t.place.getD i 0) := by rw [Array.getD_eq_getD_getElem?, Array.getElem?_eq_getElem (by omega)]; rfl
    generalize es[i] = e at he
    refine sitR_int (v := e.2) (nx := slotN t (i + 1)) st.1 st.2 (fun A' E' Q' q => nextR_slot (i := i) hB st.2 ld ?_) fun h' x' k => hQ e.2 h' s.toks (by rw [List.getElem?_map, Array.getElem?_toList, he]; rfl) ⟨x', st.2.keep ((k.2 a hne).trans st.2.at_)⟩ fun b o hb g => (k.2 b (by simpa using hb)).trans g
    rw [hb, he, hj]; exact q
  done := fun s Q E st hQ => by
    rw [List.length_map, Array.length_toList] at st
    refine sitR_end hh st.1 st.2 (fun A' E' Q' q => nextR_slot (i := 0) hB st.2 ld ?_) fun h' k => hQ h' s.toks fun b o hb g => k b o (by simpa using hb) g
    rw [slotN_below st.2.ris (i := es.size) (by omega), Array.getElem?_eq_none (Nat.le_refl _)]
    exact q
  self := fun _ _ _ _ st hQ => sit_self st.1 hQ
end
end L2
set_option Elab.async false
set_option linter.all false
set_option maxRecDepth 100000
set_option maxHeartbeats 4000000
namespace L2
open PySem PySem.Spec PyProof.Rows
section
variable {prog : Program} {w : World} {A : Around} {E : Value → Shared → Prop} {s : Shared}
variable {a : Addr} {o : Obj} {es : Array (Int × Value)} {ep : Nat} {t : SetTable}
theorem iterR {Q : Value → Shared → Prop} (y : SR s.heap a o es ep t) (ld : t.led = !w.params.followText "set-order") (hp : t.place.size = es.size)
    (hQ : ∀ (h' : Heap) (vs : List Value) (St : Nat → Heap → Prop), (∀ b o, s.heap.get? b = some o → h'.get? b = some o) → h'.objs.size = s.heap.objs.size + 1 → vs.Perm (es.toList.map (·.2)) →
      (∀ A' : Around, A'.handled = none → Walks prog w A' s.heap.objs.size [s.heap.objs.size, a] [s.heap.objs.size] vs.length (fun i v => vs[i]? = some v) St) → St 0 h' → Q (.ref s.heap.objs.size) { s with heap := h' }) :
    wpAny (model prog w) A (pyIter (.ref a)) Q E s := by
  have hlt : a < s.heap.objs.size := Heap.lt_size y.at_
  have hT : s.TypeIs (.ref a) "set" := ⟨o, y.at_, y.ct⟩
  refine wpAny_pyIter_slot hT PySem.F.slot_set_iter (wpAny_call_entry PySem.F.slot_set_iter hT set_iter_entry ?_ (PySem.F.args_set_iter_1 _))
  unfold Builtin.«frozenset.__iter__» Builtin.Frozenset.slot0 Builtin.Frozenset.sizeOf
  refine wpAny_bind (wpAny_bind (wpAny_pure (wpAny_pure (wpAny_bind (wpAny_bind (wpAny_setEntries_of y.at_ y.dt y.fits (wpAny_pure ?_)))))))
  unfold setDrawn setsByText
  refine wpAny_bind (wpAny_bind (wpAny_setState_of y.at_ y.dt y.fits ?_))
  dsimp only
  refine wpAny_bind (wpAny_bind (wpAny_askSetting (wpAny_pure (wpAny_pure ?_))))
  refine wpAny_ite_split (fun q => ?_) (fun _ => ?_)
  · have q' : (!w.params.followText "set-order" && (!t.plain && decide (es.size > 1))) = true := q
    rw [y.pl] at q'
    simp at q'
  refine wpAny_bind (wpAny_pure (wpAny_bind (wpAny_setEpoch_of y.at_ y.dt y.fits ?_)))
  unfold newFields
  refine wpAny_bind (wpAny_newObj_type (wpAny_pure ?_) (by size_fits))
  have hI : (s.heap.push { cls := .type "set_iterator", data := .fields #[rawInt 0, rawInt 0, .ref a, rawInt es.size, rawInt ep] }).get? s.heap.objs.size = some { cls := .type "set_iterator", data := .fields #[rawInt 0, rawInt 0, .ref a, rawInt es.size, rawInt ep] } := Heap.get?_push_size _ rfl
  have kp : ∀ b o, s.heap.get? b = some o → (s.heap.push { cls := .type "set_iterator", data := .fields #[rawInt 0, rawInt 0, .ref a, rawInt es.size, rawInt ep] }).get? b = some o := fun b o e => Heap.get?_push_of_some _ e
  refine ⟨_, rfl, "set_iterator", _, ⟨_, hI, rfl⟩, sit_next.lookup, ?_⟩
  by_cases hB : w.params.followText "set-order" = true
  · exact hQ _ _ _ kp (Heap.size_push ..) ((pick_perm (w.params.setOrder a ep) es).map _) (fun A' hh => walkR_text (o := o) (t := t) (Nat.ne_of_lt hlt) hB hh) ⟨⟨_, hI, rfl, rfl⟩, y.keep (kp _ _ y.at_)⟩
  · have hB' : w.params.followText "set-order" = false := by simpa using hB
    exact hQ _ _ _ kp (Heap.size_push ..) (List.Perm.refl _) (fun A' hh => walkR_slot (o := o) (ep := ep) (Nat.ne_of_lt hlt) hB' (by rw [ld, hB']; rfl) hp hh) ⟨⟨_, hI, rfl, rfl⟩, y.keep (kp _ _ y.at_)⟩
theorem collectR {R : List Value → Shared → Prop} (y : SR s.heap a o es ep t) (ld : t.led = !w.params.followText "set-order") (hp : t.place.size = es.size) (hh : A.handled = none)
    (h : ∀ (h' : Heap) (tk : Nat) (vs : List Value), (∀ b o, s.heap.get? b = some o → h'.get? b = some o) → s.heap.objs.size ≤ h'.objs.size → vs.Perm (es.toList.map (·.2)) → R vs { s with heap := h', toks := tk }) :
    wpAny (model prog w) A (collect (.ref a)) R E s := by
  have hlt : a < s.heap.objs.size := Heap.lt_size y.at_
  have hsz := sizeLine_eq
  unfold collect
  refine wpAny_bind (wpAny_runValue (codeAny_builtin entry_proto_collect' ?_))
  rw [Around.under_plainId PySem.F.plain_proto_collect _]
  refine show wpAny _ A.in1 (newList [] >>= fun l => again (.builtin "list.__iadd__" ⟨[l, .ref a], []⟩)) _ _ s from ?_
  refine wpAny_bind (wpAny_newObj_type (wpAny_pure ⟨plainId_quiet PySem.F.plain_list_iadd _, codeAny_builtin entry_list_iadd' ?_⟩))
  rw [Around.under_plainId PySem.F.plain_list_iadd _]
  have hS : (s.heap.push { cls := .type "list", data := .seq ([] : List Value).toArray }).get? s.heap.objs.size = some { cls := .type "list", data := .seq #[] } := Heap.get?_push_size _ rfl
  have k0 : ∀ b o, s.heap.get? b = some o → (s.heap.push { cls := .type "list", data := .seq ([] : List Value).toArray }).get? b = some o := fun b o e => Heap.get?_push_of_some _ e
  have s0 : (s.heap.push { cls := .type "list", data := .seq ([] : List Value).toArray }).objs.size = s.heap.objs.size + 1 := Heap.size_push ..
  refine show wpAny _ A.in1 (Builtin.List.listExtendWith (.ref s.heap.objs.size) (.ref a) (.ref s.heap.objs.size)) _ _ { s with heap := s.heap.push { cls := .type "list", data := .seq ([] : List Value).toArray } } from ?_
  generalize s.heap.push { cls := .type "list", data := .seq ([] : List Value).toArray } = h0 at hS k0 s0
  have y0 := y.keep (k0 _ _ y.at_)
  have hT : ({ s with heap := h0 } : Shared).TypeIs (.ref a) "set" := ⟨o, y0.at_, y.ct⟩
  have hSa : s.heap.objs.size ≠ a := Nat.ne_of_gt hlt
  unfold Builtin.List.listExtendWith
  refine wpAny_bind (wpAny_typeOf (T := "set") hT ?_)
  simp only [show Builtin.List.listSameRef (.ref s.heap.objs.size) (.ref a) = false by simp [Builtin.List.listSameRef, hSa], show (Value.type "set" == Value.type "list") = false by decide, show (Value.type "set" == Value.type "tuple") = false by decide, Bool.or_false, Bool.false_eq_true, if_false]
  refine wpAny_bind (iterR (s := { s with heap := h0 }) y0 ld hp fun h1 vs St k1 z1 hvp W st => ?_)
  have vl : vs.length = es.size := by rw [hvp.length_eq, List.length_map, Array.length_toList]
  have hT1 : ({ s with heap := h1 } : Shared).TypeIs (.ref a) "set" := ⟨o, k1 _ _ y0.at_, y.ct⟩
  have hS1 := k1 _ _ hS
  have hSf : s.heap.objs.size ∉ [h0.objs.size, a] := by
    rw [s0, List.mem_cons, List.mem_singleton, not_or]
    exact ⟨Nat.ne_of_lt (Nat.lt_succ_self _), hSa⟩
  have key : ∀ (h : Heap) (c1 : Nat), St 0 h → (∀ b o, b ≠ s.heap.objs.size → h1.get? b = some o → h.get? b = some o) → h.get? s.heap.objs.size = some { cls := .type "list", data := .seq #[] c1 } →
      codeAny (model prog w) A (.builtin "list.extend.loop" ⟨[.ref s.heap.objs.size, .ref h0.objs.size, .ref s.heap.objs.size], []⟩) (fun q s' => ∃ h' tk acc c, q = .ok (.ret (.ref s.heap.objs.size)) ∧ s' = { s with heap := h', toks := tk } ∧ (∀ b o, s.heap.get? b = some o → h'.get? b = some o) ∧ h'.get? s.heap.objs.size = some { cls := .type "list", dict := none, data := .seq acc c, slots := #[] } ∧ acc.toList = vs) { s with heap := h } := by
    intro h c1 st' kk hS'
    refine codeAny_extend_loopS (W A.in1 hh).toS (by rw [vl, hsz]; have := y.sz; omega) s.heap.objs.size hSf (.ref s.heap.objs.size) vs.length 0 _ #[] c1 rfl (Nat.zero_le _) st' hS' (ItemsOf.nil _) fun s' acc c' hm hS2 hacc => ?_
    refine ⟨s'.heap, s'.toks, acc, c', rfl, (by have q := Moved.eq_with hm; exact q), fun b o e => ?_, hS2, ?_⟩
    · have hb := Heap.lt_size e
      refine hm.heap b o (fun q => ?_) (kk b o (Nat.ne_of_lt hb) (k1 b o (k0 b o e)))
      rcases List.mem_cons.mp q with q | q
      · exact Nat.ne_of_lt hb q
      · have q := List.mem_singleton.mp q
        rw [show ({ s with heap := h0 } : Shared).heap.objs.size = s.heap.objs.size + 1 from s0] at q
        exact Nat.ne_of_lt (Nat.lt_succ_of_lt hb) q
    · refine List.ext_getElem? fun j => ?_
      by_cases c : j < vs.length
      · have hj : j < acc.size := by rw [hacc.1]; exact c
        have := hacc.2 j acc[j] (Array.getElem?_eq_getElem hj)
        rw [this, Array.getElem?_toList, Array.getElem?_eq_getElem hj]
      · rw [List.getElem?_eq_none (by rw [Array.length_toList, hacc.1]; omega), List.getElem?_eq_none (by omega)]
  have fin : ∀ (q : Result) (s' : Shared), (∃ h' tk acc c, q = .ok (.ret (.ref s.heap.objs.size)) ∧ s' = { s with heap := h', toks := tk } ∧ (∀ b o, s.heap.get? b = some o → h'.get? b = some o) ∧ h'.get? s.heap.objs.size = some { cls := .type "list", dict := none, data := .seq acc c, slots := #[] } ∧ acc.toList = vs) → ∃ (h' : Heap) (tk : Nat) (c : Nat) (acc : Array Value), q = .ok (.ret (.ref s.heap.objs.size)) ∧ s' = { s with heap := h', toks := tk } ∧ h'.get? s.heap.objs.size = some { cls := .type "list", dict := none, data := .seq acc c, slots := #[] } ∧ R acc.toList { s with heap := h', toks := tk } := by
    rintro q s' ⟨h', tk, acc, c, e1, e2, e3, e4, e5⟩
    exact ⟨h', tk, c, acc, e1, e2, e4, by rw [e5]; exact h h' tk vs e3 (Nat.le_of_lt (Heap.lt_size e4)) hvp⟩
  refine wpAny_bind (wpAny_holding (hint_set (s := { s with heap := h1 }) hT1 ?_))
  have go : ∀ (h : Heap) (c1 : Nat), St 0 h → (∀ b o, b ≠ s.heap.objs.size → h1.get? b = some o → h.get? b = some o) → h.get? s.heap.objs.size = some { cls := .type "list", data := .seq #[] c1 } →
      ∀ (R' : Result → Shared → Prop), (∀ q s', (∃ (h' : Heap) (tk : Nat) (c : Nat) (acc : Array Value), q = .ok (.ret (.ref s.heap.objs.size)) ∧ s' = { s with heap := h', toks := tk } ∧ h'.get? s.heap.objs.size = some { cls := .type "list", dict := none, data := .seq acc c, slots := #[] } ∧ R acc.toList { s with heap := h', toks := tk }) → R' q s') → codeAny (model prog w) A (.builtin "list.extend.loop" ⟨[.ref s.heap.objs.size, .ref h0.objs.size, .ref s.heap.objs.size], []⟩) R' { s with heap := h } :=
    fun h c1 a1 a2 a3 R' hR' => codeAny_mono (key h c1 a1 a2 a3) fun q s' z => hR' q s' (fin q s' z)
  refine wpAny_ite_split (fun _ => ?_) (fun _ => wpAny_pure ⟨plainId_quiet PySem.F.plain_extend_loop _, go _ 0 st (fun b o _ e => e) hS1 _ fun q s' ⟨h', tk, c, acc, e1, e2, e3, e4⟩ => ?_⟩)
  · refine wpAny_bind (wpAny_rule (wpAny_bind (show wpAny _ _ (updateSeq s.heap.objs.size (·.push .none) >>= fun _ => updateSeq s.heap.objs.size (·.pop)) _ _ _ from ?_)))
    refine wpAny_bind (wpAny_updateSeq hS1 rfl ?_)
    have hS2 := Heap.get?_update_self (Obj.mapSeq (·.push Value.none)) hS1 rfl
    refine wpAny_updateSeq (hz := by seq_fits) hS2 rfl ?_
    have hS3 := Heap.get?_update_self (Obj.mapSeq (·.pop)) hS2 rfl
    have oth : ∀ b o, b ≠ s.heap.objs.size → h1.get? b = some o → ((h1.update s.heap.objs.size (Obj.mapSeq (·.push Value.none))).update s.heap.objs.size (Obj.mapSeq (·.pop))).get? b = some o := fun b o hb e => (Heap.get?_update_other _ _ (Ne.symm hb)).trans ((Heap.get?_update_other _ _ (Ne.symm hb)).trans e)
    refine wpAny_pure ⟨plainId_quiet PySem.F.plain_extend_loop _, go _ _ ((W A.in1 hh).frame 0 _ _ st fun b hb o e => oth b o (fun q => hSf (q ▸ hb)) e) oth hS3 _ fun q s' ⟨h', tk, c, acc, e1, e2, e3, e4⟩ => ?_⟩
    subst e1 e2
    exact wpAny_bind (wpAny_load e3 (wpAny_pure e4))
  · subst e1 e2
    exact wpAny_bind (wpAny_load e3 (wpAny_pure e4))
end
end L2
set_option Elab.async false
set_option linter.all false
set_option maxRecDepth 100000
set_option maxHeartbeats 4000000
namespace L2
open PySem PySem.Spec PyProof.Rows
section
variable {X : Cx} {pins : List (Addr × Obj)} {σ : L2.St} {H : Hp} {s : Shared}
theorem vals_rf : ∀ (bs : List Addr), Vals (bs.map V.ref) (bs.map Value.ref)
  | [] => .nil
  | b :: bs => .cons rfl (vals_rf bs)
theorem refs_vals : ∀ {bs : List Addr} {us : List Value}, Vals (bs.map V.ref) us → us = bs.map Value.ref
  | [], _, .nil => rfl
  | b :: bs, _, .cons r rr => by cases r; rw [refs_vals rr]; rfl
end
end L2
set_option Elab.async false
set_option linter.all false
set_option maxRecDepth 100000
set_option maxHeartbeats 4000000
namespace L2
open PySem PySem.Spec PyProof.Rows
end L2
set_option Elab.async false
set_option linter.all false
set_option maxRecDepth 100000
set_option maxHeartbeats 4000000
namespace L2
open PySem PySem.Spec PyProof.Rows
end L2
set_option Elab.async false
set_option linter.all false
set_option maxRecDepth 100000
set_option maxHeartbeats 4000000
namespace L2
open PySem PySem.Spec PyProof.Rows
end L2
set_option Elab.async false
set_option linter.all false
set_option maxRecDepth 100000
set_option maxHeartbeats 4000000
namespace L2
open PySem PySem.Spec PyProof.Rows
end L2
set_option Elab.async false
set_option linter.all false
set_option maxRecDepth 100000
set_option maxHeartbeats 4000000
namespace L2
open PySem PySem.Spec PyProof.Rows
end L2
set_option Elab.async false
set_option linter.all false
set_option maxRecDepth 100000
set_option maxHeartbeats 4000000
namespace L2
open PySem PySem.Spec PyProof.Rows
end L2
set_option Elab.async false
set_option linter.all false
set_option maxRecDepth 100000
set_option maxHeartbeats 4000000
namespace L2
open PySem PySem.Spec PyProof.Rows
end L2
set_option Elab.async false
set_option linter.all false
set_option maxRecDepth 100000
set_option maxHeartbeats 4000000
namespace L2
open PySem PySem.Spec PyProof.Rows
end L2
set_option Elab.async false
set_option linter.all false
set_option maxRecDepth 100000
set_option maxHeartbeats 4000000
namespace L2
open PySem PySem.Spec PyProof.Rows
end L2
set_option Elab.async false
set_option linter.all false
set_option maxRecDepth 100000
set_option maxHeartbeats 4000000
namespace L2
open PySem PySem.Spec PyProof.Rows
end L2
set_option Elab.async false
set_option linter.all false
namespace L2
open PySem PySem.Spec PyProof.Rows
end L2
set_option Elab.async false
set_option linter.all false
set_option maxRecDepth 100000
set_option maxHeartbeats 4000000
namespace L2
open PySem PySem.Spec PyProof.Rows
end L2
set_option Elab.async false
set_option linter.all false
set_option maxRecDepth 100000
set_option maxHeartbeats 4000000
namespace L2
open PySem PySem.Spec PyProof.Rows
end L2
set_option Elab.async false
set_option linter.all false
set_option maxRecDepth 100000
set_option maxHeartbeats 4000000
namespace L2
open PySem PySem.Spec PyProof.Rows
end L2
set_option Elab.async false
set_option linter.all false
set_option maxRecDepth 100000
set_option maxHeartbeats 4000000
namespace L2
open PySem PySem.Spec PyProof.Rows
end L2
set_option Elab.async false
set_option linter.all false
set_option maxRecDepth 100000
set_option maxHeartbeats 4000000
namespace L2
open PySem PySem.Spec PyProof.Rows
end L2
set_option Elab.async false
set_option linter.all false
set_option maxRecDepth 100000
set_option maxHeartbeats 4000000
namespace L2
open PySem PySem.Spec PyProof.Rows
section
variable {prog : Program} {w : World} {J : Type} [DecidableEq J] {knd : HeapKind prog w J} {A : Around} {E : Value → Shared → Prop} {s : Shared} {d a : Addr} {k : J} {xs : List (J × Addr × Value)} {x : Value}
theorem more_dictOfH {h : Heap} {o : Obj} {es : Array DictEntry} {ep : Nat} (ho : h.get? d = some o) (hc : o.ExactDict) (hd : o.data = .dict es ep) (he : es.toList = xs.map (entryOfKey knd)) (his : ∀ x ∈ xs, knd.is h x.1 x.2.1) (hn : (xs.map (·.1)).Nodup)
    (hk : knd.is h k a) (no : ∀ (j : Nat) (p : Addr × Value), xs[j]? ≠ some (k, p)) : (h.update d (Obj.mapDictKeys fun es => es.push ⟨knd.hash k, .ref a, x⟩)).DictOfH knd d (xs ++ [(k, a, x)]) := by
  have kp : ∀ {k' a'}, knd.is h k' a' → knd.is (h.update d (Obj.mapDictKeys fun es => es.push ⟨knd.hash k, .ref a, x⟩)) k' a' := fun q => knd.keeps q ho hd (Heap.SameBut.update ..)
  refine ⟨_, _, ep + 1, Heap.get?_update_self _ ho (Obj.isFreed_of_dict (Obj.data_mapDictKeys hd _)), hc.mapDictKeys _, Obj.data_mapDictKeys hd _, ?_, fun y hy => ?_, ?_⟩
  · simp [he, entryOfKey]
  · rcases List.mem_append.mp hy with q | q
    · exact kp (his y q)
    · cases List.mem_singleton.mp q; exact kp hk
  · have q : k ∉ xs.map (·.1) := not_mem_keys_of_get no
    rw [List.map_append]
    exact List.nodup_append.mpr ⟨hn, by simp, fun u hu v hv e => q (by simp at hv; rw [← hv, ← e]; exact hu)⟩
theorem dsd_heap {Q : Value → Shared → Prop} (hu : knd.room A) (hk : knd.is s.heap k a) (hm : s.heap.DictOfH knd d xs) (hz : xs.length ≤ sizeLine) (h1 : ∀ p, atKey xs k = some p → Q p.2 { s with toks := s.toks + knd.draws k })
    (h2 : atKey xs k = none → ∀ h', h'.DictOfH knd d (xs ++ [(k, a, x)]) → Heap.SameBut d s.heap h' → Q x { s with heap := h', toks := s.toks + knd.draws k }) : wpAny (model prog w) A (dictSetDefault d (.ref a) x) Q E s := by
  obtain ⟨o, es, ep, ho, hc, hd, he, his, hn⟩ := hm
  unfold dictSetDefault
  try with_reducible refine wpAny_holding ?_
  refine wpAny_bind (knd.pyHash hu hk (wpAny_bind (wpAny_dictFind_heap (s := { s with toks := s.toks + knd.draws k }) hu hk ho hd he his hn (fun no => ?_) fun j p hj => ?_)))
  · refine wpAny_bind (wpAny_rule (wpAny_bind (wpAny_updateDictKeys (hz := by rw [size_of_entries he]; exact hz) (s := { s with toks := s.toks + knd.draws k }) ho hd (wpAny_pure (h2 (atKey_none_of_get no) _ (more_dictOfH ho hc hd he his hn hk no) (Heap.SameBut.update ..))))))
  · refine wpAny_bind (wpAny_dictEntries (s := { s with toks := s.toks + knd.draws k }) ho hd ?_)
    rw [entry_at he j, hj]
    exact wpAny_bind (wpAny_rule (wpAny_pure (h1 p (atKey_of_get hn hj))))
theorem meets_sdH (hd : (d == sysModules) = false) : MeetsIn prog w (Builtin.«dict.setdefault» ⟨[.ref d, .ref a, x], []⟩) fun A R s => knd.room A.in1 ∧ ∃ (k : J) (xs : List (J × Addr × Value)), knd.is s.heap k a ∧ s.heap.DictOfH knd d xs ∧ xs.length ≤ sizeLine ∧
    (∀ p, atKey xs k = some p → R (.ok (.ret p.2)) { s with toks := s.toks + knd.draws k }) ∧ (atKey xs k = none → ∀ h', h'.DictOfH knd d (xs ++ [(k, a, x)]) → Heap.SameBut d s.heap h' → R (.ok (.ret x)) { s with heap := h', toks := s.toks + knd.draws k }) := by
  refine .of_wp fun A R s ⟨hu, k, xs, hk, hm, hz, h1, h2⟩ => ?_
  show wpAny _ _ (Builtin.Dict.keyAndDefault _ _ >>= _) _ _ s
  refine wpAny_bind ?_
  unfold Builtin.Dict.keyAndDefault
  refine wpAny_bind (wpAny_notOrdered_dict hm.typeIs (wpAny_pure ?_))
  show wpAny _ _ (if (d == sysModules) = true then _ else _) _ _ _
  rw [hd, if_neg (by decide)]
  exact wpAny_bind (dsd_heap hu hk hm hz (fun p hp => wpAny_pure ⟨_, rfl, h1 p hp⟩) fun hn h' dd hs => wpAny_pure ⟨_, rfl, h2 hn h' dd hs⟩)
end
section
variable {X : Cx} {o e f : Expr} {apos cpos : Pos} {td ty tx : TE}
theorem qpe_dnewT {pos : Pos} : QE X (.Dict [] [] pos) tDNewT := ⟨pe_dnewT⟩
end
end L2
set_option Elab.async false
set_option linter.all false
set_option maxRecDepth 100000
set_option maxHeartbeats 4000000
namespace L2
open PySem PySem.Spec PyProof.Rows
end L2
set_option Elab.async false
set_option linter.all false
set_option maxRecDepth 100000
set_option maxHeartbeats 4000000
namespace L2
open PySem PySem.Spec PyProof.Rows
end L2
set_option Elab.async false
set_option linter.all false
set_option maxRecDepth 100000
set_option maxHeartbeats 4000000
namespace L2
open PySem PySem.Spec PyProof.Rows
section
variable {X : Cx}
def Mono (t : TE) : Prop := ∀ σ H (Q Q' : VK), (∀ v H', Q v H' → Q' v H') → t σ H Q → t σ H Q'
theorem mono_v (i : Nat) : Mono (tVar i) := mono_var
end
end L2
set_option Elab.async false
set_option linter.all false
set_option maxRecDepth 100000
set_option maxHeartbeats 4000000
namespace L2
open PySem PySem.Spec PyProof.Rows
end L2
set_option Elab.async false
set_option linter.all false
set_option maxRecDepth 100000
set_option maxHeartbeats 4000000
namespace L2
open PySem PySem.Spec PyProof.Rows
end L2
set_option Elab.async false
set_option linter.all false
set_option maxRecDepth 100000
set_option maxHeartbeats 4000000
namespace L2
open PySem PySem.Spec PyProof.Rows
section
variable {X : Cx}
theorem vals_of_ints : ∀ {ns : List Int} {its : List Value}, IntsAre its ns → Vals (ns.map V.int) its
  | _, _, .nil => .nil
  | _, _, .cons x t r => .cons ⟨t, rfl⟩ (vals_of_ints r)
end
end L2
set_option Elab.async false
set_option linter.all false
set_option maxRecDepth 100000
set_option maxHeartbeats 4000000
namespace L2
open PySem PySem.Spec PyProof.Rows
section
variable {X : Cx} {K : PySem.W.Frag} {o e value : Expr} {f : Str} {pos pos' tpos : Pos} {ta tv : TE}
theorem qpe_fldK (hK : X.K = K) (he : QE X e ta) (hb : attributeBase e f X.env (eval e X.env) = eval e X.env := by rfl) : QE X (.Attribute e f pos) (tFld K ta f) := by subst hK; exact ⟨pe_fld he.h hb⟩
theorem qps_fld (hK : X.K = K) (ha : QE X o ta) (hv : QE X value tv) (hs : swapsWith value (some (.Attribute o f pos')) pos.line X.env = pure false := by rfl) : QS X (.Assign [.Attribute o f pos'] value pos) (sFld K ta tv f) := by subst hK; exact ⟨ps_fld ha.h hv.h hs⟩
end
section
variable {X : Cx} {CX : CXT} {k : Nat} {f C : Addr} {fd : FuncData} {ps : List Str} {sp : Sp} {dvs : List V} {ds : List Value} {E : XK} {x m : Str} {p pos apos : Pos} {e o : Expr} {es : List Expr} {ta : TE} {t : TA}
theorem qpe_meth {pl : Sem Bool} (he : QE X o ta) (c : Cls X.K C) (hm : Meth X.K C m f) (F : FnOk X.prog X.w X.K X.mg X.base CX k f fd ps sp) (hr : Room k X.A) (hb : Binds X.K fd ps ds) (hd : Vals dvs ds) (hx : Passes CX X E) (ha : QA X (e :: es) t)
    (hst : starEach (e :: es) X.env = (false, eval e X.env) :: starEach es X.env := by rfl) (hpl : (backTo pos (starEach es X.env)).any (·.1) = false := by rfl)
    (ht : eval (.Call (.Attribute o m apos) (e :: es) [] pos) X.env = (do
      let ov ← eval o X.env
      standAt apos.atName
      let (f, first) ← holding [ov] (getMethod ov m pl)
      callWith pos f first (backTo pos (starEach (e :: es) X.env)) (backToKw pos (keywordEach [] X.env))) := by rfl) :
    QE X (.Call (.Attribute o m apos) (e :: es) [] pos) (tMeth C m sp dvs E ta t) := ⟨pe_meth he.h c hm F hr hb hd hx ha.h hst hpl ht⟩
theorem qpe_make0 (M : Mk X.K C f) (F : FnOk X.prog X.w X.K X.mg X.base CX k f fd ps sp) (hr : Room (k + 1) X.A) (hg : Gl X x) (hm : X.mg x = some (.ref C)) (hb : Binds X.K fd ps ds) (hd : Vals dvs ds) (hx : Passes CX X E)
    (hdb : (x == ("__debug__" : Str)) = false := by decide) : QE X (.Call (.Name x p) [] [] pos) (tMake C sp dvs E tNil) := ⟨pe_make0 M F hr hg hm hb hd hx hdb⟩
end
theorem mono_fld {K : PySem.W.Frag} {a : TE} {f : Str} (ha : Mono a) : Mono (tFld K a f) := fun σ H Q Q' h q => ha σ H _ _ (fun x H1 ⟨a, C, dx, fs, v, e1, e2, e3, e4, e5, q1⟩ => ⟨a, C, dx, fs, v, e1, e2, e3, e4, e5, h _ _ q1⟩) q
end L2
set_option Elab.async false
set_option linter.all false
set_option maxRecDepth 100000
set_option maxHeartbeats 4000000
namespace L2
open PySem PySem.Spec PyProof.Rows
section
variable {X : Cx}
def repC (c n : Nat) : Str := ⟨(List.replicate n c).toArray⟩
theorem fold_rep (c : Nat) : ∀ (n : Nat) (acc : Array Nat), (List.replicate n #[c]).foldl (· ++ ·) acc = acc ++ (List.replicate n c).toArray
  | 0, acc => by simp
  | n + 1, acc => by
    rw [List.replicate_succ, List.foldl_cons, fold_rep c n, List.replicate_succ]
    apply Array.toList_inj.mp
    simp only [Array.toList_append, List.append_assoc, List.singleton_append]
def rMulC : R2 := fun x y H Q => ∃ c n : Nat, x = .str ⟨#[c]⟩ ∧ y = .int (n : Int) ∧ n ≤ 1000 ∧ Q (.str (repC c n)) H
theorem op_mulC : OpR X (binaryOp .Mult) rMulC := by
  intro pins s σ H x y v u Q I rx ry h
  obtain ⟨c, n, rfl, rfl, n9, q⟩ := h
  obtain ⟨t, rfl⟩ := rx
  obtain ⟨t', rfl⟩ := ry
  have l1 : Str.length ⟨#[c]⟩ = 1 := rfl
  refine PySem.P.mul_str (by simp; omega) (fun h1 _ => ?_) (fun _ _ => ?_) ?_
  · rw [l1]
    have : (1 : Int) ≤ (2 ^ 63 - 1) / (n : Int) := (Int.le_ediv_iff_mul_le (by omega)).mpr (by omega)
    omega
  · unfold Builtin.Str.tooLong
    have hz : 1000000 ≤ sizeLine := by decide
    rw [l1]
    simp
    omega
  · by_cases c0 : n = 0
    · subst c0
      rw [if_pos (by decide)]
      exact ⟨by decide, ⟨.str (repC c 0), H, I.tok _, ⟨_, rfl⟩, q⟩⟩
    rw [if_neg (by omega)]
    by_cases c1 : n = 1
    · subst c1
      rw [if_pos (by rfl)]
      exact ⟨.str (repC c 1), H, I, ⟨_, rfl⟩, q⟩
    rw [if_neg (by simp [l1]; omega)]
    have e : (⟨(List.replicate (n : Int).toNat (⟨#[c]⟩ : Str).cps).foldl (· ++ ·) #[]⟩ : Str) = repC c n := by
      unfold repC
      rw [Int.toNat_natCast, fold_rep]; simp
    rw [e]
    refine ⟨?_, ⟨.str (repC c n), H, I.tok _, ⟨_, rfl⟩, q⟩⟩
    have hz : 1000000 ≤ sizeLine := by decide
    have : (repC c n).length = n := by simp [repC, Str.length]
    omega
end
end L2
set_option Elab.async false
set_option linter.all false
set_option maxRecDepth 100000
set_option maxHeartbeats 4000000
namespace L2
open PySem PySem.Spec PyProof.Rows
end L2
set_option Elab.async false
set_option linter.all false
set_option maxRecDepth 100000
set_option maxHeartbeats 4000000
namespace L2
open PySem PySem.Spec PyProof.Rows
end L2
set_option Elab.async false
set_option linter.all false
set_option maxRecDepth 100000
set_option maxHeartbeats 4000000
namespace L2
open PySem PySem.Spec PyProof.Rows
end L2
set_option Elab.async false
set_option linter.all false
set_option maxRecDepth 100000
set_option maxHeartbeats 4000000
namespace L2
open PySem PySem.Spec PyProof.Rows
section
variable {prog : Program} {w : World} {A : Around} {E : Value → Shared → Prop} {s : Shared}
theorem quiet_items {a : Addr} {o : Obj} {its : Array Value} {n m : Nat} {Q : Bool → Shared → Prop} (ho : s.heap.get? a = some o) (hc : o.cls = .type "tuple") (hd : o.data = .seq its n)
    (hi : ∀ v ∈ its.toList, ∀ Q : Bool → Shared → Prop, Q true s → wpAny (model prog w) A (eqIsQuiet m v) Q E s) (h : Q true s) : wpAny (model prog w) A (eqIsQuiet (m + 1) (.ref a)) Q E s := by
  have hT : s.TypeIs (.ref a) "tuple" := ⟨o, ho, hc⟩
  unfold eqIsQuiet
  refine wpAny_bind (wpAny_specialOf hT F.slot_tuple_eq.lookup ?_)
  show wpAny _ _ (isInstance (.ref a) (.type "tuple") >>= _) _ _ s
  refine wpAny_bind (wpAny_isInstance hT isSubtype_tuple_tuple ?_)
  refine wpAny_bind (wpAny_seqItems ho hd (wpAny_bind ?_))
  show wpAny _ _ (forIn its _ _) _ _ s
  rw [← Array.forIn_toList]
  generalize its.toList = l at hi
  induction l with
  | nil => exact wpAny_pure (wpAny_pure h)
  | cons v l ih =>
    rw [List.forIn_cons]
    exact wpAny_bind (wpAny_bind (hi v (.head _) _ (wpAny_pure (ih fun u hu => hi u (.tail _ hu)))))
end
end L2
set_option Elab.async false
set_option linter.all false
set_option maxRecDepth 100000
set_option maxHeartbeats 4000000
namespace L2
open PySem PySem.Spec PyProof.Rows
def TKp (H H' : Hp) : Prop := (∀ b ys, H b = some (.tup ys) → H' b = some (.tup ys)) ∧ ∀ b ob ys, H b = some (.frz ob (.tup ys)) → H' b = some (.frz ob (.tup ys))
theorem TKp.of {S : List Addr} {H H' : Hp} (k : Kp S H H') (n : ∀ b ∈ S, ∃ o, H b = some o ∧ ∀ ob u, o ≠ .frz ob u) : TKp H H' := ⟨k.tup, fun b ob ys e => k.old _ _ e fun m => by
  obtain ⟨o, e', z⟩ := n b m
  rw [e] at e'
  exact z _ _ (Option.some.inj e').symm⟩
end L2
set_option Elab.async false
set_option linter.all false
set_option maxRecDepth 100000
set_option maxHeartbeats 4000000
namespace L2
open PySem PySem.Spec PyProof.Rows
end L2
set_option Elab.async false
set_option linter.all false
set_option maxRecDepth 100000
set_option maxHeartbeats 4000000
namespace L2
open PySem PySem.Spec PyProof.Rows
end L2
set_option Elab.async false
set_option linter.all false
set_option maxRecDepth 100000
set_option maxHeartbeats 4000000
namespace L2
open PySem PySem.Spec PyProof.Rows
structure ItN (prog : Program) (w : World) (K : Type) [DecidableEq K] where
  is : Heap → K → Value → Prop
  hash : K → Int
  draws : K → Nat
  lv : Nat
  inj : ∀ {h : Heap} {v : Value} {x y : K}, is h x v → is h y v → x = y
  keeps : ∀ {h h' : Heap} {k : K} {v : Value} {d : Addr} {o : Obj} {es ep}, is h k v → h.get? d = some o → o.data = .dict es ep → Heap.SameBut d h h' → is h' k v
  pyHash : ∀ {A : Around} {E : Value → Shared → Prop} {s : Shared} {k : K} {v : Value} {Q : Int → Shared → Prop}, A.units + lv < cLine → is s.heap k v → Q (hash k) { s with toks := s.toks + draws k } → wpAny (model prog w) A (PySem.pyHash v) Q E s
  eqBool : ∀ {A : Around} {E : Value → Shared → Prop} {s : Shared} {x y : K} {u v : Value} {Q : Bool → Shared → Prop}, A.units + lv < cLine → is s.heap x u → is s.heap y v → Q (decide (x = y)) s → wpAny (model prog w) A (PySem.eqBool u v) Q E s
  quiet : ∀ {A : Around} {E : Value → Shared → Prop} {s : Shared} {k : K} {v : Value} {Q : Bool → Shared → Prop} (m : Nat), lv ≤ m → is s.heap k v → Q true s → wpAny (model prog w) A (eqIsQuiet m v) Q E s
def ItN.key {prog : Program} {w : World} {K : Type} [DecidableEq K] (knd : KeyKind prog w K) : ItN prog w K where
  is := fun _ k v => knd.is k v = true
  hash := knd.hash
  draws := fun _ => 1
  lv := 0
  inj := fun h1 h2 => knd.inj _ _ _ h1 h2
  keeps := fun h _ _ _ => h
  pyHash := fun _ h q => knd.pyHash h q
  eqBool := fun _ h1 h2 q => knd.eqBool h1 h2 q
  quiet := fun m _ h q => by rw [eqIsQuiet_byValue _ (knd.byValue _ _ h)]; exact wpAny_pure q
section
variable {prog : Program} {w : World} {A : Around} {E : Value → Shared → Prop} {s : Shared}
theorem bool_hash {b : Bool} {Q : Int → Shared → Prop} (h : Q (reduceHash (if b then 1 else 0)) { s with toks := s.toks + 1 }) : wpAny (model prog w) A (PySem.pyHash (.bool b)) Q E s := by
  refine PySem.W.pyHash_slot (T := "bool") (PySem.typeIs_bool s b) F.slot_bool_hash F.entry_int_hash (F.args_int_hash_1 _) (beq_builtin_none _) (.inl rfl) ?_
  cases b
  · show wpAny _ _ (retInt (0 : Int)) _ _ s
    exact wpAny_bind (wpAny_mkInt (wpAny_pure ⟨_, _, rfl, h⟩))
  · show wpAny _ _ (retInt (1 : Int)) _ _ s
    exact wpAny_bind (wpAny_mkInt (wpAny_pure ⟨_, _, rfl, h⟩))
theorem bool_eq {b c : Bool} {Q : Bool → Shared → Prop} (h : Q (decide (b = c)) s) : wpAny (model prog w) A (PySem.eqBool (.bool b) (.bool c)) Q E s := by
  unfold PySem.eqBool
  try with_reducible refine wpAny_holding ?_
  show wpAny _ _ (if (Value.bool b == Value.bool c) = true then _ else _) Q E s
  by_cases hbc : b = c
  · subst hbc
    rw [if_pos (by simp)]
    rw [decide_eq_true rfl] at h
    exact wpAny_bind (wpAny_rule (wpAny_pure h))
  · rw [if_neg (by simpa using hbc)]
    rw [decide_eq_false hbc] at h
    refine wpAny_bind (wpAny_richCompare_same_or (op := .Eq) (PySem.typeIs_bool s b) (PySem.typeIs_bool s c) F.slot_bool_eq (wpAny_call_entry F.slot_bool_eq (PySem.typeIs_bool s b) F.entry_int_eq ?_ (F.args_int_eq_2 _ _)) (.inl rfl))
    cases b <;> cases c
    · exact absurd rfl hbc
    · exact wpAny_pure ⟨.bool false, rfl, (fun e => nomatch e), wpAny_truthy_bool h⟩
    · exact wpAny_pure ⟨.bool false, rfl, (fun e => nomatch e), wpAny_truthy_bool h⟩
    · exact absurd rfl hbc
end
def ItN.truth (prog : Program) (w : World) : ItN prog w Bool where
  is := fun _ k v => v = .bool k
  hash := fun b => reduceHash (if b then 1 else 0)
  draws := fun _ => 1
  lv := 0
  inj := fun h1 h2 => by rw [h1] at h2; injection h2
  keeps := fun h _ _ _ => h
  pyHash := fun _ h q => by subst h; exact bool_hash q
  eqBool := fun _ h1 h2 q => by subst h1; subst h2; exact bool_eq q
  quiet := fun m _ h q => by subst h; rw [eqIsQuiet_byValue _ rfl]; exact wpAny_pure q
section
variable {prog : Program} {w : World} {K : Type} [DecidableEq K] (I : ItN prog w K)
def IsLs (h : Heap) (k : List K) (v : Value) : Prop := ∃ a o its n, v = .ref a ∧ h.get? a = some o ∧ o.cls = .type "tuple" ∧ o.data = .seq its n ∧ Paired (I.is h) k its.toList
variable {I} {A : Around} {E : Value → Shared → Prop} {s : Shared}
theorem paired_inj {h : Heap} : ∀ {k k' : List K} {l : List Value}, Paired (I.is h) k l → Paired (I.is h) k' l → k = k'
  | _, _, _, .nil, .nil => rfl
  | _, _, _, .cons a r, .cons b q => by rw [I.inj a b, paired_inj r q]
theorem IsLs.inj {h : Heap} {k k' : List K} {v : Value} (p : IsLs I h k v) (q : IsLs I h k' v) : k = k' := by
  obtain ⟨a, o, its, n, e, ho, _, hd, hp⟩ := p
  obtain ⟨a', o', its', n', e', ho', _, hd', hp'⟩ := q
  subst e
  cases e'
  rw [ho] at ho'; cases ho'
  rw [hd] at hd'; cases hd'
  exact paired_inj hp hp'
theorem list_hash {k : List K} {v : Value} {Q : Int → Shared → Prop} (hu : A.units + (I.lv + 1) < cLine) (p : IsLs I s.heap k v) (h : Q (reduceHash (Builtin.Tuple.tupleHashOf (k.map I.hash))) { s with toks := s.toks + ((k.map I.draws).sum + 1) }) :
    wpAny (model prog w) A (PySem.pyHash v) Q E s := by
  obtain ⟨a, o, its, n, rfl, ho, hc, hd, hp⟩ := p
  have hT : s.TypeIs (.ref a) "tuple" := ⟨o, ho, hc⟩
  refine PySem.W.pyHash_slot (T := "tuple") hT F.slot_tuple_hash F.entry_tuple_hash (F.args_tuple_hash_1 _) (beq_builtin_none _) (.inr (by omega)) ?_
  show wpAny _ _ (Builtin.Tuple.tupleItemsOf (.ref a) >>= _) _ _ s
  refine wpAny_bind (wpAny_tupleItemsOf ho hd (wpAny_bind ?_))
  rw [← Array.forIn_toList]
  have hu' : A.in1.units + I.lv < cLine := by show A.units + 1 + I.lv < cLine; omega
  generalize its.toList = l at hp ⊢
  clear ho hc hd hT
  have h' : Q (reduceHash (Builtin.Tuple.tupleHashOf ((#[] : Array Int).toList ++ k.map I.hash))) { s with toks := s.toks + ((k.map I.draws).sum + 1) } := h
  clear h
  generalize (#[] : Array Int) = acc at h' ⊢
  induction l generalizing k acc s with
  | nil =>
    cases hp
    refine wpAny_pure ?_
    show wpAny _ _ (retInt _) _ _ _
    exact wpAny_bind (wpAny_mkInt (wpAny_pure ⟨_, _, rfl, by simpa using h'⟩))
  | cons x l ih =>
    cases hp with
    | cons hx hr =>
      rw [List.forIn_cons]
      refine wpAny_bind (wpAny_bind (I.pyHash hu' hx (wpAny_pure ?_)))
      refine ih (s := { s with toks := s.toks + I.draws _ }) hr _ ?_
      simp only [List.map_cons, List.sum_cons] at h'
      simpa [Nat.add_assoc] using h'
theorem list_eq {k k' : List K} {u v : Value} {Q : Bool → Shared → Prop} (hu : A.units + (I.lv + 1) < cLine) (p : IsLs I s.heap k u) (q : IsLs I s.heap k' v) (h : Q (decide (k = k')) s) : wpAny (model prog w) A (PySem.eqBool u v) Q E s := by
  have hinj : u = v → k = k' := fun e => p.inj (e ▸ q)
  obtain ⟨a, o, its, n, rfl, ho, hc, hd, hp⟩ := p
  obtain ⟨b, o', its', n', rfl, ho', hc', hd', hp'⟩ := q
  have hT : s.TypeIs (.ref a) "tuple" := ⟨o, ho, hc⟩
  have hT' : s.TypeIs (.ref b) "tuple" := ⟨o', ho', hc'⟩
  unfold PySem.eqBool
  try with_reducible refine wpAny_holding ?_
  show wpAny _ _ (if (Value.ref a == Value.ref b) = true then _ else _) Q E s
  by_cases hab : a = b
  · subst hab
    rw [if_pos (by simp)]
    refine wpAny_bind (wpAny_rule (wpAny_pure ?_))
    rw [decide_eq_true (hinj rfl)] at h
    exact h
  · rw [if_neg (by simpa using hab)]
    refine wpAny_bind (wpAny_richCompare_same_room (op := .Eq) hT hT' F.slot_tuple_eq (wpAny_call_entry F.slot_tuple_eq hT F.entry_tuple_eq ?_ (F.args_tuple_eq_2 _ _)) (by omega))
    have hu' : A.in1.units + I.lv < cLine := by show A.units + 1 + I.lv < cLine; omega
    show wpAny _ _ (isInstance (.ref b) (.type "tuple") >>= _) _ _ s
    refine wpAny_bind (wpAny_isInstance hT' isSubtype_tuple_tuple ?_)
    simp only [Bool.not_true, Bool.false_eq_true, if_false]
    refine wpAny_bind (wpAny_tupleItemsOf ho hd (wpAny_bind (wpAny_tupleItemsOf ho' hd' (wpAny_bind ?_))))
    have hn : its.size = 0 + k.length := by rw [Nat.zero_add, Paired.length hp, Array.length_toList]
    have hn' : its'.size = 0 + k'.length := by rw [Nat.zero_add, Paired.length hp', Array.length_toList]
    generalize its.size = N at hn ⊢
    generalize its'.size = N' at hn' ⊢
    generalize its.toList = l at hp ⊢
    generalize its'.toList = l' at hp' ⊢
    generalize 0 = c at hn hn'
    clear hinj ho hc hd ho' hc' hd' hT hT' hab
    have fin : ∀ {k k' : List K} {c : Nat} {Q' : PySem.Fin → Shared → Prop}, (k = [] ∨ k' = []) → N = c + k.length → N' = c + k'.length → (∀ v, v = Value.bool (decide (k = k')) → Q' (.done (.ret v)) s) → wpAny (model prog w) A.in1 (ret (Builtin.Tuple.tupleCompareSizes CmpOp.Eq N N')) Q' E s := fun {k k' c Q'} ho h1 h2 q => wpAny_pure (q _ (by
      have e : (N == N') = decide (k = k') := by
        rw [Bool.eq_iff_iff]
        simp only [beq_iff_eq, decide_eq_true_eq]
        constructor
        · intro e
          have : k.length = k'.length := by omega
          rcases ho with rfl | rfl
          · exact (List.length_eq_zero_iff.mp this.symm).symm
          · exact List.length_eq_zero_iff.mp this
        · rintro rfl
          rw [h1, h2]
      rw [← e]; rfl))
    induction l generalizing l' k k' c with
    | nil =>
      cases hp
      refine wpAny_pure ?_
      exact fin (.inl rfl) hn hn' fun v e => ⟨_, rfl, (fun z => by rw [e] at z; cases z), by rw [e]; exact wpAny_truthy_bool h⟩
    | cons x l ih =>
      cases hp with
      | cons hx hr =>
        rename_i kx kr
        cases hp' with
        | nil =>
          refine wpAny_pure ?_
          exact fin (.inr rfl) hn hn' fun v e => ⟨_, rfl, (fun z => by rw [e] at z; cases z), by rw [e]; exact wpAny_truthy_bool h⟩
        | cons hy hr' =>
          rename_i ky y kr' l''
          show wpAny _ _ (forIn ((x, y) :: l.zip l'') _ _) _ _ _
          rw [List.forIn_cons]
          refine wpAny_bind (wpAny_bind (I.eqBool hu' hx hy ?_))
          by_cases e1 : kx = ky
          · rw [decide_eq_true e1]
            simp only [Bool.not_true, Bool.false_eq_true, if_false]
            refine wpAny_pure ?_
            refine ih (k := kr) (k' := kr') ?_ hr l'' hr' (c + 1) (by rw [hn, List.length_cons]; omega) (by rw [hn', List.length_cons]; omega)
            rw [show decide (kr = kr') = decide (kx :: kr = ky :: kr') by rw [e1]; simp]
            exact h
          · rw [decide_eq_false e1]
            rw [decide_eq_false fun z => e1 (by injection z)] at h
            exact wpAny_bind (wpAny_pure (wpAny_pure (wpAny_pure (wpAny_pure ⟨_, rfl, (fun e => nomatch e), wpAny_truthy_bool h⟩))))
theorem list_quiet {k : List K} {v : Value} {Q : Bool → Shared → Prop} (m : Nat) (hm : I.lv + 1 ≤ m) (p : IsLs I s.heap k v) (h : Q true s) : wpAny (model prog w) A (eqIsQuiet m v) Q E s := by
  obtain ⟨a, o, its, n, rfl, ho, hc, hd, hp⟩ := p
  obtain ⟨m, rfl⟩ : ∃ j, m = j + 1 := ⟨m - 1, by omega⟩
  refine quiet_items ho hc hd (fun v hv Q q => ?_) h
  have gen : ∀ {k : List K} {l : List Value}, Paired (I.is s.heap) k l → v ∈ l → ∃ x, I.is s.heap x v := fun {k l} hp => by
    induction hp with
    | nil => intro h; cases h
    | cons a r ih =>
      intro h
      rcases List.mem_cons.mp h with rfl | h
      · exact ⟨_, a⟩
      · exact ih h
  obtain ⟨x, hx⟩ := gen hp hv
  exact I.quiet m (by omega) hx q
end
def ItN.list {prog : Program} {w : World} {K : Type} [DecidableEq K] (I : ItN prog w K) : ItN prog w (List K) where
  is := IsLs I
  hash := fun k => reduceHash (Builtin.Tuple.tupleHashOf (k.map I.hash))
  draws := fun k => (k.map I.draws).sum + 1
  lv := I.lv + 1
  inj := fun p q => p.inj q
  keeps := fun ⟨a, o, its, n, e, ho, hc, hd, hp⟩ ho' hd' hs => ⟨a, o, its, n, e, (hs.2 _ (fun z => by rw [z, ho'] at ho; cases ho; rw [hd] at hd'; cases hd')).trans ho, hc, hd, Paired.mapP hp fun _ _ q => I.keeps q ho' hd' hs⟩
  pyHash := fun hu p h => list_hash hu p h
  eqBool := fun hu p q h => list_eq hu p q h
  quiet := fun m hm p h => list_quiet m hm p h
section
variable {prog : Program} {w : World} {K L : Type} [DecidableEq K] [DecidableEq L] (I : ItN prog w K) (J : ItN prog w L)
def IsPn (h : Heap) (k : K × L) (v : Value) : Prop := ∃ a o x y n, v = .ref a ∧ h.get? a = some o ∧ o.cls = .type "tuple" ∧ o.data = .seq #[x, y] n ∧ I.is h k.1 x ∧ J.is h k.2 y
variable {I J} {A : Around} {E : Value → Shared → Prop} {s : Shared} {k k' : K × L} {u v : Value}
theorem IsPn.inj {h : Heap} (p : IsPn I J h k v) (q : IsPn I J h k' v) : k = k' := by
  obtain ⟨a, o, x, y, n, e, ho, _, hd, h1, h2⟩ := p
  obtain ⟨a', o', x', y', n', e', ho', _, hd', h1', h2'⟩ := q
  subst e
  cases e'
  rw [ho] at ho'; cases ho'
  rw [hd] at hd'; cases hd'
  exact Prod.ext (I.inj h1 h1') (J.inj h2 h2')
theorem prn_hash {Q : Int → Shared → Prop} (hu : A.units + (max I.lv J.lv + 1) < cLine) (p : IsPn I J s.heap k v) (h : Q (reduceHash (Builtin.Tuple.tupleHashOf [I.hash k.1, J.hash k.2])) { s with toks := s.toks + (I.draws k.1 + J.draws k.2 + 1) }) :
    wpAny (model prog w) A (PySem.pyHash v) Q E s := by
  obtain ⟨a, o, x, y, n, rfl, ho, hc, hd, h1, h2⟩ := p
  have hT : s.TypeIs (.ref a) "tuple" := ⟨o, ho, hc⟩
  refine PySem.W.pyHash_slot (T := "tuple") hT F.slot_tuple_hash F.entry_tuple_hash (F.args_tuple_hash_1 _) (beq_builtin_none _) (.inr (by omega)) ?_
  show wpAny _ _ (Builtin.Tuple.tupleItemsOf (.ref a) >>= _) _ _ s
  refine wpAny_bind (wpAny_tupleItemsOf ho hd (wpAny_bind ?_))
  rw [← Array.forIn_toList]
  show wpAny _ _ (forIn [x, y] _ _) _ _ _
  have hu1 : A.in1.units + I.lv < cLine := by show A.units + 1 + I.lv < cLine; omega
  have hu2 : A.in1.units + J.lv < cLine := by show A.units + 1 + J.lv < cLine; omega
  rw [List.forIn_cons]
  refine wpAny_bind (wpAny_bind (I.pyHash hu1 h1 (wpAny_pure ?_)))
  dsimp only
  rw [List.forIn_cons]
  refine wpAny_bind (wpAny_bind (J.pyHash (s := { s with toks := s.toks + I.draws k.1 }) hu2 h2 (wpAny_pure ?_)))
  refine wpAny_pure ?_
  show wpAny _ _ (retInt _) _ _ _
  exact wpAny_bind (wpAny_mkInt (wpAny_pure ⟨_, _, rfl, by simpa [Nat.add_assoc] using h⟩))
theorem prn_eq2 {L' : Type} [DecidableEq L'] {J' : ItN prog w L'} {k : K × L} {k' : K × L'} {c : Bool} {Q : Bool → Shared → Prop} (hu : A.units + (max I.lv J.lv + 1) < cLine) (p : IsPn I J s.heap k u) (q : IsPn I J' s.heap k' v) (hs : u = v → c = true) (h1 : k.1 ≠ k'.1 → c = false)
    (h2 : k.1 = k'.1 → ∀ x y, J.is s.heap k.2 x → J'.is s.heap k'.2 y → ∀ Q : Bool → Shared → Prop, Q c s → wpAny (model prog w) A.in1 (PySem.eqBool x y) Q E s) (h : Q c s) : wpAny (model prog w) A (PySem.eqBool u v) Q E s := by
  obtain ⟨a, o, x, y, n, rfl, ho, hc, hd, i1, i2⟩ := p
  obtain ⟨b, o', x', y', n', rfl, ho', hc', hd', i1', i2'⟩ := q
  have hT : s.TypeIs (.ref a) "tuple" := ⟨o, ho, hc⟩
  have hT' : s.TypeIs (.ref b) "tuple" := ⟨o', ho', hc'⟩
  unfold PySem.eqBool
  try with_reducible refine wpAny_holding ?_
  show wpAny _ _ (if (Value.ref a == Value.ref b) = true then _ else _) Q E s
  by_cases hab : a = b
  · subst hab
    rw [if_pos (by simp)]
    refine wpAny_bind (wpAny_rule (wpAny_pure ?_))
    rw [hs rfl] at h
    exact h
  · rw [if_neg (by simpa using hab)]
    refine wpAny_bind (wpAny_richCompare_same_room (op := .Eq) hT hT' F.slot_tuple_eq (wpAny_call_entry F.slot_tuple_eq hT F.entry_tuple_eq ?_ (F.args_tuple_eq_2 _ _)) (by omega))
    have hu1 : A.in1.units + I.lv < cLine := by show A.units + 1 + I.lv < cLine; omega
    show wpAny _ _ (isInstance (.ref b) (.type "tuple") >>= _) _ _ s
    refine wpAny_bind (wpAny_isInstance hT' isSubtype_tuple_tuple ?_)
    simp only [Bool.not_true, Bool.false_eq_true, if_false]
    refine wpAny_bind (wpAny_tupleItemsOf ho hd (wpAny_bind (wpAny_tupleItemsOf ho' hd' (wpAny_bind ?_))))
    show wpAny _ _ (forIn [(x, x'), (y, y')] _ _) _ _ _
    rw [List.forIn_cons]
    refine wpAny_bind (wpAny_bind (I.eqBool hu1 i1 i1' ?_))
    by_cases e1 : k.1 = k'.1
    · rw [decide_eq_true e1]
      simp only [Bool.not_true, Bool.false_eq_true, if_false]
      refine wpAny_pure ?_
      dsimp only
      rw [List.forIn_cons]
      refine wpAny_bind (wpAny_bind (h2 e1 y y' i2 i2' _ ?_))
      cases c with
      | true =>
        simp only [Bool.not_true, Bool.false_eq_true, if_false]
        exact wpAny_pure (wpAny_pure (wpAny_pure ⟨_, rfl, (fun e => nomatch e), wpAny_truthy_bool h⟩))
      | false => exact wpAny_bind (wpAny_pure (wpAny_pure (wpAny_pure (wpAny_pure ⟨_, rfl, (fun e => nomatch e), wpAny_truthy_bool h⟩))))
    · rw [decide_eq_false e1]
      rw [h1 e1] at h
      exact wpAny_bind (wpAny_pure (wpAny_pure (wpAny_pure (wpAny_pure ⟨_, rfl, (fun e => nomatch e), wpAny_truthy_bool h⟩))))
theorem prn_eq {Q : Bool → Shared → Prop} (hu : A.units + (max I.lv J.lv + 1) < cLine) (p : IsPn I J s.heap k u) (q : IsPn I J s.heap k' v) (h : Q (decide (k = k')) s) : wpAny (model prog w) A (PySem.eqBool u v) Q E s :=
  prn_eq2 hu p q (fun e => decide_eq_true (p.inj (e ▸ q))) (fun n => decide_eq_false fun e => n (by rw [e])) (fun e x y hx hy Q q => J.eqBool (by show A.units + 1 + J.lv < cLine; omega) hx hy (by
    rw [show decide (k.2 = k'.2) = decide (k = k') by rw [Bool.eq_iff_iff]; simp only [decide_eq_true_eq]; exact ⟨fun e2 => Prod.ext e e2, fun e2 => by rw [e2]⟩]; exact q)) h
theorem prn_quiet {Q : Bool → Shared → Prop} (m : Nat) (hm : max I.lv J.lv + 1 ≤ m) (p : IsPn I J s.heap k v) (h : Q true s) : wpAny (model prog w) A (eqIsQuiet m v) Q E s := by
  obtain ⟨a, o, x, y, n, rfl, ho, hc, hd, h1, h2⟩ := p
  obtain ⟨m, rfl⟩ : ∃ j, m = j + 1 := ⟨m - 1, by omega⟩
  exact quiet_items ho hc hd (fun z hz Q q => by
    simp only [List.mem_cons, List.not_mem_nil, or_false] at hz
    rcases hz with e | e
    · subst e; exact I.quiet m (by omega) h1 q
    · subst e; exact J.quiet m (by omega) h2 q) h
end
def ItN.pr {prog : Program} {w : World} {K L : Type} [DecidableEq K] [DecidableEq L] (I : ItN prog w K) (J : ItN prog w L) : ItN prog w (K × L) where
  is := IsPn I J
  hash := fun k => reduceHash (Builtin.Tuple.tupleHashOf [I.hash k.1, J.hash k.2])
  draws := fun k => I.draws k.1 + J.draws k.2 + 1
  lv := max I.lv J.lv + 1
  inj := fun p q => p.inj q
  keeps := fun ⟨a, o, x, y, n, e, ho, hc, hd, h1, h2⟩ ho' hd' hs => ⟨a, o, x, y, n, e, (hs.2 _ (fun z => by rw [z, ho'] at ho; cases ho; rw [hd] at hd'; cases hd')).trans ho, hc, hd, I.keeps h1 ho' hd' hs, J.keeps h2 ho' hd' hs⟩
  pyHash := fun hu p h => prn_hash hu p h
  eqBool := fun hu p q h => prn_eq hu p q h
  quiet := fun m hm p h => prn_quiet m hm p h
def ItN.kd {prog : Program} {w : World} {K : Type} [DecidableEq K] (I : ItN prog w K) (h8 : I.lv ≤ 8) : HeapKind prog w K where
  is := fun h k a => I.is h k (.ref a)
  hash := I.hash
  draws := I.draws
  room := fun A => A.units + I.lv < cLine
  inj := fun p q => I.inj p q
  keeps := fun p ho hd hs => I.keeps p ho hd hs
  pyHash := fun hu p h => I.pyHash hu p h
  eqBool := fun hu p q h => I.eqBool hu p q h
  quiet := fun p h => I.quiet 8 h8 p h
end L2
set_option Elab.async false
set_option linter.all false
set_option maxRecDepth 100000
set_option maxHeartbeats 4000000
namespace L2
open PySem PySem.Spec PyProof.Rows
structure AbN {P : Program} {w : World} {K : Type} [DecidableEq K] (I : ItN P w K) where
  ab : Hp → K → V → Prop
  ok : ∀ {H : Hp} {h : Heap} {k : K} {x : V} {v : Value}, HOk P w H h → ab H k x → RelV x v → I.is h k v
  keep : ∀ {H H' : Hp} {k : K} {x : V}, TKp H H' → ab H k x → ab H' k x
def AbN.key (P : Program) (w : World) : AbN (ItN.key (mixKind P w)) where
  ab := fun _ k x => x = kV k
  ok := fun _ e r => by subst e; exact kV_is r
  keep := fun _ e => e
def AbN.truth (P : Program) (w : World) : AbN (ItN.truth P w) where
  ab := fun _ k x => x = .bl k
  ok := fun _ e r => by subst e; exact r
  keep := fun _ e => e
theorem rel_paired {P : Program} {w : World} {K : Type} [DecidableEq K] {I : ItN P w K} (a : AbN I) {H : Hp} {h : Heap} (ok : HOk P w H h) : ∀ {k : List K} {xs : List V} {vs : List Value}, Paired (a.ab H) k xs → Vals xs vs → Paired (I.is h) k vs
  | _, _, _, .nil, .nil => .nil
  | _, _, _, .cons p q, .cons r t => .cons (a.ok ok p r) (rel_paired a ok q t)
def AbN.list {P : Program} {w : World} {K : Type} [DecidableEq K] {I : ItN P w K} (a : AbN I) : AbN I.list where
  ab := fun H k x => ∃ t xs, x = .ref t ∧ H t = some (.tup xs) ∧ Paired (a.ab H) k xs
  ok := fun {H h k x v} ok ⟨t, xs, e, ht, hp⟩ r => by
    subst e
    obtain rfl : v = Value.ref t := r
    obtain ⟨_, its, r1, o, h1, h2, n, h3⟩ := (show ObjOk P w H h t (.tup xs) from ok t _ ht)
    exact ⟨t, o, its.toArray, n, rfl, h1, h2, h3, by simpa using rel_paired a ok hp r1⟩
  keep := fun h ⟨t, xs, e, ht, hp⟩ => ⟨t, xs, e, h.1 _ _ ht, Paired.mapP hp fun _ _ q => a.keep h q⟩
def AbN.pr {P : Program} {w : World} {K L : Type} [DecidableEq K] [DecidableEq L] {I : ItN P w K} {J : ItN P w L} (a : AbN I) (b : AbN J) : AbN (I.pr J) where
  ab := fun H k x => ∃ t y z, x = .ref t ∧ H t = some (.tup [y, z]) ∧ a.ab H k.1 y ∧ b.ab H k.2 z
  ok := fun {H h k x v} ok ⟨t, y, z, e, ht, p, q⟩ r => by
    subst e
    obtain rfl : v = Value.ref t := r
    obtain ⟨_, its, r1, o, h1, h2, n, h3⟩ := (show ObjOk P w H h t (.tup [y, z]) from ok t _ ht)
    match its, r1 with
    | [u, v], .cons r2 (.cons r3 .nil) => exact ⟨t, o, u, v, n, rfl, h1, h2, h3, a.ok ok p r2, b.ok ok q r3⟩
  keep := fun h ⟨t, y, z, e, ht, p, q⟩ => ⟨t, y, z, e, h.1 _ _ ht, a.keep h p, b.keep h q⟩
structure NKd (P : Program) (w : World) (K : Type) [DecidableEq K] where
  I : ItN P w K
  h8 : I.lv ≤ 8
  ab : AbN I
theorem RelV_ref (b : Addr) : RelV (.ref b) (.ref b) := rfl
section
variable {P : Program} {w : World} {K : Type} [DecidableEq K] (κ : NKd P w K)
def NKd.kd : HeapKind P w K := κ.I.kd κ.h8
def KN (H : Hp) (k : K) (b : Addr) : Prop := κ.ab.ab H k (.ref b)
def nφ (a : Addr) (xs : List (K × Addr × Value)) : Heap → Prop := fun h => ∃ o es ep, h.get? a = some o ∧ o.ExactDict ∧ o.data = .dict es ep ∧ es.toList = xs.map (entryOfKey κ.kd)
def DN (H : Hp) (a : Addr) (G : K → Option V) (n : Nat) : Prop := ∃ xs : List (K × Addr × Value), H a = some (.ext (nφ κ a xs)) ∧ (a == sysModules) = false ∧ xs.length ≤ n ∧ (∀ x ∈ xs, KN κ H x.1 x.2.1) ∧ (xs.map (·.1)).Nodup ∧ ∀ k, RelO (G k) ((atKey xs k).map (·.2))
variable {κ} {H H' : Hp} {h : Heap} {a b : Addr} {k : K} {G : K → Option V} {n : Nat}
theorem KN.keep (ht : TKp H H') (q : KN κ H k b) : KN κ H' k b := κ.ab.keep ht q
theorem KN.is (ok : HOk P w H h) (q : KN κ H k b) : κ.kd.is h k b := κ.ab.ok ok q (RelV_ref b)
theorem DN.keep {S : List Addr} (k : Kp S H H') (hn : a ∉ S) (hS : ∀ b ∈ S, ∃ o, H b = some o ∧ ∀ ob u, o ≠ .frz ob u) (d : DN κ H a G n) : DN κ H' a G n := let ⟨xs, e, h1, h2, h3, h4, h5⟩ := d; ⟨xs, k.old _ _ e hn, h1, h2, fun x hx => (h3 x hx).keep (TKp.of k hS), h4, h5⟩
theorem DN.ext (d : DN κ H a G n) : ∃ φ, H a = some (.ext φ) := let ⟨xs, e, _⟩ := d; ⟨_, e⟩
theorem nφ_ok {xs : List (K × Addr × Value)} (d : nφ κ a xs h) : ObjOk P w H h a (.ext (nφ κ a xs)) := ⟨d, let ⟨o, _, _, e, _⟩ := d; ⟨o, e⟩, fun h1 h2 ⟨o, es, ep, e, c⟩ st => ⟨o, es, ep, st _ e, c⟩⟩
theorem atKey_putN {xs : List (K × Addr × Value)} (k j : K) (b : Addr) (v : Value) : ((atKey (storedH xs k b v) j).map (·.2)) = if j = k then some v else (atKey xs j).map (·.2) := by
  unfold storedH
  by_cases hs : (atKey xs k).isSome = true
  · rw [if_pos hs]
    have gen : ∀ xs : List (K × Addr × Value), (atKey (xs.map (putAt k v)) j).map (·.2) = ((atKey xs j).map (·.2)).map fun u => if j = k then v else u := by
      intro xs
      induction xs with
      | nil => rfl
      | cons x xs ih =>
        by_cases e : x.1 = j
        · have e1 : (putAt k v x).1 = j := by unfold putAt; split <;> exact e
          have e2 : (putAt k v x).2.2 = if j = k then v else x.2.2 := by unfold putAt; rw [e]; split <;> rfl
          simp [atKey, List.find?_cons, e, e1, e2]
        · have e1 : ¬ (putAt k v x).1 = j := by unfold putAt; split <;> exact e
          simp [atKey, List.find?_cons, e, e1] at ih ⊢
          exact ih
    rw [gen]
    by_cases e : j = k
    · subst e
      obtain ⟨p, hp⟩ := Option.isSome_iff_exists.mp hs
      rw [hp]; simp
    · simp [e, Function.comp_def]
  · rw [if_neg hs]
    have hn : atKey xs k = none := by cases z : atKey xs k with | none => rfl | some p => rw [z] at hs; exact absurd rfl hs
    by_cases e : j = k
    · subst e
      rw [if_pos rfl]
      unfold atKey at hn ⊢
      rw [List.find?_append]
      cases z : xs.find? fun x => decide (x.1 = j) with
      | none => simp
      | some p => rw [z] at hn; cases hn
    · rw [if_neg e]
      unfold atKey
      rw [List.find?_append]
      have : ([(k, b, v)] : List (K × Addr × Value)).find? (fun x => decide (x.1 = j)) = none := by simp [Ne.symm e]
      rw [this, Option.or_none]
theorem stored_memN {xs : List (K × Addr × Value)} {v : Value} {x : K × Addr × Value} (hx : x ∈ storedH xs k b v) : (∃ y ∈ xs, x.1 = y.1 ∧ x.2.1 = y.2.1) ∨ x.1 = k ∧ x.2.1 = b := by
  unfold storedH at hx
  split at hx
  · obtain ⟨y, hy, rfl⟩ := List.mem_map.mp hx
    refine .inl ⟨y, hy, ?_⟩
    unfold putAt
    split <;> exact ⟨rfl, rfl⟩
  · rcases List.mem_append.mp hx with q | q
    · exact .inl ⟨x, q, rfl, rfl⟩
    · cases List.mem_singleton.mp q; exact .inr ⟨rfl, rfl⟩
end
section
variable {X : Cx} {P : Program} {w : World} {K : Type} [DecidableEq K] (κ : NKd P w K)
def tNNotIn (ty td : TE) : TE := fun σ H Q => ty σ H fun y H1 => td σ H1 fun x H2 => ∃ a G n k b, x = .ref a ∧ DN κ H2 a G n ∧ y = .ref b ∧ KN κ H2 k b ∧ Q (.bl (!(G k).isSome)) H2
def tNGet (td ty : TE) : TE := fun σ H Q => td σ H fun x H1 => ty σ H1 fun y H2 => ∃ a G n k b v, x = .ref a ∧ DN κ H2 a G n ∧ y = .ref b ∧ KN κ H2 k b ∧ G k = some v ∧ Q v H2
def sNPut (td ty tv : TE) : TS := fun D σ H => tv σ H fun v H1 => td σ H1 fun x H2 => ty σ H2 fun y H3 => ∃ a G n k b, x = .ref a ∧ DN κ H3 a G n ∧ n < sizeLine ∧ y = .ref b ∧ KN κ H3 k b ∧
  ∀ φ, DN κ (upd H3 a (.ext φ)) a (fun j => if j = k then some v else G j) (n + 1) → D.nx σ (upd H3 a (.ext φ))
def tNNew : TE := fun _ H Q => ∀ p φ, H p = none → DN κ (upd H p (.ext φ)) p (fun _ => none) 0 → Q (.ref p) (upd H p (.ext φ))
variable {κ} {i o value : Expr} {ty td tv : TE} {pos pos' : Pos}
theorem DN.of {H : Hp} {h : Heap} {a : Addr} {G : K → Option V} {n : Nat} (ok : HOk P w H h) (d : DN κ H a G n) : ∃ xs, H a = some (.ext (nφ κ a xs)) ∧ (a == sysModules) = false ∧ xs.length ≤ n ∧ h.DictOfH κ.kd a xs ∧ (∀ k, RelO (G k) ((atKey xs k).map (·.2))) ∧ ∀ x ∈ xs, KN κ H x.1 x.2.1 := by
  obtain ⟨xs, e, h1, h2, h3, h4, h5⟩ := d
  obtain ⟨⟨o, es, ep, g1, g2, g3, g4⟩, _⟩ := (show ObjOk P w H h a (.ext (nφ κ a xs)) from ok a _ e)
  exact ⟨xs, e, h1, h2, ⟨o, es, ep, g1, g2, g3, g4, fun x hx => (h3 x hx).is ok, h4⟩, h5, h3⟩
theorem qpc_nnotin (hP : X.prog = P) (hw : X.w = w) (hu : X.A.units + 1 + κ.I.lv < cLine) (hi : QE X i ty) (ho : QE X o td) : QC X .NotIn i o (tNNotIn κ ty td) := by
  subst hP; subst hw
  refine ⟨fun pins s σ H Q I h => ?_⟩
  refine thn (hi.h pins s σ H _ I h) fun iv s1 ⟨y, H1, I1, ry, q1⟩ => thn (ho.h pins s1 σ H1 _ I1 q1) fun u s2 ⟨x, H2, I2, rx, a, G, n, k, b, ex, dp, ey, ka, q2⟩ => ?_
  subst ex; subst ey
  obtain rfl : u = Value.ref a := rx
  obtain rfl : iv = Value.ref b := ry
  obtain ⟨xs, _, hs, _, dd, rel, _⟩ := dp.of I2.hok
  refine wpAny_notIn_heap (knd := κ.kd) hu (ka.is I2.hok) hs dd ?_
  have q := (rel k).isSome_eq
  rw [Option.isSome_map] at q
  rw [← q]
  exact ⟨.bl _, H2, I2.tok _, rfl, q2⟩
theorem qpe_nget (hP : X.prog = P) (hw : X.w = w) (hu : X.A.units + 1 + κ.I.lv < cLine) (ho : QE X o td) (hi : QE X i ty) (hs : NoSl i) : QE X (.Subscript o i pos) (tNGet κ td ty) := by
  subst hP; subst hw
  refine ⟨fun pins s σ H Q I h => ?_⟩
  refine subD_of PySem.F.slot_dict_getitem.lookup hs (thn (ho.h pins s σ H _ I h) fun u s1 ⟨x, H1, I1, rx, q1⟩ => thn (hi.h pins s1 σ H1 _ I1 q1) fun iv s2 ⟨y, H2, I2, ry, a, G, n, k, b, v, ex, dp, ey, ka, gk, q2⟩ => ?_)
  subst ex; subst ey
  obtain rfl : u = Value.ref a := rx
  obtain rfl : iv = Value.ref b := ry
  obtain ⟨xs, _, hs, _, dd, rel, _⟩ := dp.of I2.hok
  refine ⟨dd.typeIs, ?_⟩
  have q := rel k
  rw [gk] at q
  obtain ⟨w', hw', rw'⟩ := RelO.some_of q
  obtain ⟨p, hp, hp2⟩ := Option.map_eq_some_iff.mp hw'
  refine wpAny_getItem_heap (knd := κ.kd) hu (ka.is I2.hok) dd hp ?_
  rw [hp2]
  exact ⟨v, H2, I2.tok _, rw', q2⟩
theorem qps_nput (hP : X.prog = P) (hw : X.w = w) (hu : X.A.units + 1 + κ.I.lv < cLine) (ho : QE X o td) (hi : QE X i ty) (hv : QE X value tv) (hs : swapsWith value (some (.Subscript o i pos')) pos.line X.env = pure false) : QS X (.Assign [.Subscript o i pos'] value pos) (sNPut κ td ty tv) := by
  subst hP; subst hw
  refine ⟨fun pins s σ H D I h => ?_⟩
  refine wpAny_Assign_Subscript (thn (hv.h pins s σ H _ I h) fun r s1 ⟨v, H1, I1, rv, q1⟩ => thn (ho.h pins s1 σ H1 _ I1 q1) fun u s2 ⟨x, H2, I2, rx, q2⟩ => thn (hi.h pins s2 σ H2 _ I2 q2) fun iv s3 ⟨y, H3, I3, ry, a, G, n, k, b, ex, dp, hn, ey, ka, q3⟩ => ?_) hs
  subst ex; subst ey
  obtain rfl : u = Value.ref a := rx
  obtain rfl : iv = Value.ref b := ry
  obtain ⟨xs, ea, hs', hl, dd, rel, hk3⟩ := dp.of I3.hok
  refine wpAny_setItem_heap (knd := κ.kd) (hsz := by omega) hu (ka.is I3.hok) dd fun h' dd' hsb => ?_
  obtain ⟨q, es, ep, hq, h2, h3, h4, h5, h6⟩ := dd'
  have new : nφ κ a (storedH xs k b r) h' := ⟨q, es, ep, hq, h2, h3, h4⟩
  have tk : TKp H3 (upd H3 a (.ext (nφ κ a (storedH xs k b r)))) := ⟨fun c ys ec => by rw [upd_ne (ne_of ec ea (fun z => nomatch z))]; exact ec, fun c ob ys ec => by rw [upd_ne (ne_of ec ea (fun z => nomatch z))]; exact ec⟩
  refine ⟨σ, _, d_write I3 (by rw [ea]; exact True.intro) hsb ⟨q, hq⟩ (nφ_ok new), q3 _ ⟨storedH xs k b r, upd_same, hs', ?_, fun x hx => ?_, h6, fun j => ?_⟩⟩
  · unfold storedH
    split
    · rw [List.length_map]; omega
    · rw [List.length_append]; simp; omega
  · rcases stored_memN hx with ⟨y, hy, e1, e2⟩ | ⟨e1, e2⟩
    · rw [e1, e2]; exact (hk3 y hy).keep tk
    · rw [e1, e2]; exact ka.keep tk
  · rw [atKey_putN]; dsimp only
    by_cases e : j = k
    · rw [if_pos e, if_pos e]; exact rv
    · rw [if_neg e, if_neg e]; exact rel j
theorem qpe_nnew (hP : X.prog = P) (hw : X.w = w) : QE X (.Dict [] [] pos) (tNNew κ) := by
  subst hP; subst hw
  refine ⟨fun pins s σ H Q I h => ?_⟩
  have hn : (s.heap.objs.size == sysModules) = false := beq_eq_false_iff_ne.mpr (Ne.symm (Nat.ne_of_lt I.big))
  have new : nφ κ s.heap.objs.size [] (s.heap.push { cls := .type "dict", data := .dict #[] }) := ⟨_, #[], 0, Heap.get?_push_size _ rfl, ⟨rfl, rfl, rfl⟩, rfl, rfl⟩
  exact wpAny_Dict_empty ⟨.ref s.heap.objs.size, _, I.laid (a := s.heap.objs.size) (o := .ext (nφ κ s.heap.objs.size [])) (t' := s.toks) (fun _ _ q => Heap.get?_push_of_some _ q) (Nat.le_refl _) (nφ_ok new), rfl, h _ _ (I.hok.fresh (Nat.le_refl _)) ⟨[], upd_same, hn, Nat.le_refl _, (by simp), (by simp), fun k => True.intro⟩⟩
end
end L2
set_option Elab.async false
set_option linter.all false
set_option maxRecDepth 100000
set_option maxHeartbeats 4000000
namespace L2
open PySem PySem.Spec PyProof.Rows
section
variable {prog : Program} {w : World} {K L L' : Type} [DecidableEq K] [DecidableEq L] [DecidableEq L'] (I : ItN prog w K) (J : ItN prog w L) (J' : ItN prog w L') (p : K → Bool)
def IsAlt (h : Heap) (k : K × (L ⊕ L')) (v : Value) : Prop := match k with
  | (d, .inl m) => p d = true ∧ IsPn I J h (d, m) v
  | (d, .inr m) => p d = false ∧ IsPn I J' h (d, m) v
variable {I J J' p}
theorem IsPn.fst {h : Heap} {k : K × L} {k' : K × L'} {v : Value} (px : IsPn I J h k v) (py : IsPn I J' h k' v) : k.1 = k'.1 := by
  obtain ⟨a, o, x, y, n, e, ho, _, hd, h1, h2⟩ := px
  obtain ⟨a', o', x', y', n', e', ho', _, hd', h1', h2'⟩ := py
  subst e
  cases e'
  rw [ho] at ho'; cases ho'
  rw [hd] at hd'; cases hd'
  exact I.inj h1 h1'
end
def ItN.alt {prog : Program} {w : World} {K L L' : Type} [DecidableEq K] [DecidableEq L] [DecidableEq L'] (I : ItN prog w K) (J : ItN prog w L) (J' : ItN prog w L') (p : K → Bool) : ItN prog w (K × (L ⊕ L')) where
  is := IsAlt I J J' p
  hash := fun k => match k with
    | (d, .inl m) => (I.pr J).hash (d, m)
    | (d, .inr m) => (I.pr J').hash (d, m)
  draws := fun k => match k with
    | (d, .inl m) => (I.pr J).draws (d, m)
    | (d, .inr m) => (I.pr J').draws (d, m)
  lv := max (max I.lv J.lv) J'.lv + 1
  inj := fun {h v x y} q r => by
    match x, y, q, r with
    | (d, .inl m), (e, .inl n), q, r => have := q.2.inj r.2; injection this with a b; rw [a, b]
    | (d, .inr m), (e, .inr n), q, r => have := q.2.inj r.2; injection this with a b; rw [a, b]
    | (d, .inl m), (e, .inr n), q, r =>
      have e1 : d = e := q.2.fst r.2
      have := q.1; rw [e1, r.1] at this; cases this
    | (d, .inr m), (e, .inl n), q, r =>
      have e1 : d = e := q.2.fst r.2
      have := q.1; rw [e1, r.1] at this; cases this
  keeps := fun {h h' k v d o es ep} q ho hd hs => by
    match k, q with
    | (d, .inl m), q => exact ⟨q.1, (I.pr J).keeps q.2 ho hd hs⟩
    | (d, .inr m), q => exact ⟨q.1, (I.pr J').keeps q.2 ho hd hs⟩
  pyHash := fun {A E s k v Q} hu q h => by
    match k, q, h with
    | (d, .inl m), q, h => exact (I.pr J).pyHash (by show A.units + (max I.lv J.lv + 1) < cLine; omega) q.2 h
    | (d, .inr m), q, h => exact (I.pr J').pyHash (by show A.units + (max I.lv J'.lv + 1) < cLine; omega) q.2 h
  eqBool := fun {A E s x y u v Q} hu q r h => by
    match x, y, q, r, h with
    | (d, .inl m), (e, .inl n), q, r, h =>
      refine (I.pr J).eqBool (by show A.units + (max I.lv J.lv + 1) < cLine; omega) q.2 r.2 ?_
      rw [show decide ((d, m) = (e, n)) = decide ((d, (Sum.inl m : L ⊕ L')) = (e, .inl n)) by simp]; exact h
    | (d, .inr m), (e, .inr n), q, r, h =>
      refine (I.pr J').eqBool (by show A.units + (max I.lv J'.lv + 1) < cLine; omega) q.2 r.2 ?_
      rw [show decide ((d, m) = (e, n)) = decide ((d, (Sum.inr m : L ⊕ L')) = (e, .inr n)) by simp]; exact h
    | (d, .inl m), (e, .inr n), q, r, h =>
      have ne : d ≠ e := fun z => by have := q.1; rw [z, r.1] at this; cases this
      rw [decide_eq_false (by simp)] at h
      exact prn_eq2 (by omega) q.2 r.2 (fun z => absurd (q.2.fst (z ▸ r.2)) ne) (fun _ => rfl) (fun z => absurd z ne) h
    | (d, .inr m), (e, .inl n), q, r, h =>
      have ne : d ≠ e := fun z => by have := q.1; rw [z, r.1] at this; cases this
      rw [decide_eq_false (by simp)] at h
      exact prn_eq2 (by omega) q.2 r.2 (fun z => absurd (q.2.fst (z ▸ r.2)) ne) (fun _ => rfl) (fun z => absurd z ne) h
  quiet := fun {A E s k v Q} m hm q h => by
    match k, q with
    | (d, .inl n), q => exact (I.pr J).quiet m (by show max I.lv J.lv + 1 ≤ m; omega) q.2 h
    | (d, .inr n), q => exact (I.pr J').quiet m (by show max I.lv J'.lv + 1 ≤ m; omega) q.2 h
def AbN.alt {P : Program} {w : World} {K L L' : Type} [DecidableEq K] [DecidableEq L] [DecidableEq L'] {I : ItN P w K} {J : ItN P w L} {J' : ItN P w L'} (a : AbN I) (b : AbN J) (c : AbN J') (p : K → Bool) : AbN (I.alt J J' p) where
  ab := fun H k x => match k with
    | (d, .inl m) => p d = true ∧ (a.pr b).ab H (d, m) x
    | (d, .inr m) => p d = false ∧ (a.pr c).ab H (d, m) x
  ok := fun {H h k x v} ok q r => by
    match k, q with
    | (d, .inl m), q => exact ⟨q.1, (a.pr b).ok ok q.2 r⟩
    | (d, .inr m), q => exact ⟨q.1, (a.pr c).ok ok q.2 r⟩
  keep := fun {H H' k x} h q => by
    match k, q with
    | (d, .inl m), q => exact ⟨q.1, (a.pr b).keep h q.2⟩
    | (d, .inr m), q => exact ⟨q.1, (a.pr c).keep h q.2⟩
section
variable {P : Program} {w : World} {K : Type} [DecidableEq K] (κ : NKd P w K)
def DX (H : Hp) (a : Addr) (G : K → Option V) (n : Nat) : Prop := ∃ xs : List (K × Addr × Value), H a = some (.ext (nφ κ a xs)) ∧ (a == sysModules) = false ∧ xs.length = n ∧ (∀ x ∈ xs, KN κ H x.1 x.2.1) ∧ (xs.map (·.1)).Nodup ∧ ∀ k, RelO (G k) ((atKey xs k).map (·.2))
variable {κ} {H H' : Hp} {h : Heap} {a b : Addr} {k : K} {G : K → Option V} {n : Nat}
theorem DX.keep {S : List Addr} (k : Kp S H H') (hn : a ∉ S) (hS : ∀ b ∈ S, ∃ o, H b = some o ∧ ∀ ob u, o ≠ .frz ob u) (d : DX κ H a G n) : DX κ H' a G n := let ⟨xs, e, h1, h2, h3, h4, h5⟩ := d; ⟨xs, k.old _ _ e hn, h1, h2, fun x hx => (h3 x hx).keep (TKp.of k hS), h4, h5⟩
theorem DX.ext (d : DX κ H a G n) : ∃ φ, H a = some (.ext φ) := let ⟨xs, e, _⟩ := d; ⟨_, e⟩
theorem DX.of (ok : HOk P w H h) (d : DX κ H a G n) : ∃ xs, H a = some (.ext (nφ κ a xs)) ∧ (a == sysModules) = false ∧ xs.length = n ∧ h.DictOfH κ.kd a xs ∧ (∀ k, RelO (G k) ((atKey xs k).map (·.2))) ∧ ∀ x ∈ xs, KN κ H x.1 x.2.1 := by
  obtain ⟨xs, e, h1, h2, h3, h4, h5⟩ := d
  obtain ⟨⟨o, es, ep, g1, g2, g3, g4⟩, _⟩ := (show ObjOk P w H h a (.ext (nφ κ a xs)) from ok a _ e)
  exact ⟨xs, e, h1, h2, ⟨o, es, ep, g1, g2, g3, g4, fun x hx => (h3 x hx).is ok, h4⟩, h5, h3⟩
end
section
variable {X : Cx} {P : Program} {w : World} {K : Type} [DecidableEq K] (κ : NKd P w K)
def tXNew : TE := fun _ H Q => ∀ p φ, H p = none → DX κ (upd H p (.ext φ)) p (fun _ => none) 0 → Q (.ref p) (upd H p (.ext φ))
def tXSet (td ty tx : TE) : TE := fun σ H Q => td σ H fun x H1 => ∃ a G1 n1, x = .ref a ∧ DX κ H1 a G1 n1 ∧ ty σ H1 fun y H2 => tx σ H2 fun z H3 => ∃ G n k b, DX κ H3 a G n ∧ n < sizeLine ∧ y = .ref b ∧ KN κ H3 k b ∧
  (∀ v, G k = some v → Q v H3) ∧ (G k = none → ∀ φ, DX κ (upd H3 a (.ext φ)) a (fun j => if j = k then some z else G j) (n + 1) → Q z (upd H3 a (.ext φ)))
def rLenX : List V → Hp → VK → Prop := fun xs H Q => ∃ a G n, xs = [.ref a] ∧ DX κ H a G n ∧ n ≤ sizeLine ∧ Q (.int (n : Int)) H
variable {κ} {i o e f value : Expr} {ty td tv tx : TE} {pos pos' apos cpos : Pos}
theorem qpe_xnew (hP : X.prog = P) (hw : X.w = w) : QE X (.Dict [] [] pos) (tXNew κ) := by
  subst hP; subst hw
  refine ⟨fun pins s σ H Q I h => ?_⟩
  have hn : (s.heap.objs.size == sysModules) = false := beq_eq_false_iff_ne.mpr (Ne.symm (Nat.ne_of_lt I.big))
  have new : nφ κ s.heap.objs.size [] (s.heap.push { cls := .type "dict", data := .dict #[] }) := ⟨_, #[], 0, Heap.get?_push_size _ rfl, ⟨rfl, rfl, rfl⟩, rfl, rfl⟩
  exact wpAny_Dict_empty ⟨.ref s.heap.objs.size, _, I.laid (a := s.heap.objs.size) (o := .ext (nφ κ s.heap.objs.size [])) (t' := s.toks) (fun _ _ q => Heap.get?_push_of_some _ q) (Nat.le_refl _) (nφ_ok new), rfl, h _ _ (I.hok.fresh (Nat.le_refl _)) ⟨[], upd_same, hn, rfl, (by simp), (by simp), fun k => True.intro⟩⟩
theorem qpe_xset (hP : X.prog = P) (hw : X.w = w) (hu : X.A.units + 1 + κ.I.lv < cLine) (ho : QE X o td) (he : QE X e ty) (hf : QE X f tx) (m : M2 X o "setdefault" apos e f cpos) : QE X (.Call (.Attribute o "setdefault" apos) [e, f] [] cpos) (tXSet κ td ty tx) := by
  subst hP; subst hw
  refine ⟨fun pins s σ H Q I h => ?_⟩
  refine wpAny_Call_method m.base m.few m.line PySem.F.plainAttrs_dict PySem.F.slot_dict_setdefault PySem.F.type_dict_setdefault (thn (ho.h pins s σ H _ I h) fun u s1 ⟨x, H1, I1, rx, a, G1, n1, ex, d1, q1⟩ => ?_)
  subst ex
  obtain rfl : u = Value.ref a := rx
  obtain ⟨xs1, _, _, _, dd1, _⟩ := d1.of I1.hok
  refine ⟨dd1.typeIs, fun b e => ?_, ?_⟩
  · cases e
    obtain ⟨o, es, ep, ho, hc, _⟩ := dd1
    exact ⟨o, ho, hc.2.1⟩
  rw [m.trees]
  refine Calls.callWith_builtin rfl (Calls.evalArgs_plain (Calls.spliced_cons (thn (he.h pins s1 σ H1 _ I1 q1) fun iv s2 ⟨y, H2, I2, ry, q2⟩ =>
    Calls.spliced_cons (thn (hf.h pins s2 σ H2 _ I2 q2) fun fv s3 ⟨z, H3, I3, rz, G, n, k, b, dx, hn, ey, ka, q3, q4⟩ => Calls.spliced_nil ?_))))
  subst ey
  cases (show iv = Value.ref b from ry)
  obtain ⟨xs, ea, hd, hl, dd, rel, hk3⟩ := dx.of I3.hok
  have hz : xs.length ≤ sizeLine := by omega
  refine call_meetsIn PySem.F.slot_dict_setdefault dd.typeIs PySem.F.entry_dict_setdefault (PySem.F.args_dict_setdefault_3 _ _ _) (meets_sdH (knd := κ.kd) hd) ⟨hu, k, xs, ka.is I3.hok, dd, hz, fun p hp => ?_, fun hnn h' dd' hs => ?_⟩
  · have va := rel k
    rw [hp] at va
    cases l : G k with
    | none => rw [l] at va; cases va
    | some v' =>
      rw [l] at va
      obtain ⟨w', hw, rw'⟩ := RelO.some_of va
      cases hw
      exact ⟨v', H3, I3.tok _, rw', q3 v' l⟩
  · have va := rel k
    rw [hnn] at va
    have ln : G k = none := by
      cases l : G k with
      | none => rfl
      | some v' => rw [l] at va; obtain ⟨w', hw, _⟩ := RelO.some_of va; cases hw
    rw [← storedH_new hnn] at dd'
    obtain ⟨q, es, ep, hq, g2, g3, g4, g5, g6⟩ := dd'
    have new : nφ κ a (storedH xs k b fv) h' := ⟨q, es, ep, hq, g2, g3, g4⟩
    have tk : TKp H3 (upd H3 a (.ext (nφ κ a (storedH xs k b fv)))) := ⟨fun c ys ec => by rw [upd_ne (ne_of ec ea (fun z => nomatch z))]; exact ec, fun c ob ys ec => by rw [upd_ne (ne_of ec ea (fun z => nomatch z))]; exact ec⟩
    refine ⟨z, _, d_write I3 (by rw [ea]; exact True.intro) hs ⟨q, hq⟩ (nφ_ok new), rz, q4 ln _ ⟨storedH xs k b fv, upd_same, hd, ?_, fun x hx => ?_, g6, fun j => ?_⟩⟩
    · rw [storedH_new hnn, List.length_append, hl]; rfl
    · rcases stored_memN hx with ⟨y, hy, e1, e2⟩ | ⟨e1, e2⟩
      · rw [e1, e2]; exact (hk3 y hy).keep tk
      · rw [e1, e2]; exact ka.keep tk
    · rw [atKey_putN]; dsimp only
      by_cases e : j = k
      · rw [if_pos e, if_pos e]; exact rz
      · rw [if_neg e, if_neg e]; exact rel j
theorem len_entries {prog : Program} {w : World} {A : Around} {E : Value → Shared → Prop} {s : Shared} {d : Addr} {o : Obj} {es : Array DictEntry} {ep : Nat} {Q : Value → Shared → Prop} (hd : (d == sysModules) = false) (ho : s.heap.get? d = some o) (hc : o.ExactDict) (he : o.data = .dict es ep) (hz : es.size ≤ sizeLine) (h : ∀ t k, Q (.int es.size t) { s with toks := s.toks + k }) :
    wpAny (model prog w) A (call (.builtin "len") [.ref d]) Q E s := by
  have hT : s.TypeIs (.ref d) "dict" := ⟨o, ho, hc.1⟩
  have hm : MeetsIn prog w (Builtin.«dict.__len__» ⟨[.ref d], []⟩) fun _ R s => s.heap.get? d = some o ∧ R (.ok (.ret (.int es.size s.toks))) { s with toks := s.toks + 1 } := .of_wp fun A R s ⟨g, q⟩ => by
    change wpAny _ _ ((dictEntries d (some keysPart) >>= fun x => pure x.size) >>= _) _ _ s
    exact wpAny_bind (wpAny_bind (wpAny_dictEntries g he (wpAny_pure (wpAny_bind (wpAny_pendingCount_other hd (wpAny_ret_mkInt q))))))
  have lt : (es.size : Int) < 2 ^ 63 := by rw [sizeLine_eq] at hz; omega
  refine Calls.call_function_entry kind_len plain_len entry_len (args_len1 _) ?_
  unfold Builtin.«len»
  refine wpAny_bind (m := oneArg "len" _) (wpAny_pure (wpAny_bind (wpAny_callSpecial?_slot (name := Str.ofString "__len__") hT F.slot_dict_len (call_meetsIn F.slot_dict_len hT F.entry_dict_len (F.args_dict_len_1 _) hm ⟨ho, ?_⟩))))
  refine wpAny_bind (wpAny_holding (wpAny_pure (wpAny_bind (wpAny_letGo ?_))))
  show wpAny _ _ (if ((es.size : Nat) : Int) < 0 then _ else if ((es.size : Nat) : Int) ≥ 2 ^ 63 then _ else _) _ _ _
  rw [if_neg (by omega), if_neg (by omega)]
  exact wpAny_bind (wpAny_mkInt (wpAny_pure ⟨_, rfl, h _ 2⟩))
theorem call_lenX (hP : X.prog = P) (hw : X.w = w) : CallR X (.builtin "len") (rLenX κ) := by
  subst hP; subst hw
  intro pins s σ H xs us Q I r h
  obtain ⟨a, G, n, rfl, dx, hn, q⟩ := h
  obtain ⟨u, rfl, rx⟩ := vals1 r
  cases rx
  obtain ⟨ys, ea, hd, hl, ⟨o, es, ep, g1, g2, g3, g4, _⟩, rel, hk3⟩ := dx.of I.hok
  have e : es.size = n := by rw [← hl, ← Array.length_toList, g4, List.length_map]
  refine len_entries hd g1 g2 g3 (by omega) fun t k => ⟨.int (n : Int), H, I.tok _, ⟨t, by rw [e]⟩, q⟩
end
end L2
set_option Elab.async false
set_option linter.all false
set_option maxRecDepth 100000
set_option maxHeartbeats 4000000
namespace L2
open PySem PySem.Spec PyProof.Rows
theorem free_slot {t : SetTable} {es : Array (Int × Value)} {L : List (Nat × (Int × Value))} (hy : LY t es L) (mk : MaskOk t.mask) (hl : L.length ≤ t.mask) (h : Int) :
    ∃ N, t.freeSlot h = some ((pth t.mask h N).j, false) ∧ (pth t.mask h N).j ∉ L.map Prod.fst := by
  obtain ⟨N, n0, n1, n2⟩ := first_free mk hy.ris hl h
  have fs : (L.map fun x => (x.1, ((h + 1, x.2.2) : Int × Value))).map Prod.fst = L.map Prod.fst := by rw [List.map_map]; rfl
  have hy' : LY t (es.map fun e => ((h + 1, e.2) : Int × Value)) (L.map fun x => (x.1, ((h + 1, x.2.2) : Int × Value))) := by
    refine ⟨by rw [fs]; exact hy.pl, ?_, by rw [fs]; exact hy.ris, hy.dm, fun x hx => ?_⟩
    · rw [Array.toList_map, hy.el, List.map_map, List.map_map]; rfl
    · obtain ⟨y, hy1, rfl⟩ := List.mem_map.mp hx
      exact hy.mx y hy1
  obtain ⟨d, d1, d2, d3⟩ := probe_go hy' (ha := fun _ => h + 1) (fun i e he => by
    rw [Array.getElem?_map] at he
    obtain ⟨y, _, rfl⟩ := Option.map_eq_some_iff.mp he
    rfl) h (10 * SetTable.turns t.mask) 0 ⟨N, n0, by rw [fs, Nat.zero_add]; exact n1⟩
  rw [Nat.zero_add] at d3
  rcases d3 with ⟨g, ge⟩ | ⟨e, i, hm, eh, _⟩
  · rw [fs] at ge
    refine ⟨d, ?_, ge⟩
    have g' : t.probe (fun _ => h + 1) h (t.probeStart h) = some (.empty (pth t.mask h d).j none) := g
    unfold SetTable.freeSlot
    rw [g']; rfl
  · obtain ⟨y, _, e2⟩ := List.mem_map.mp hm
    have : e = (h + 1, y.2.2) := by injection e2 with _ e2; exact e2.symm
    rw [this] at eh
    have eh : h + 1 = h := eh
    omega
theorem laid_order {m f mvs : Nat} {led pl : Bool} (hm : MaskOk m) (es : Array (Int × Value)) (hl : es.size ≤ m) {t : SetTable} {order : Array Nat} (e : SetTable.laid m f mvs led pl (es.map (·.1)) = some (t, order)) : order.toList.Perm (List.range es.size) := by
  obtain ⟨ow, h1, h2⟩ := layClean_all hm (es.map (·.1)) (by rw [Array.size_map]; omega)
  have hlen : (es.map (·.1)).toList.length = es.size := by simp
  have mem := fun {j k : Nat} => liveL_mem (j := j) (k := k) h2.sz
  have eo : order.toList = (liveL m ow).map Prod.snd := by
    unfold SetTable.laid at e
    rw [h1] at e
    have e := congrArg (fun x => x.map Prod.snd) e
    have e : some (((liveL m ow).map Prod.snd).toArray) = some order := e
    rw [← Option.some.inj e]
  rw [eo]
  refine perm_of_mem ?_ List.nodup_range fun k => ?_
  · have r := List.pairwise_map.mp (liveL_ris m ow)
    refine List.pairwise_map.mpr (List.Pairwise.imp_of_mem (fun {x y} hx hy hxy e => ?_) r)
    have q1 := mem.mp hx
    rw [e] at q1
    have := h2.un _ _ _ q1 (mem.mp hy)
    omega
  · rw [List.mem_range, ← hlen]
    constructor
    · intro q
      obtain ⟨x, hx, rfl⟩ := List.mem_map.mp q
      exact h2.lt x.1 x.2 (mem.mp hx)
    · intro q
      obtain ⟨j, hj⟩ := h2.ex k q
      exact List.mem_map.mpr ⟨(j, k), mem.mpr hj, rfl⟩
def keyI (e : Int × Value) : Int := match e.2 with
  | .int n _ => n
  | _ => 0
section
variable {prog : Program} {w : World} {A : Around} {E : Value → Shared → Prop} {s : Shared}
structure IX (h : Heap) (a : Addr) (led : Bool) (ks : List Int) (o : Obj) (es : Array (Int × Value)) (ep : Nat) (t : SetTable) (L : List (Nat × (Int × Value))) : Prop where
  at_ : h.get? a = some o
  ex : o.ExactSet
  dt : o.data = .set es ep t
  ly : LY t es L
  mk_ : MaskOk t.mask
  cn : L.length * 5 < t.mask * 3
  en : ∀ e ∈ L.map Prod.snd, ∃ n u, e = (hashInt n, .int n u)
  ky : ((L.map Prod.snd).map keyI).Perm ks
  nd : ks.Nodup
  ld : t.led = led
  pl : t.plain = true
variable {a : Addr} {led : Bool} {ks : List Int} {o : Obj} {es : Array (Int × Value)} {ep : Nat} {t : SetTable} {L : List (Nat × (Int × Value))}
def IXO (h : Heap) (a : Addr) (led : Bool) (ks : List Int) : Prop := ∃ o es ep t L, IX h a led ks o es ep t L
def stpI (ks : List Int) (k : Int) : List Int := if k ∈ ks then ks else ks ++ [k]
theorem IX.len {h : Heap} (x : IX h a led ks o es ep t L) : es.size = L.length ∧ L.length = ks.length := by
  refine ⟨by rw [← Array.length_toList, x.ly.el, List.length_map], ?_⟩
  have := x.ky.length_eq
  rw [List.length_map, List.length_map] at this; exact this
theorem IX.fits {h : Heap} (x : IX h a led ks o es ep t L) : t.fits es.size = true := by
  have h1 : t.place.size = L.length := by rw [← Array.length_toList, x.ly.pl, List.length_map]
  have h2 := x.len.1
  have h3 := x.cn
  have h4 : t.dummies.size = 0 := by rw [x.ly.dm]; rfl
  unfold SetTable.fits SetTable.fill
  rw [Bool.and_eq_true, beq_iff_eq, decide_eq_true_eq]
  exact ⟨by omega, by omega⟩
theorem IX.elems {h : Heap} (x : IX h a led ks o es ep t L) : ElemsOf (intKind prog w) es.toList := fun e he => by
  rw [x.ly.el] at he
  obtain ⟨n, u, rfl⟩ := x.en e he
  exact ⟨⟨n, by show Value.isInt n (.int n u) = true; simp [Value.isInt], rfl⟩, rfl⟩
theorem add_int (hS : IXO s.heap a led ks) {k : Int} {u : Tok} (hr : ks.length + 1 ≤ 76) {Q : Bool → Shared → Prop} (h : ∀ h', Heap.SameBut a s.heap h' → IXO h' a led (stpI ks k) → ∀ bb, Q bb { s with heap := h' }) :
    wpAny (model prog w) A (setAddHashed a (.int k u) (hashInt k)) Q E s := by
  obtain ⟨o, es, ep, t, L, x⟩ := hS
  have fit := x.fits
  obtain ⟨l1, l2⟩ := x.len
  have hsz := sizeLine_eq
  have el := x.elems (prog := prog) (w := w)
  unfold setAddHashed
  refine wpAny_holding ?_
  rw [show (100000 : Nat) = 99999 + 1 from rfl, setAddHashedIn]
  refine wpAny_bind (wpAny_setState_of x.at_ x.dt fit ?_)
  dsimp only
  have bs : byScan (.int k u) es = true := by
    unfold byScan
    rw [Bool.and_eq_true, Bool.and_eq_true]
    refine ⟨⟨rfl, decide_eq_true (by unfold scanBound; omega)⟩, ?_⟩
    rw [← Array.all_toList, List.all_eq_true]
    exact fun e he => (el e he).2
  rw [if_pos bs]
  unfold setAddByScan
  refine wpAny_bind (wpAny_bind (wpAny_rule (wpAny_bind (wpAny_setScan_of (knd := intKind prog w) (k := k) (show Value.isInt k (.int k u) = true by simp [Value.isInt]) x.at_ x.dt fit el ?_))))
  cases hf : List.findIdx? (fun e : Int × Value => (intKind prog w).is k e.2) es.toList with
  | some j =>
    have hin : k ∈ ks := by
      obtain ⟨hj, hk, _⟩ := List.findIdx?_eq_some_iff_getElem.mp hf
      have he : es.toList[j] ∈ L.map Prod.snd := by rw [← x.ly.el]; exact List.getElem_mem hj
      obtain ⟨n, u', e⟩ := x.en _ he
      rw [e] at hk
      have hn : n = k := by
        have hk : Value.isInt k (.int n u') = true := hk
        simpa [Value.isInt] using hk
      refine x.ky.mem_iff.mp (List.mem_map.mpr ⟨_, he, ?_⟩)
      rw [e]; exact hn
    exact wpAny_pure (wpAny_pure (h s.heap (Heap.SameBut.refl a s.heap) (by unfold stpI; rw [if_pos hin]; exact ⟨o, es, ep, t, L, x⟩) _))
  | none =>
    have hout : k ∉ ks := fun hin => by
      obtain ⟨e, he, hk⟩ := List.mem_map.mp (x.ky.mem_iff.mpr hin)
      obtain ⟨n, u', rfl⟩ := x.en e he
      have hn : n = k := hk
      have := List.findIdx?_eq_none_iff.mp hf _ (by rw [x.ly.el]; exact he)
      have this : Value.isInt k (.int n u') = false := this
      rw [hn] at this
      simp [Value.isInt] at this
    obtain ⟨N, fs, N1⟩ := free_slot x.ly x.mk_ (by have := x.cn; omega) (hashInt k)
    obtain ⟨L', ly, mem, ll, pm⟩ := x.ly.put (j := (pth t.mask (hashInt k) N).j) (hashInt k, .int k u) N1 (pth_pv t.mask _ N).j
    have pl' : (t.put (pth t.mask (hashInt k) N).j).1.plain = true := x.pl
    have ld' : (t.put (pth t.mask (hashInt k) N).j).1.led = led := x.ld
    have mk' : (t.put (pth t.mask (hashInt k) N).j).1.mask = t.mask := rfl
    have sz1 : (SetTable.insertAt es (t.put (pth t.mask (hashInt k) N).j).2 (hashInt k, .int k u)).size = L.length + 1 := by rw [← Array.length_toList, ly.el, List.length_map, ll]
    have fl : (t.put (pth t.mask (hashInt k) N).j).1.fill = L.length + 1 := by
      unfold SetTable.fill
      rw [ly.dm, ← Array.length_toList, ly.pl, List.length_map, ll]; rfl
    have fit1 : (t.put (pth t.mask (hashInt k) N).j).1.fits (L.length + 1) = true := by
      unfold SetTable.fits
      rw [Bool.and_eq_true, beq_iff_eq, decide_eq_true_eq, fl, mk']
      exact ⟨by rw [← Array.length_toList, ly.pl, List.length_map, ll], by have := x.cn; rcases x.mk_ with e | e | e <;> omega⟩
    have ln : layNew t es (hashInt k) (.int k u) = (SetTable.insertAt es (t.put (pth t.mask (hashInt k) N).j).2 (hashInt k, .int k u), (t.put (pth t.mask (hashInt k) N).j).1, false, false) := by
      unfold layNew
      rw [fs]
      dsimp only
      rw [sz1]
      unfold SetTable.orStandIn
      rw [fit1]; rfl
    rw [ln]
    generalize t.put (pth t.mask (hashInt k) N).j = W at ly pl' ld' mk' sz1 fl fit1 ⊢
    obtain ⟨t1, p⟩ := W
    dsimp only at ly pl' ld' mk' sz1 fl fit1 ⊢
    refine wpAny_bind (show wpAny _ _ (pure ()) _ _ _ from wpAny_pure ?_)
    rw [if_pos pl']
    refine wpAny_bind (show wpAny _ _ (hashByValue 8 (.int k u)) _ _ _ from wpAny_of_eq (a := true) (by simp [hashByValue]) ?_)
    rw [if_pos rfl]
    have hout' : (ks ++ [k]).Nodup := by
      rw [List.nodup_append]
      exact ⟨x.nd, by simp, fun u hu v hv e => hout (by rw [← List.mem_singleton.mp hv, ← e]; exact hu)⟩
    have ky' : ((L'.map Prod.snd).map keyI).Perm (ks ++ [k]) := by
      refine (pm.map _).trans ?_
      rw [List.map_cons]
      exact (List.Perm.cons _ x.ky).trans (List.perm_append_singleton k ks).symm
    have en' : ∀ e ∈ L'.map Prod.snd, ∃ n u, e = (hashInt n, .int n u) := fun e he => by
      rcases List.mem_cons.mp (pm.mem_iff.mp he) with q | q
      · exact ⟨k, u, q⟩
      · exact x.en e q
    have fin : stpI ks k = ks ++ [k] := if_neg hout
    refine wpAny_bind (wpAny_storeSet_of x.at_ x.dt ?_ (by rw [sz1]; omega))
    have at1 := store_at (SetTable.insertAt es p (hashInt k, .int k u)) t1 x.at_ x.dt
    have sb1 := Heap.SameBut.update s.heap a (Obj.putSet (SetTable.insertAt es p (hashInt k, .int k u)) t1)
    generalize s.heap.update a (Obj.putSet (SetTable.insertAt es p (hashInt k, .int k u)) t1) = h1 at at1 sb1 ⊢
    generalize SetTable.insertAt es p (hashInt k, .int k u) = es1 at ly at1 sz1 ⊢
    by_cases c : (L.length + 1) * 5 < t.mask * 3
    · rw [if_neg (by unfold SetTable.tooFull; rw [fl, mk']; simp; omega)]
      exact wpAny_pure (wpAny_pure (h h1 sb1 ⟨_, es1, ep + 1, t1, L', at1, x.ex, rfl, ly, by rw [mk']; exact x.mk_, by rw [mk', ll]; exact c, en', by rw [fin]; exact ky', by rw [fin]; exact hout', ld', pl'⟩ _))
    · rw [if_pos (by unfold SetTable.tooFull; rw [fl, mk']; simp; omega)]
      obtain ⟨m', g1, g2, g3, g4⟩ := grown_mask x.mk_ x.cn c (by omega)
      obtain ⟨t2, order, L2, r1, r2, r3, r4, r5, r6, r7, r8, r9⟩ := laid_ok (f := t1.finger) (mvs := t1.movedTo m') (led := t1.led) (pl := t1.plain) g2 es1 (by rw [sz1]; rcases g2 with e | e | e <;> omega)
      have od := laid_order g2 es1 (by rw [sz1]; rcases g2 with e | e | e <;> omega) r1
      have f2 : t2.fits es1.size = true := by
        unfold SetTable.fits SetTable.fill
        rw [r5.dm, Bool.and_eq_true, beq_iff_eq, decide_eq_true_eq, r2, ← Array.length_toList, r5.pl, List.length_map, r8, sz1]
        exact ⟨rfl, by simp; omega⟩
      have ra : relayAll t1 es1 (SetTable.grown es1.size) = (order.filterMap (es1[·]?), t2, false) := by
        unfold relayAll SetTable.relaid
        rw [sz1, g1, r1]
        dsimp only
        rw [r9, sz1, if_pos]
        rw [← sz1, f2, Bool.and_true]
        unfold coversAll
        exact List.isPerm_iff.mpr od
      rw [ra]
      dsimp only
      refine wpAny_bind (show wpAny _ _ (pure ()) _ _ _ from wpAny_pure ?_)
      refine wpAny_bind (wpAny_storeSet_of at1 rfl ?_ (by rw [r9, sz1]; omega))
      have at2 := store_at (order.filterMap (es1[·]?)) t2 at1 rfl
      have sb2 := Heap.SameBut.update h1 a (Obj.putSet (order.filterMap (es1[·]?)) t2)
      generalize h1.update a (Obj.putSet (order.filterMap (es1[·]?)) t2) = h2 at at2 sb2 ⊢
      have pm2 : (L2.map Prod.snd).Perm (L'.map Prod.snd) := by rw [← ly.el]; exact r7
      exact wpAny_pure (wpAny_pure (h h2 (sb1.trans sb2) ⟨_, _, _, t2, L2, at2, x.ex, rfl, r5, by rw [r2]; exact g2, by rw [r2, r8, sz1]; exact g3, fun e he => en' e (pm2.mem_iff.mp he), by rw [fin]; exact (pm2.map _).trans ky', by rw [fin]; exact hout', by rw [r3]; exact ld', by rw [r4]; exact pl'⟩ _))
end
end L2
set_option Elab.async false
set_option linter.all false
set_option maxRecDepth 100000
set_option maxHeartbeats 4000000
namespace L2
open PySem PySem.Spec PyProof.Rows
def fmI (ks : List Int) : List Int := ks.foldl stpI []
theorem fmI_snoc (ks : List Int) (k : Int) : fmI (ks ++ [k]) = stpI (fmI ks) k := by unfold fmI; rw [List.foldl_append]; rfl
theorem stpI_mem (a : List Int) (k x : Int) : x ∈ stpI a k ↔ x ∈ a ∨ x = k := by
  unfold stpI
  split
  · rename_i h
    exact ⟨.inl, fun q => q.elim id fun e => e ▸ h⟩
  · rw [List.mem_append, List.mem_singleton]
theorem stpI_len (a : List Int) (k : Int) : (stpI a k).length ≤ a.length + 1 := by unfold stpI; split <;> simp
theorem fmI_facts : ∀ ks : List Int, (fmI ks).length ≤ ks.length ∧ ∀ x, x ∈ fmI ks ↔ x ∈ ks := by
  have gen : ∀ (ks a : List Int), (ks.foldl stpI a).length ≤ a.length + ks.length ∧ ∀ x, x ∈ ks.foldl stpI a ↔ x ∈ a ∨ x ∈ ks := fun ks => by
    induction ks with
    | nil => intro a; simp
    | cons k ks ih =>
      intro a
      obtain ⟨h1, h2⟩ := ih (stpI a k)
      have h3 := stpI_len a k
      refine ⟨by rw [List.foldl_cons, List.length_cons]; omega, fun x => ?_⟩
      rw [List.foldl_cons, h2, stpI_mem, List.mem_cons, or_assoc]
  intro ks
  have h := gen ks []
  exact ⟨by simpa [fmI] using h.1, fun x => by simpa [fmI] using h.2 x⟩
theorem ints_at : ∀ {its : List Value} {ns : List Int}, IntsAre its ns → ∀ (i : Nat) (v : Value), its[i]? = some v → ∃ t, v = .int (ns.getD i 0) t
  | its, ns, h, i, v, e => by
    have g := (vals_of_ints h)
    obtain ⟨hi, rfl⟩ := List.getElem?_eq_some_iff.mp e
    have hl := g.length
    rw [List.length_map] at hl
    obtain ⟨u, q1, q2⟩ := g.get (i := i) (x := .int (ns.getD i 0)) (by rw [List.getElem?_map, List.getElem?_eq_getElem (by omega), List.getD_eq_getElem?_getD, List.getElem?_eq_getElem (by omega)]; rfl)
    rw [List.getElem?_eq_getElem hi] at q1
    cases q1
    exact q2
section
variable {prog : Program} {w : World} {A : Around} {E : Value → Shared → Prop} {s : Shared}
theorem ix_new {h : Heap} {a : Addr} {led : Bool} (e : h.get? a = some (setO led)) : IX h a led [] (setO led) #[] 0 (.fresh 0 0 led) [] :=
  ⟨e, ⟨rfl, rfl, rfl⟩, rfl, ⟨rfl, rfl, by simp, rfl, by simp⟩, .inl rfl, by show (0 : Nat) * 5 < 7 * 3; decide, by simp, .nil, .nil, rfl, rfl⟩
theorem IX.to {h h' : Heap} {a : Addr} {led : Bool} {ks : List Int} {o : Obj} {es : Array (Int × Value)} {ep : Nat} {t : SetTable} {L : List (Nat × (Int × Value))} (x : IX h a led ks o es ep t L) (ea : h'.get? a = some o) : IX h' a led ks o es ep t L := ⟨ea, x.ex, x.dt, x.ly, x.mk_, x.cn, x.en, x.ky, x.nd, x.ld, x.pl⟩
theorem set_ints {l : Addr} {its : List Value} {ns : List Int} {Q : Value → Shared → Prop} (hh : A.handled = none) (hu : A.units + 16 < cLine) (hl : s.heap.IsList l its.toArray) (hn : IntsAre its ns) (h75 : ns.length ≤ 75)
    (h : ∀ (h' : Heap) (tk : Nat), IXO h' s.heap.objs.size (!w.params.followText "set-order") (fmI ns) → (∀ b o, b < s.heap.objs.size → s.heap.get? b = some o → h'.get? b = some o) → Q (.ref s.heap.objs.size) { s with heap := h', toks := tk }) :
    wpAny (model prog w) A (call (.type "set") [.ref l]) Q E s := by
  have le : its.length = ns.length := by have := (vals_of_ints hn).length; rw [List.length_map] at this; exact this.symm
  have sz : its.toArray.size = ns.length := by rw [List.size_toArray, le]
  refine call_setG (SP := fun i h => IXO h s.heap.objs.size (!w.params.followText "set-order") (fmI (ns.take i))) hh hu hl ⟨?_, ?_⟩ ?_ ?_
  · rintro i h1 h2 ⟨o, es, ep, t, L, x⟩ kk
    exact ⟨o, es, ep, t, L, x.to (kk _ _ (Nat.ne_of_lt (Nat.lt_succ_self _)) x.at_)⟩
  · rintro A' E' i v s' Q' hu' hi hv sp q
    rw [sz] at hi
    rw [List.getElem?_toArray] at hv
    obtain ⟨u, rfl⟩ := ints_at hn i v hv
    unfold setAdd
    refine wpAny_holding (wpAny_bind (wpAny_pyHash_int ?_))
    have tk : ns.take (i + 1) = ns.take i ++ [ns.getD i 0] := by rw [List.take_add_one, List.getD_eq_getElem?_getD, List.getElem?_eq_getElem hi]; rfl
    have ll := (fmI_facts (ns.take i)).1
    rw [List.length_take] at ll
    refine add_int (s := { s' with toks := s'.toks + 1 }) sp (by omega) fun h2 sb tx b => q h2 _ sb (by rw [tk, fmI_snoc]; exact tx) b
  · intro h1 e1 kk
    exact ⟨_, _, _, _, [], by simpa [fmI] using ix_new e1⟩
  · intro h1 tk sp kk
    refine h h1 tk ?_ kk
    rw [sz, List.take_length] at sp
    exact sp
theorem sorted_setI {a : Addr} {ks : List Int} {o : Obj} {es : Array (Int × Value)} {ep : Nat} {t : SetTable} {L : List (Nat × (Int × Value))} {Q : Value → Shared → Prop} (x : IX s.heap a (!w.params.followText "set-order") ks o es ep t L) (hh : A.handled = none) (h64 : ks.length < 64)
    (h : ∀ (D : Addr) (h' : Heap) (tk : Nat) (vs : List Value) (ns : List Int) (c : Nat), (∀ b o, s.heap.get? b = some o → h'.get? b = some o) → s.heap.objs.size ≤ D → h'.get? D = some (seqObj "list" vs.toArray c) → IntsAre vs ns → ns.Perm ks → ns.Pairwise (· ≤ ·) → Q (.ref D) { s with heap := h', toks := tk }) :
    wpAny (model prog w) A (call (.builtin "sorted") [.ref a]) Q E s := by
  have hsz := sizeLine_eq
  obtain ⟨l1, l2⟩ := x.len
  have y : SR s.heap a o es ep t := ⟨x.at_, x.ex.1, x.dt, x.fits, x.ly.rp, x.pl, by omega⟩
  have pz : t.place.size = es.size := by rw [← Array.length_toList, x.ly.pl, List.length_map, l1]
  refine Calls.call_function_entry kind_sorted plain_sorted entry_sorted (args_sorted1 _) ?_
  unfold Builtin.«sorted»
  refine wpAny_bind (m := checkCount "sorted" 1 1 _) (wpAny_pure (wpAny_bind (collectR (A := A.in1) y x.ld pz hh fun h1 tk vs k1 z1 hvp => ?_)))
  have toI : ∀ vs : List Value, (∀ v ∈ vs, ∃ n u, v = .int n u) → IntsAre vs (vs.map fun v => keyI (0, v)) := fun vs => by
    induction vs with
    | nil => intro _; exact .nil
    | cons v vs ih =>
      intro hv
      obtain ⟨n, u, rfl⟩ := hv v (.head _)
      exact .cons _ _ (ih fun v' hv' => hv v' (.tail _ hv'))
  have hI := toI vs fun v hv => by
    obtain ⟨e, he, rfl⟩ := List.mem_map.mp (hvp.mem_iff.mp hv)
    rw [x.ly.el] at he
    obtain ⟨n, u, rfl⟩ := x.en e he
    exact ⟨n, u, rfl⟩
  have pk : (vs.map fun v => keyI (0, v)).Perm ks := by
    refine List.Perm.trans ?_ x.ky
    have e2 : (L.map Prod.snd).map keyI = (es.toList.map (·.2)).map fun v => keyI (0, v) := by rw [x.ly.el, List.map_map, List.map_map, List.map_map]; rfl
    rw [e2]
    exact hvp.map _
  have vl : vs.length = ks.length := by rw [← pk.length_eq, List.length_map]
  refine wpAny_bind (wpAny_newList ?_ (by rw [vl, hsz]; omega))
  have hD : (h1.push (seqObj "list" vs.toArray 0)).get? h1.objs.size = some (seqObj "list" vs.toArray 0) := Heap.get?_push_size _ rfl
  refine wpAny_bind (wpAny_holding (wpAny_call_entry slot_list_sort ⟨_, hD, rfl⟩ entry_list_sort (list_sort_tree hD hI (by omega) fun out ns a1 a2 a3 => ⟨_, rfl, ?_⟩) (args_list_sort _)))
  obtain ⟨c, hc⟩ := sortedHeap_at (out := out) hD
  have hlt1 : ∀ b o, s.heap.get? b = some o → b < h1.objs.size := fun b o e => Heap.lt_size (k1 b o e)
  refine wpAny_pure ⟨_, rfl, h h1.objs.size _ tk out.toList ns c (fun b o e => ?_) z1 (by rw [Array.toArray_toList]; exact hc) a1 (a2.trans pk) a3⟩
  rw [sortedHeap_old (Nat.ne_of_lt (hlt1 b o e)) (by rw [Heap.size_push]; exact Nat.lt_succ_of_lt (hlt1 b o e))]
  exact Heap.get?_push_of_some _ (k1 b o e)
end
section
variable {X : Cx} {pins : List (Addr × Obj)} {σ : L2.St} {H : Hp} {s : Shared}
def rSortedSetI : List V → Hp → VK → Prop := fun vs H Q => match vs with
  | [.ref l] => ∃ ns : List Int, H l = some (.lst (ns.map V.int)) ∧ ns.length < 64 ∧ ∀ (p : Addr) (ms : List Int), H p = none → ms.Nodup → (∀ x, x ∈ ms ↔ x ∈ ns) → ms.Pairwise (· ≤ ·) → Q (.ref p) (upd H p (.lst (ms.map V.int)))
  | _ => False
def tSortedSetI (ta : TE) : TE := tCB rSortedSetI (tCons ta tNil)
theorem rSortedSetI_ref (l : Addr) (H : Hp) (Q : VK) : rSortedSetI [.ref l] H Q = (∃ ns : List Int, H l = some (.lst (ns.map V.int)) ∧ ns.length < 64 ∧ ∀ (p : Addr) (ms : List Int), H p = none → ms.Nodup → (∀ x, x ∈ ms ↔ x ∈ ns) → ms.Pairwise (· ≤ ·) → Q (.ref p) (upd H p (.lst (ms.map V.int)))) := rfl
theorem qpe_sortedSetI {a : Expr} {ta : TE} {p1 p2 q1 q2 : Pos} (hc : X.calm = true) (hu : X.A.units + 64 < cLine) (hg : Gl X "sorted") (hm : X.mg "sorted" = none) (hg2 : Gl X "set") (hm2 : X.mg "set" = none) (ha : QE X a ta)
    (hs : starEach [(.Call (.Name "set" p2) [a] [] q2)] X.env = [(false, eval (.Call (.Name "set" p2) [a] [] q2) X.env)] := by rfl) (hs2 : starEach [a] X.env = [(false, eval a X.env)] := by rfl) :
    QE X (.Call (.Name "sorted" p1) [.Call (.Name "set" p2) [a] [] q2] [] q1) (tSortedSetI ta) := ⟨by
  intro pins s σ H Q I h
  refine wpAny_Call_Name_kw (ld_blt I hg hm bt_sorted (PyProof.Rows.callWith_builtin1 ?_ hs rfl))
  rw [hs]
  refine show wpAny _ _ (spliced ((false, eval (.Call (.Name "set" p2) [a] [] q2) X.env) :: [])) _ _ s from Calls.spliced_cons ?_
  have hA : PA X [a] (tCons ta tNil) := pa_cons ha.h pa_nil hs2
  refine wpAny_Call_Name_kw (ld_blt I hg2 hm2 bt_set (PyProof.Rows.callWith_type1 (thn (hA q2 pins s σ H (fun vs H1 => rSortedSetI vs H1 Q) I h) fun us s1 ⟨vs, H1, I1, r1, q1⟩ => ?_) hs2 rfl))
  replace q1 : rSortedSetI vs H1 Q := q1
  unfold rSortedSetI at q1
  split at q1
  · rename_i l
    obtain ⟨ns, e, h64, q⟩ := q1
    obtain ⟨u, rfl, ru⟩ := vals1 r1
    cases ru
    have hh := I1.ok.hd hc
    obtain ⟨its, rr, pl, hz⟩ := I1.list (SqL.of e)
    refine set_ints (s := s1) hh (by omega) pl.isList (intsAre_of rr) (by omega) fun h' tk hS hk => Calls.spliced_nil ?_
    obtain ⟨o, es, ep, t, L, x⟩ := hS
    obtain ⟨fl, fm⟩ := fmI_facts ns
    have I2 : Inv X pins σ H1 { s1 with heap := h', toks := tk } := I1.kept fun b o e => hk b o (Heap.lt_size e) e
    refine sorted_setI (s := { s1 with heap := h', toks := tk }) x hh (by omega) fun D h2 tk2 vs ms c k2 hD e2 hI pm ps => ?_
    have ml : ms.length < 64 := by rw [pm.length_eq]; omega
    have hln : sizeLine = 16777216 := sizeLine_eq
    have I3 : Inv X pins σ (upd H1 D (.lst (ms.map V.int))) { ({ s1 with heap := h', toks := tk } : Shared) with heap := h2, toks := tk2 } :=
      I2.laid (fun b o e => k2 b o e) hD ⟨by rw [List.length_map]; omega, vs, c, vals_of_ints hI, e2⟩
    exact ⟨.ref D, _, I3, rfl, q D ms (I2.hok.fresh hD) (pm.nodup_iff.mpr x.nd) (fun z => by rw [pm.mem_iff, fm]) ps⟩
  · exact q1.elim⟩
end
end L2
set_option Elab.async false
set_option linter.all false
set_option maxRecDepth 100000
set_option maxHeartbeats 4000000
namespace L2
open PySem PySem.Spec PyProof.Rows
end L2
set_option Elab.async false
set_option linter.all false
set_option maxRecDepth 100000
set_option maxHeartbeats 4000000
namespace L2
open PySem PySem.Spec PyProof.Rows
section
variable {prog : Program} {w : World} {A : Around} {E : Value → Shared → Prop} {s : Shared}
theorem unpack_two {l : Addr} {u v : Value} {targets : List (Bool × (Value → Sem Unit))} {Q : Unit → Shared → Prop} (hh : A.handled = none) (hl : s.heap.IsList l #[u, v]) (hn : targets.length = 2) (hs : targets.findIdx? (·.1) = none)
    (h : ∀ h' tk, (∀ b o, b ≠ s.heap.objs.size → s.heap.get? b = some o → h'.get? b = some o) → wpAny (model prog w) A (assignInOrder (targets.map (·.2)) [u, v]) Q E { s with heap := h', toks := tk }) : wpAny (model prog w) A (unpack (.ref l) targets) Q E s := by
  have hlt : l < s.heap.objs.size := by obtain ⟨o, ho, _⟩ := hl; exact Heap.lt_size ho
  unfold unpack
  rw [hn, hs]
  refine wpAny_bind (wpAny_holding ?_)
  unfold unpackItems notIterableAtAll
  refine wpAny_bind (wpAny_bind (wpAny_specialOf hl.typeIs PySem.F.slot_list_iter.lookup (wpAny_pure ?_)))
  simp only [Bool.false_eq_true, if_false]
  refine wpAny_bind (wpAny_holding (wpAny_pyIter_list hl ?_))
  have W := Walks.list (prog := prog) (w := w) (A := A) (by simp [hh]) s.heap.objs.size l (Nat.ne_of_lt hlt) #[u, v]
  have k0 : ∀ b o, s.heap.get? b = some o → (s.heap.push { cls := .type "list_iterator", data := .fields #[.ref l, .int 0 0] }).get? b = some o := fun b o e => Heap.get?_push_of_some _ e
  have st0 : (s.heap.push { cls := .type "list_iterator", data := .fields #[.ref l, .int 0 0] }).IsListIter s.heap.objs.size l 0 ∧ (s.heap.push { cls := .type "list_iterator", data := .fields #[.ref l, .int 0 0] }).IsList l #[u, v] := ⟨⟨_, Heap.get?_push_size _ rfl, rfl, rfl⟩, by obtain ⟨o, ho, r⟩ := hl; exact ⟨o, k0 _ _ ho, r⟩⟩
  generalize s.heap.push { cls := .type "list_iterator", data := .fields #[.ref l, .int 0 0] } = h0 at k0 st0 ⊢
  refine wpAny_bind (wpAny_holding (show wpAny _ _ (pyNext (.ref s.heap.objs.size) >>= _) _ _ _ from wpAny_bind (W.item 0 { s with heap := h0 } _ _ (by simp) st0 fun a h1 tk1 ha st1 k1 => ?_)))
  refine wpAny_bind (wpAny_holding (show wpAny _ _ (pyNext (.ref s.heap.objs.size) >>= _) _ _ _ from wpAny_bind (W.item 1 { s with heap := h1, toks := tk1 } _ _ (by simp) st1 fun b h2 tk2 hb st2 k2 => ?_)))
  have ea : u = a := by simpa using ha
  have eb : v = b := by simpa using hb
  subst ea eb
  refine wpAny_bind (wpAny_holding (show wpAny _ _ (pure []) _ _ _ from wpAny_pure (wpAny_pure (wpAny_pure ?_))))
  rw [if_neg (by simp)]
  refine wpAny_bind (wpAny_holding (W.done { s with heap := h2, toks := tk2 } _ _ st2 fun h3 tk3 k3 => ?_))
  simp only [Option.isSome_none, Bool.false_eq_true, if_false]
  refine wpAny_pure (h h3 tk3 fun b o hb e => k3 b o (by simpa using hb) (k2 b o (by simpa using hb) (k1 b o (by simpa using hb) (k0 b o e))))
end
section
variable {X : Cx}
def gLst2 (K : PySem.W.Frag) (t : TGs) : TG := fun v σ H Q => ∃ a x y, v = .ref a ∧ SqL K H a [x, y] ∧ t [x, y] σ H Q
theorem qpg_lst2 {es : List Expr} {k : Nat} {pos : Pos} {t : TGs} {K : PySem.W.Frag} (hc : X.calm = true) (h : QGs X es t) (hK : X.K = K) (hn : (assignEach es X.env).length = 2 := by rfl) (hst : (assignEach es X.env).findIdx? (·.1) = none := by rfl) : QG X (.Tuple es k pos) (gLst2 K t) := by
  subst hK
  refine ⟨fun pins s σ H v u Q I r hw => ?_⟩
  obtain ⟨a, x, y, e1, hq, hw⟩ := hw
  subst e1
  cases r
  obtain ⟨its, rv, ht, hz⟩ := I.list hq
  obtain ⟨u1, u2, rfl, r1, r2⟩ := rv.two
  rw [assign_Tuple]
  refine wpAny_bind (wpAny_standAt (unpack_two (I.ok.hd hc) ht.isList hn hst fun h' tk hx => ?_))
  have I1 : Inv X pins σ H { s with heap := h', toks := tk } := I.kept (t' := tk) fun b o e => hx b o (Nat.ne_of_lt (Heap.lt_size e)) e
  exact h.h pins _ σ H [x, y] _ Q I1 (.cons r1 (.cons r2 .nil)) hw
end
end L2
set_option Elab.async false
set_option linter.all false
set_option maxRecDepth 100000
set_option maxHeartbeats 4000000
namespace L2
open PySem PySem.Spec PyProof.Rows
def runT {α : Type} (lt : Nat → Nat → Bool) : PySem.W.KasT α → α
  | .ret a => a
  | .ask i j k => runT lt (k (lt i j))
theorem runT_bind {α β : Type} {lt : Nat → Nat → Bool} {f : α → PySem.W.KasT β} : ∀ (t : PySem.W.KasT α), runT lt (t.bind f) = runT lt (f (runT lt t))
  | .ret _ => rfl
  | .ask i j k => runT_bind (k (lt i j))
theorem runT_wp {α : Type} {N : Nat} {P : α → Prop} {lt : Nat → Nat → Bool} {cmp : Nat → Nat → (Bool → Shared → Prop) → Shared → Prop} {Q : α → Shared → Prop} {s : Shared} (hc : ∀ i j C, i < N → j < N → C (lt i j) s → cmp i j C s) : ∀ {t : PySem.W.KasT α}, Leafs N P t → (P (runT lt t) → Q (runT lt t) s) → t.kasWp cmp Q s
  | .ret a, h, hq => hq h
  | .ask i j k, h, hq => hc i j _ h.1 h.2.1 (runT_wp hc (t := k (lt i j)) (h.2.2 _) hq)
def Up (g : Nat → Nat) (k : Nat) : Prop := ∀ i j, i ≤ j → j < k → g i ≤ g j
def Dn (g : Nat → Nat) (k : Nat) : Prop := ∀ i j, i ≤ j → j < k → g j ≤ g i
theorem Up.one {g : Nat → Nat} : Up g 1 := fun i j h1 h2 => by obtain rfl : i = j := (by omega); exact Nat.le_refl _
theorem Up.more {g : Nat → Nat} {n : Nat} (h : Up g n) (h1 : 1 ≤ n) (hn : g (n - 1) ≤ g n) : Up g (n + 1) := fun i j h2 h3 => by
  by_cases e : j < n
  · exact h i j h2 e
  · obtain rfl : j = n := by omega
    by_cases e2 : i = j
    · rw [e2]; exact Nat.le_refl _
    · exact Nat.le_trans (h i (j - 1) (by omega) (by omega)) hn
theorem Dn.more {g : Nat → Nat} {n : Nat} (h : Dn g n) (h1 : 1 ≤ n) (hn : g n ≤ g (n - 1)) : Dn g (n + 1) := fun i j h2 h3 => by
  by_cases e : j < n
  · exact h i j h2 e
  · obtain rfl : j = n := by omega
    by_cases e2 : i = j
    · rw [e2]; exact Nat.le_refl _
    · exact Nat.le_trans hn (h i (j - 1) (by omega) (by omega))
def Rk (r : Nat → Nat) (p : Array Nat) (i : Nat) : Nat := r (p.getD i 0)
def ltR (r : Nat → Nat) (i j : Nat) : Bool := decide (r i < r j)
section
variable {r : Nat → Nat}
theorem Rk_eq {p q : Array Nat} {i j : Nat} (h : p[i]? = q[j]?) : Rk r p i = Rk r q j := by
  unfold Rk; rw [Array.getD_eq_getD_getElem?, Array.getD_eq_getD_getElem?, h]
theorem Rk_rev {p : Array Nat} {i j : Nat} (hj : j ≤ p.size) (k : Nat) : Rk r (PySem.W.kas_rev p i j) k = if i ≤ k ∧ k < j then Rk r p (i + j - 1 - k) else Rk r p k := by
  have h := getElem?_mirror_all (i := i) hj k
  by_cases c : i ≤ k ∧ k < j
  · rw [if_pos c] at h ⊢; exact Rk_eq h
  · rw [if_neg c] at h ⊢; exact Rk_eq h
theorem Rk_bub {p : Array Nat} {a d : Nat} (hs : a < p.size) (hd : d ≤ a) (k : Nat) : Rk r (bubble p a d) k = if k = a - d then Rk r p a else if a - d < k ∧ k ≤ a then Rk r p (k - 1) else Rk r p k := by
  have h := getElem?_bubble hs d hd k
  by_cases c : k = a - d
  · rw [if_pos c] at h ⊢; exact Rk_eq h
  · rw [if_neg c] at h ⊢
    by_cases c2 : a - d < k ∧ k ≤ a
    · rw [if_pos c2] at h ⊢; exact Rk_eq h
    · rw [if_neg c2] at h ⊢; exact Rk_eq h
theorem Rk_same {p : Array Nat} {i j : Nat} (hj : j ≤ p.size) (he : ∀ k, i ≤ k → k < j → Rk r p k = Rk r p (j - 1)) : Rk r (PySem.W.kas_rev p i j) = Rk r p := by
  funext k
  rw [Rk_rev hj]
  split
  · rename_i c; rw [he k c.1 c.2, he _ (by omega) (by omega)]
  · rfl
theorem rev_sz {p : Array Nat} {i j : Nat} : (PySem.W.kas_rev p i j).size = p.size := mirror_size _ _ _ _
theorem ask_run {α : Type} {p q : Array Nat} {i j : Nat} {k : Bool → PySem.W.KasT α} : runT (ltR r) (.ask (p.getD i 0) (q.getD j 0) k) = runT (ltR r) (k (decide (Rk r p i < Rk r q j))) := rfl
theorem asc_run {p : Array Nat} : ∀ (f n : Nat), 1 ≤ n → Up (Rk r p) n → ∃ m, runT (ltR r) (PySem.W.kas_asc p f n) = m ∧ n ≤ m ∧ m ≤ n + f ∧ Up (Rk r p) m ∧ (m < n + f → Rk r p m < Rk r p (m - 1))
  | 0, n, _, h => ⟨n, rfl, by omega, by omega, h, by omega⟩
  | f + 1, n, h1, h => by
    unfold PySem.W.kas_asc
    rw [ask_run]
    by_cases c : Rk r p n < Rk r p (n - 1)
    · rw [decide_eq_true c, if_pos rfl]
      exact ⟨n, rfl, by omega, by omega, h, fun _ => c⟩
    · rw [decide_eq_false c, if_neg (by decide)]
      obtain ⟨m, e, a1, a2, a3, a4⟩ := asc_run f (n + 1) (by omega) (h.more h1 (by omega))
      exact ⟨m, e, by omega, by omega, a3, fun q => a4 (by omega)⟩
structure DnR (r : Nat → Nat) (z n f : Nat) (x : Array Nat × Nat × Nat) : Prop where
  sz : x.1.size = z
  lo : n ≤ x.2.1
  hi : x.2.1 ≤ n + f
  q : x.2.2 + 1 ≤ x.2.1
  dn : Dn (Rk r x.1) x.2.1
  eq : ∀ k, x.2.1 - (x.2.2 + 1) ≤ k → k < x.2.1 → Rk r x.1 k = Rk r x.1 (x.2.1 - 1)
theorem desc_run : ∀ (f : Nat) (p : Array Nat) (n q : Nat), q + 1 ≤ n → n + f ≤ p.size → Dn (Rk r p) n → (∀ k, n - (q + 1) ≤ k → k < n → Rk r p k = Rk r p (n - 1)) → DnR r p.size n f (runT (ltR r) (PySem.W.kas_desc f p n q))
  | 0, p, n, q, h1, h2, h3, h4 => ⟨rfl, Nat.le_refl _, Nat.le_refl _, h1, h3, h4⟩
  | f + 1, p, n, q, h1, h2, h3, h4 => by
    unfold PySem.W.kas_desc
    rw [ask_run]
    by_cases c : Rk r p n < Rk r p (n - 1)
    · rw [decide_eq_true c, if_pos rfl]
      have go : ∀ p' : Array Nat, p'.size = p.size → Rk r p' = Rk r p → DnR r p.size n (f + 1) (runT (ltR r) (PySem.W.kas_desc f p' (n + 1) 0)) := fun p' e1 e2 => by
        have d := desc_run f p' (n + 1) 0 (by omega) (by omega) (by rw [e2]; exact h3.more (by omega) (by omega)) (fun k k1 k2 => by obtain rfl : k = n := (by omega); rfl)
        exact ⟨d.sz.trans e1, by have := d.lo; omega, by have := d.hi; omega, d.q, d.dn, d.eq⟩
      split
      · exact go _ rev_sz (Rk_same (by omega) h4)
      · exact go _ rfl rfl
    · rw [decide_eq_false c, if_neg (by decide), ask_run]
      by_cases c2 : Rk r p (n - 1) < Rk r p n
      · rw [decide_eq_true c2, if_pos rfl]
        exact ⟨rfl, Nat.le_refl _, by simp [runT], h1, h3, h4⟩
      · rw [decide_eq_false c2, if_neg (by decide)]
        have d := desc_run f p (n + 1) (q + 1) (by omega) (by omega) (h3.more (by omega) (by omega)) (fun k k1 k2 => by
          by_cases e : k = n
          · rw [e]; rfl
          · rw [h4 k (by omega) (by omega)]; show _ = Rk r p (n + 1 - 1); rw [Nat.add_sub_cancel]; omega)
        exact ⟨d.sz, by have := d.lo; omega, by have := d.hi; omega, d.q, d.dn, d.eq⟩
structure UpR (r : Nat → Nat) (z m : Nat) (x : Nat × Array Nat) : Prop where
  sz : x.2.size = z
  lo : 1 ≤ x.1
  hi : x.1 ≤ m
  up : Up (Rk r x.2) x.1
theorem tail_run {p : Array Nat} {n m : Nat} (h1 : 1 ≤ n) (h2 : n ≤ m) (h3 : m ≤ p.size) (h : Dn (Rk r p) n) : UpR r p.size m (runT (ltR r) (PySem.W.kas_tail3 n m p)) := by
  unfold PySem.W.kas_tail3
  rw [runT_bind]
  have u : Up (Rk r (PySem.W.kas_rev p 0 n)) n := fun i j a b => by
    rw [Rk_rev (by omega), Rk_rev (by omega), if_pos (by omega), if_pos (by omega)]
    exact h _ _ (by omega) (by omega)
  obtain ⟨k, e, a1, a2, a3, _⟩ := asc_run (m - n) n h1 u
  rw [e]
  exact ⟨rev_sz, by show 1 ≤ k; omega, by show k ≤ m; omega, a3⟩
theorem part_run {p : Array Nat} {n m : Nat} (h2 : n + 1 ≤ m) (h3 : m ≤ p.size) (h : Dn (Rk r p) (n + 1)) : UpR r p.size m (runT (ltR r) (PySem.W.kas_descPart n m p)) := by
  unfold PySem.W.kas_descPart
  rw [runT_bind]
  have d := desc_run (m - (n + 1)) p (n + 1) 0 (by omega) (by omega) h (fun k k1 k2 => by obtain rfl : k = n := (by omega); rfl)
  generalize runT (ltR r) (PySem.W.kas_desc (m - (n + 1)) p (n + 1) 0) = x at d
  have l1 := d.lo
  have l2 := d.hi
  have l3 := d.sz
  split
  · have t := tail_run (m := m) (p := PySem.W.kas_rev x.1 (x.2.1 - (x.2.2 + 1)) x.2.1) (n := x.2.1) (r := r) (by omega) (by omega) (by rw [rev_sz]; omega) (by rw [Rk_same (by omega) d.eq]; exact d.dn)
    exact ⟨t.sz.trans (rev_sz.trans l3), t.lo, t.hi, t.up⟩
  · have t := tail_run (m := m) (p := x.1) (n := x.2.1) (r := r) (by omega) (by omega) (by omega) d.dn
    exact ⟨t.sz.trans l3, t.lo, t.hi, t.up⟩
theorem count_run {p : Array Nat} {m : Nat} (h1 : 1 ≤ m) (h2 : m ≤ p.size) : UpR r p.size m (runT (ltR r) (PySem.W.kas_count m p)) := by
  unfold PySem.W.kas_count
  rw [runT_bind]
  obtain ⟨n, e, a1, a2, a3, a4⟩ := asc_run (r := r) (p := p) (m - 1) 1 (by omega) Up.one
  rw [e]
  by_cases c : n = m
  · rw [if_pos (by simp [c])]
    exact ⟨rfl, a1, by show n ≤ m; omega, a3⟩
  · rw [if_neg (by simp [c])]
    have lt := a4 (by omega)
    split
    · rw [ask_run]
      by_cases c2 : Rk r p 0 < Rk r p (n - 1)
      · rw [decide_eq_true c2, if_pos rfl]
        exact ⟨rfl, a1, by show n ≤ m; omega, a3⟩
      · rw [decide_eq_false c2, if_neg (by decide)]
        have same : Rk r (PySem.W.kas_rev p 0 n) = Rk r p := Rk_same (by omega) fun k k1 k2 => by
          have := a3 0 k (by omega) k2
          have := a3 k (n - 1) (by omega) (by omega)
          omega
        have t := part_run (r := r) (p := PySem.W.kas_rev p 0 n) (n := n) (m := m) (by omega) (by rw [rev_sz]; omega) (by
          rw [same]
          refine Dn.more (fun i j i1 i2 => ?_) a1 (by omega)
          have := a3 0 i (by omega) (by omega)
          have := a3 j (n - 1) (by omega) (by omega)
          have := a3 i j i1 i2
          omega)
        exact ⟨t.sz.trans rev_sz, t.lo, t.hi, t.up⟩
    · obtain rfl : n = 1 := by omega
      exact part_run (by omega) h2 (Dn.more (fun i j i1 i2 => by obtain rfl : i = j := (by omega); exact Nat.le_refl _) (Nat.le_refl _) (by omega))
theorem place_run {p : Array Nat} {k : Nat} (hu : Up (Rk r p) k) : ∀ (f l m : Nat), l ≤ m → m ≤ k → m ≤ l + f → (∀ i, i < l → Rk r p i ≤ Rk r p k) → (∀ i, m ≤ i → i < k → Rk r p k < Rk r p i) → ∃ x, runT (ltR r) (PySem.W.kas_place p k f l m) = x ∧ x ≤ k ∧ (∀ i, i < x → Rk r p i ≤ Rk r p k) ∧ ∀ i, x ≤ i → i < k → Rk r p k < Rk r p i
  | 0, l, m, h1, h2, h3, h4, h5 => ⟨l, rfl, by omega, h4, fun i i1 i2 => h5 i (by omega) i2⟩
  | f + 1, l, m, h1, h2, h3, h4, h5 => by
    unfold PySem.W.kas_place
    by_cases c : l ≥ m
    · rw [if_pos c]
      exact ⟨l, rfl, by omega, h4, fun i i1 i2 => h5 i (by omega) i2⟩
    · rw [if_neg c, ask_run]
      by_cases c2 : Rk r p k < Rk r p ((l + m) / 2)
      · rw [decide_eq_true c2, if_pos rfl]
        exact place_run hu f l _ (by omega) (by omega) (by omega) h4 fun i i1 i2 => Nat.lt_of_lt_of_le c2 (hu _ _ i1 i2)
      · rw [decide_eq_false c2, if_neg (by decide)]
        exact place_run hu f _ m (by omega) h2 (by omega) (fun i hi => Nat.le_trans (hu i ((l + m) / 2) (by omega) (by omega)) (by omega)) h5
theorem bin_run : ∀ (f : Nat) (p : Array Nat) (k : Nat), k + f ≤ p.size → Up (Rk r p) k → Up (Rk r (runT (ltR r) (PySem.W.kas_bin f p k))) (k + f)
  | 0, p, k, _, h => h
  | f + 1, p, k, hz, h => by
    unfold PySem.W.kas_bin
    rw [runT_bind]
    obtain ⟨x, e, x1, x2, x3⟩ := place_run h k 0 k (by omega) (by omega) (by omega) (by intro i hi; omega) (by intro i a b; omega)
    rw [e]
    have := bin_run f (bubble p k (k - x)) (k + 1) (by rw [bubble_size]; omega) (fun i j i1 i2 => by
      rw [Rk_bub (by omega) (by omega), Rk_bub (by omega) (by omega)]
      have kx : k - (k - x) = x := by omega
      rw [kx]
      have b1 := fun i => x2 i
      have b2 := fun i => x3 i
      split
      · split
        · exact Nat.le_refl _
        · rw [if_pos (by omega)]; exact Nat.le_of_lt (x3 _ (by omega) (by omega))
      · split
        · rename_i c d
          rw [if_neg (by omega), if_pos (by omega)]
          exact h _ _ (by omega) (by omega)
        · split
          · exact x2 _ (by omega)
          · split
            · exact h _ _ (by omega) (by omega)
            · exact h _ _ i1 (by omega))
    rwa [show k + 1 + f = k + (f + 1) by omega] at this
theorem sort_run {n : Nat} (hn : 1 ≤ n) : Up (Rk r (runT (ltR r) (PySem.W.kas_sort n))) n := by
  unfold PySem.W.kas_sort
  rw [runT_bind]
  have c := count_run (r := r) (p := List.toArray (List.range n)) hn (by simp)
  generalize runT (ltR r) (PySem.W.kas_count n (List.toArray (List.range n))) = x at c
  have h1 := c.lo
  have h2 := c.hi
  have h3 := c.sz
  have h4 : (List.toArray (List.range n)).size = n := by simp
  split
  · have := bin_run (r := r) (n - max x.1 1) x.2 (max x.1 1) (by omega) (by rw [Nat.max_eq_left h1]; exact c.up)
    rwa [show max x.1 1 + (n - max x.1 1) = n by omega] at this
  · have e : x.1 = n := by omega
    have := c.up
    rw [e] at this
    exact this
end
end L2
set_option Elab.async false
set_option linter.all false
set_option maxRecDepth 100000
set_option maxHeartbeats 4000000
namespace L2
open PySem PySem.Spec PyProof.Rows
def TpS (h h' : Heap) : Prop := ∀ b o, h.get? b = some o → o.cls = .type "tuple" → h'.get? b = some o
theorem TpS.trans {h1 h2 h3 : Heap} (a : TpS h1 h2) (b : TpS h2 h3) : TpS h1 h3 := fun c o e t => b c o (a c o e t) t
theorem TpS.all {h h' : Heap} (k : ∀ b o, h.get? b = some o → h'.get? b = some o) : TpS h h' := fun b o e _ => k b o e
theorem TpS.but {h h' : Heap} {a : Addr} {o : Obj} (ho : h.get? a = some o) (hc : o.cls ≠ .type "tuple") (hs : ∀ b o, b ≠ a → h.get? b = some o → h'.get? b = some o) : TpS h h' := fun b o' e t => hs b o' (fun z => by rw [z, ho] at e; cases e; exact hc t) e
structure ItO (prog : Program) (w : World) (K : Type) [DecidableEq K] extends ItN prog w K where
  stay : ∀ {h h' : Heap} {k : K} {v : Value}, is h k v → TpS h h' → is h' k v
  nocls : ∀ {A : Around} {E : Value → Shared → Prop} {s : Shared} {k : K} {v : Value} {Q : Bool → Shared → Prop} (m : Nat), lv ≤ m → is s.heap k v → Q false s → wpAny (model prog w) A (ofAClassStatement m v) Q E s
  byval : ∀ {A : Around} {E : Value → Shared → Prop} {s : Shared} {k : K} {v : Value} {Q : Bool → Shared → Prop} (m : Nat), lv ≤ m → is s.heap k v → (∀ b, Q b s) → wpAny (model prog w) A (hashByValue m v) Q E s
  lt : K → K → Bool
  irr : ∀ a, lt a a = false
  tr : ∀ a b c, lt a b = true → lt b c = true → lt a c = true
  tot : ∀ a b, lt a b = false → lt b a = false → a = b
  tnm : String
  looks : ∀ {h : Heap} {k : K} {v : Value}, is h k v → PySem.W.Looks (model prog w) h (typeOf v) (.type tnm)
  cmp : ∀ {A : Around} {E : Value → Shared → Prop} {s : Shared} {x y : K} {u v : Value} {Q : Value → Shared → Prop}, A.units + lv < cLine → is s.heap x u → is s.heap y v → Q (.bool (lt x y)) s → wpAny (model prog w) A (compareOp .Lt u v) Q E s
  one : ∀ {A : Around} {E : Value → Shared → Prop} {s : Shared} {x y : K} {u v : Value} {Q : Bool → Shared → Prop}, is s.heap x u → is s.heap y v → tnm ≠ "tuple" → Q (lt x y) s → wpAny (model prog w) A (oneLt' true u v) Q E s
section
variable {K : Type} [DecidableEq K] (lt : K → K → Bool)
def lexlt : List K → List K → Bool
  | [], [] => false
  | [], _ :: _ => true
  | _ :: _, [] => false
  | x :: xs, y :: ys => if x = y then lexlt xs ys else lt x y
theorem lexlt_irr : ∀ a, lexlt lt a a = false
  | [] => rfl
  | x :: a => by unfold lexlt; rw [if_pos rfl]; exact lexlt_irr a
theorem lexlt_tot (ht : ∀ a b, lt a b = false → lt b a = false → a = b) : ∀ a b, lexlt lt a b = false → lexlt lt b a = false → a = b
  | [], [], _, _ => rfl
  | [], _ :: _, h, _ => by cases h
  | _ :: _, [], _, h => by cases h
  | x :: a, y :: b, h1, h2 => by
    unfold lexlt at h1 h2
    by_cases c : x = y
    · rw [if_pos c] at h1; rw [if_pos c.symm] at h2
      rw [c, lexlt_tot ht a b h1 h2]
    · rw [if_neg c] at h1; rw [if_neg fun z => c z.symm] at h2
      exact absurd (ht _ _ h1 h2) c
theorem lexlt_tr (hi : ∀ a, lt a a = false) (ht : ∀ a b c, lt a b = true → lt b c = true → lt a c = true) : ∀ a b c, lexlt lt a b = true → lexlt lt b c = true → lexlt lt a c = true
  | [], [], c, h, _ => by cases h
  | _ :: _, [], _, h, _ => by cases h
  | [], _ :: _, [], _, h => by cases h
  | [], _ :: _, _ :: _, _, _ => rfl
  | _ :: _, _ :: _, [], _, h => by cases h
  | x :: a, y :: b, z :: c, h1, h2 => by
    unfold lexlt at h1 h2 ⊢
    by_cases e1 : x = y
    · subst e1
      rw [if_pos rfl] at h1
      by_cases e2 : x = z
      · rw [if_pos e2] at h2 ⊢; exact lexlt_tr hi ht a b c h1 h2
      · rw [if_neg e2] at h2 ⊢; exact h2
    · rw [if_neg e1] at h1
      by_cases e2 : y = z
      · subst e2; rw [if_neg e1]; exact h1
      · rw [if_neg e2] at h2
        have := ht _ _ _ h1 h2
        by_cases e3 : x = z
        · subst e3; rw [hi] at this; cases this
        · rw [if_neg e3]; exact this
end
section
variable {prog : Program} {w : World} {A : Around} {E : Value → Shared → Prop} {s : Shared}
theorem strs_shape {k : Str} {v : Value} (h : (strKind prog w).is k v = true) : ∃ t, v = .str k t := by
  have h : Value.isStrOf k v = true := h
  exact Value.isStrOf_shape h
end
def ItO.text (prog : Program) (w : World) : ItO prog w Str where
  toItN := ItN.key (strKind prog w)
  stay := fun h _ => h
  nocls := fun m _ h q => by obtain ⟨t, rfl⟩ := strs_shape h; cases m <;> exact wpAny_pure q
  byval := fun m _ h q => by obtain ⟨t, rfl⟩ := strs_shape h; cases m <;> exact wpAny_pure (q _)
  lt := fun a b => decide (a.cps.toList < b.cps.toList)
  irr := fun a => decide_eq_false (List.lt_irrefl _)
  tr := fun a b c h1 h2 => decide_eq_true (List.lt_trans (of_decide_eq_true h1) (of_decide_eq_true h2))
  tot := fun a b h1 h2 => leS_anti (of_decide_eq_false h2) (of_decide_eq_false h1)
  tnm := "str"
  looks := fun h => by obtain ⟨t, rfl⟩ := strs_shape h; exact PySem.W.Looks.of_pure rfl
  cmp := fun _ h1 h2 q => by obtain ⟨t, rfl⟩ := strs_shape h1; obtain ⟨t, rfl⟩ := strs_shape h2; exact PySem.P.lt_str q
  one := fun h1 h2 _ q => by obtain ⟨t, rfl⟩ := strs_shape h1; obtain ⟨t, rfl⟩ := strs_shape h2; exact oneLt_str q
section
variable {prog : Program} {w : World} {K : Type} [DecidableEq K] {I : ItO prog w K} {A : Around} {E : Value → Shared → Prop} {s : Shared}
theorem paired_at {P : K → Value → Prop} {v : Value} : ∀ {k : List K} {l : List Value}, Paired P k l → v ∈ l → ∃ x, P x v
  | _, _, .nil, h => by cases h
  | _, _, .cons a r, h => by
    rcases List.mem_cons.mp h with rfl | h
    · exact ⟨_, a⟩
    · exact paired_at r h
theorem list_nocls {k : List K} {v : Value} {Q : Bool → Shared → Prop} (m : Nat) (hm : I.lv + 1 ≤ m) (p : IsLs I.toItN s.heap k v) (h : Q false s) : wpAny (model prog w) A (ofAClassStatement m v) Q E s := by
  obtain ⟨a, o, its, n, rfl, ho, hc, hd, hp⟩ := p
  obtain ⟨m, rfl⟩ : ∃ j, m = j + 1 := ⟨m - 1, by omega⟩
  have hT : s.TypeIs (.ref a) "tuple" := ⟨o, ho, hc⟩
  unfold ofAClassStatement
  refine wpAny_bind (wpAny_typeOf hT ?_)
  dsimp only
  refine wpAny_bind (wpAny_pure ?_)
  refine wpAny_ite_split (fun q => absurd q (by decide)) (fun _ => ?_)
  refine wpAny_bind (wpAny_seqItems ho hd ?_)
  refine wpAny_bind ?_
  show wpAny _ _ (forIn its _ _) _ _ s
  rw [← Array.forIn_toList]
  refine wpAny_forIn_list _ (fun rest r s' => r.1 = none ∧ s' = s ∧ ∀ v ∈ rest, ∃ x, I.is s.heap x v) _ ?_ ?_ _ _ ⟨rfl, rfl, fun v hv => paired_at hp hv⟩
  · rintro v rest r s' ⟨hr, rfl, hall⟩
    obtain ⟨x, hx⟩ := hall v List.mem_cons_self
    refine wpAny_bind (I.nocls m (by omega) hx ?_)
    simp only [Bool.false_eq_true, if_false]
    exact wpAny_pure ⟨rfl, rfl, fun u hu' => hall u (List.mem_cons_of_mem _ hu')⟩
  · rintro ⟨r1, r2⟩ s' ⟨hr, rfl, _⟩
    simp only at hr
    subst hr
    exact wpAny_pure h
theorem list_byval {k : List K} {v : Value} {Q : Bool → Shared → Prop} (m : Nat) (hm : I.lv + 1 ≤ m) (p : IsLs I.toItN s.heap k v) (h : ∀ b, Q b s) : wpAny (model prog w) A (hashByValue m v) Q E s := by
  obtain ⟨a, o, its, n, rfl, ho, hc, hd, hp⟩ := p
  obtain ⟨m, rfl⟩ : ∃ j, m = j + 1 := ⟨m - 1, by omega⟩
  have hT : s.TypeIs (.ref a) "tuple" := ⟨o, ho, hc⟩
  unfold hashByValue
  refine wpAny_bind (wpAny_specialOf hT F.slot_tuple_hash.lookup ?_)
  dsimp only
  refine wpAny_bind (wpAny_seqItems ho hd ?_)
  refine wpAny_bind ?_
  show wpAny _ _ (forIn its _ _) _ _ s
  rw [← Array.forIn_toList]
  have hall : ∀ v ∈ its.toList, ∃ x, I.is s.heap x v := fun v hv => paired_at hp hv
  generalize its.toList = l at hall ⊢
  induction l with
  | nil => exact wpAny_pure (wpAny_pure (h _))
  | cons v l ih =>
    rw [List.forIn_cons]
    obtain ⟨x, hx⟩ := hall v (.head _)
    refine wpAny_bind (wpAny_bind (I.byval m (by omega) hx fun b => ?_))
    cases b with
    | true =>
      simp only [Bool.not_true, Bool.false_eq_true, if_false]
      exact wpAny_pure (ih fun u hu => hall u (.tail _ hu))
    | false =>
      simp only [Bool.not_false, if_true]
      exact wpAny_pure (wpAny_pure (wpAny_pure (h _)))
theorem list_cmp {k k' : List K} {u v : Value} {Q : Value → Shared → Prop} (hu : A.units + (I.lv + 1) < cLine) (p : IsLs I.toItN s.heap k u) (q : IsLs I.toItN s.heap k' v) (h : Q (.bool (lexlt I.lt k k')) s) : wpAny (model prog w) A (compareOp .Lt u v) Q E s := by
  obtain ⟨a, o, its, n, rfl, ho, hc, hd, hp⟩ := p
  obtain ⟨b, o', its', n', rfl, ho', hc', hd', hp'⟩ := q
  have hT : s.TypeIs (.ref a) "tuple" := ⟨o, ho, hc⟩
  have hT' : s.TypeIs (.ref b) "tuple" := ⟨o', ho', hc'⟩
  refine show wpAny _ _ (richCompare .Lt (.ref a) (.ref b)) Q E s from wpAny_richCompare_same_room (op := .Lt) hT hT' F.slot_tuple_lt (wpAny_call_entry F.slot_tuple_lt hT F.entry_tuple_lt ?_ (F.args_tuple_lt_2 _ _)) (by omega)
  have hu' : A.in1.units + I.lv < cLine := by show A.units + 1 + I.lv < cLine; omega
  show wpAny _ _ (isInstance (.ref b) (.type "tuple") >>= _) _ _ s
  refine wpAny_bind (wpAny_isInstance hT' isSubtype_tuple_tuple ?_)
  simp only [Bool.not_true, Bool.false_eq_true, if_false]
  refine wpAny_bind (wpAny_tupleItemsOf ho hd (wpAny_bind (wpAny_tupleItemsOf ho' hd' (wpAny_bind ?_))))
  have hn : its.size = 0 + k.length := by rw [Nat.zero_add, Paired.length hp, Array.length_toList]
  have hn' : its'.size = 0 + k'.length := by rw [Nat.zero_add, Paired.length hp', Array.length_toList]
  generalize its.size = N at hn ⊢
  generalize its'.size = N' at hn' ⊢
  generalize its.toList = l at hp ⊢
  generalize its'.toList = l' at hp' ⊢
  generalize 0 = c at hn hn'
  clear ho hc hd ho' hc' hd' hT hT'
  have fin : ∀ {B : Around} {c : Bool}, c = decide (N < N') → Q (.bool c) s → wpAny (model prog w) B (ret (Builtin.Tuple.tupleCompareSizes CmpOp.Lt N N')) (fun fin s' => ∃ v, fin = Fin.done (Flow.ret v) ∧ v ≠ Value.notImplemented ∧ Q v s') E s := fun {B c} e q => by
    subst e
    exact wpAny_pure ⟨_, rfl, (fun z => nomatch z), q⟩
  induction l generalizing l' k k' c with
  | nil =>
    cases hp
    refine wpAny_pure ?_
    refine fin ?_ h
    cases k' with
    | nil => rw [hn, hn']; simp [lexlt]
    | cons y k' => rw [hn, hn']; simp [lexlt]
  | cons x l ih =>
    cases hp with
    | cons hx hr =>
      rename_i kx kr
      cases hp' with
      | nil =>
        refine wpAny_pure ?_
        exact fin (by rw [hn, hn']; simp [lexlt]) h
      | cons hy hr' =>
        rename_i ky y kr' l''
        show wpAny _ _ (forIn ((x, y) :: l.zip l'') _ _) _ _ _
        rw [List.forIn_cons]
        refine wpAny_bind (wpAny_bind (I.eqBool hu' hx hy ?_))
        by_cases e1 : kx = ky
        · rw [decide_eq_true e1]
          simp only [Bool.not_true, Bool.false_eq_true, if_false]
          refine wpAny_pure ?_
          refine ih (k := kr) (k' := kr') ?_ hr l'' hr' (c + 1) (by rw [hn, List.length_cons]; omega) (by rw [hn', List.length_cons]; omega)
          rw [show lexlt I.lt kr kr' = lexlt I.lt (kx :: kr) (ky :: kr') by rw [lexlt, if_pos e1]]
          exact h
        · rw [decide_eq_false e1]
          rw [show lexlt I.lt (kx :: kr) (ky :: kr') = I.lt kx ky by rw [lexlt, if_neg e1]] at h
          simp only [Bool.not_false, if_true]
          exact wpAny_bind (wpAny_rule (wpAny_bind (I.cmp hu' hx hy (wpAny_bind (wpAny_pure (wpAny_pure (wpAny_pure (wpAny_pure ⟨_, rfl, (fun z => nomatch z), h⟩))))))))
theorem IsLs.stay {h h' : Heap} {k : List K} {v : Value} (p : IsLs I.toItN h k v) (t : TpS h h') : IsLs I.toItN h' k v := by
  obtain ⟨a, o, its, n, e, ho, hc, hd, hp⟩ := p
  exact ⟨a, o, its, n, e, t _ _ ho hc, hc, hd, Paired.mapP hp fun _ _ q => I.stay q t⟩
theorem lex_n {b fin : Bool} {Q : Bool → Shared → Prop} (hb : b = true → I.tnm ≠ "tuple") (hu : A.units + I.lv < cLine) : ∀ {k k' : List K} {l l' : List Value} (i : Nat), Paired (I.is s.heap) k l → Paired (I.is s.heap) k' l' → fin = decide (k.length < k'.length) → Q (lexlt I.lt k k') s → PySem.W.KatLex prog w A b fin Q (l.zip l') i s
  | _, _, _, _, i, .nil, .nil, e, q => by rw [e]; simpa [PySem.W.KatLex, lexlt] using q
  | _, _, _, _, i, .nil, .cons _ _, e, q => by rw [e]; simpa [PySem.W.KatLex, lexlt] using q
  | _, _, _, _, i, .cons _ _, .nil, e, q => by rw [e]; simpa [PySem.W.KatLex, lexlt] using q
  | x :: k, y :: k', _, _, i, .cons hx r, .cons hy r', e, q => by
    refine PySem.W.kat_cons (I.eqBool hu hx hy (PySem.W.kat_go (fun c => PySem.W.kat_yes (lex_n hb hu (i + 1) r r' (by rw [e]; simp) ?_)) fun c => PySem.W.kat_no ?_))
    · rw [lexlt, if_pos (of_decide_eq_true c)] at q; exact q
    · rw [lexlt, if_neg (of_decide_eq_false c)] at q
      cases hbi : (b && i == 0) with
      | true =>
        rw [Bool.and_eq_true] at hbi
        exact I.one hx hy (hb hbi.1) q
      | false => exact PySem.W.kat_one _ _ (I.cmp hu hx hy q)
theorem lt_n {k k' : List K} {x y : Addr} {b : Bool} {Q : Bool → Shared → Prop} (hb : b = true → I.tnm ≠ "tuple") (hu : A.units + I.lv < cLine) (hx : IsLs I.toItN s.heap k (.ref x)) (hy : IsLs I.toItN s.heap k' (.ref y)) (q : Q (lexlt I.lt k k') s) : wpAny (model prog w) A (keyLt' (tuples' b) (.ref x) (.ref y)) Q E s := by
  obtain ⟨a, o, its, n, e, ho, hc, hd, hp⟩ := hx
  obtain ⟨a', o', its', n', e', ho', hc', hd', hp'⟩ := hy
  cases e; cases e'
  refine PySem.W.kat_lt ho hd ho' hd' (lex_n hb hu 0 hp hp' ?_ q)
  rw [Paired.length hp, Paired.length hp', Array.length_toList, Array.length_toList]
end
def ItO.list {prog : Program} {w : World} {K : Type} [DecidableEq K] (I : ItO prog w K) : ItO prog w (List K) where
  toItN := ItN.list I.toItN
  stay := fun p t => IsLs.stay p t
  nocls := fun m hm p h => list_nocls m hm p h
  byval := fun m hm p h => list_byval m hm p h
  lt := lexlt I.lt
  irr := lexlt_irr I.lt
  tr := lexlt_tr I.lt I.irr I.tr
  tot := lexlt_tot I.lt I.tot
  tnm := "tuple"
  looks := fun ⟨a, o, its, n, e, ho, hc, hd, hp⟩ => by subst e; exact fun A Q E s k q => wpAny_typeOf (T := "tuple") ⟨o, k _ _ ho, hc⟩ q
  cmp := fun hu p q h => list_cmp hu p q h
  one := fun _ _ z _ => absurd rfl z
end L2
set_option Elab.async false
set_option linter.all false
set_option maxRecDepth 100000
set_option maxHeartbeats 4000000
namespace L2
open PySem PySem.Spec PyProof.Rows
def keyN {K : Type} [Inhabited K] (kf : Addr → K) (e : Int × Value) : K := match e.2 with
  | .ref b => kf b
  | _ => default
def stpN {K : Type} [DecidableEq K] (ks : List K) (k : K) : List K := if k ∈ ks then ks else ks ++ [k]
section
variable {prog : Program} {w : World} {K : Type} [DecidableEq K] [Inhabited K] {J : ItO prog w K} {A : Around} {E : Value → Shared → Prop} {s : Shared}
theorem not_seenN (h8 : J.lv ≤ 8) {k : K} {b : Addr} {ys : List Value} {Q : Bool → Shared → Prop} (hk : J.is s.heap k (.ref b)) (hys : ∀ v ∈ ys, ∃ b' k', v = .ref b' ∧ J.is s.heap k' (.ref b')) (h : Q false s) : wpAny (model prog w) A (searchCouldBeSeen (.ref b) ys) Q E s := by
  unfold searchCouldBeSeen
  refine wpAny_bind ?_
  refine wpAny_forIn_list _ (fun rest r s' => r.1 = none ∧ s' = s ∧ ∀ v ∈ rest, ∃ b' k', v = .ref b' ∧ J.is s.heap k' (.ref b')) _ ?_ ?_ _ _ ⟨rfl, rfl, hys⟩
  · rintro v rest r s' ⟨hr, rfl, hall⟩
    obtain ⟨b', k', rfl, hk'⟩ := hall v List.mem_cons_self
    have nx : ∀ u ∈ rest, ∃ b' k', u = .ref b' ∧ J.is s'.heap k' (.ref b') := fun u hu' => hall u (List.mem_cons_of_mem _ hu')
    dsimp only
    refine wpAny_ite_split (fun _ => wpAny_pure ⟨rfl, rfl, nx⟩) (fun _ => ?_)
    refine wpAny_bind (J.quiet 8 h8 hk ?_)
    simp only [Bool.not_true, Bool.false_eq_true, if_false]
    refine wpAny_bind (J.quiet 8 h8 hk' ?_)
    simp only [Bool.not_true, Bool.false_eq_true, if_false]
    refine wpAny_bind (J.nocls 8 h8 hk ?_)
    simp only [Bool.false_eq_true, if_false]
    refine wpAny_bind (J.nocls 8 h8 hk' ?_)
    simp only [Bool.false_eq_true, if_false]
    exact wpAny_pure ⟨rfl, rfl, nx⟩
  · rintro ⟨r1, r2⟩ s' ⟨hr, rfl, _⟩
    simp only at hr
    subst hr
    exact wpAny_pure h
structure TXn {prog : Program} {w : World} {K : Type} [DecidableEq K] [Inhabited K] (J : ItO prog w K) (kf : Addr → K) (h0 h : Heap) (a : Addr) (led : Bool) (ks : List K) (o : Obj) (es : Array (Int × Value)) (ep : Nat) (t : SetTable) (L : List (Nat × (Int × Value))) : Prop where
  at_ : h.get? a = some o
  ex : o.ExactSet
  dt : o.data = .set es ep t
  ly : LY t es L
  wy : WayI t.mask L
  mk_ : MaskOk t.mask
  cn : L.length * 5 < t.mask * 3
  en : ∀ e ∈ L.map Prod.snd, ∃ b, e = (J.hash (kf b), .ref b) ∧ J.is h0 (kf b) (.ref b)
  ky : ((L.map Prod.snd).map (keyN kf)).Perm ks
  nd : ks.Nodup
  ld : t.led = led
  lo : TpS h0 h
variable {kf : Addr → K} {h0 : Heap} {a : Addr} {led : Bool} {ks : List K} {o : Obj} {es : Array (Int × Value)} {ep : Nat} {t : SetTable} {L : List (Nat × (Int × Value))}
theorem TXn.len {h : Heap} (x : TXn J kf h0 h a led ks o es ep t L) : es.size = L.length ∧ L.length = ks.length := by
  refine ⟨by rw [← Array.length_toList, x.ly.el, List.length_map], ?_⟩
  have := x.ky.length_eq
  rw [List.length_map, List.length_map] at this; exact this
theorem TXn.fits {h : Heap} (x : TXn J kf h0 h a led ks o es ep t L) : t.fits es.size = true := by
  have h1 : t.place.size = L.length := by rw [← Array.length_toList, x.ly.pl, List.length_map]
  have h2 := x.len.1
  have h3 := x.cn
  have h4 : t.dummies.size = 0 := by rw [x.ly.dm]; rfl
  unfold SetTable.fits SetTable.fill
  rw [Bool.and_eq_true, beq_iff_eq, decide_eq_true_eq]
  exact ⟨by omega, by omega⟩
theorem TXn.mem {h : Heap} (x : TXn J kf h0 h a led ks o es ep t L) (k : K) : k ∈ ks ↔ ∃ j e, (j, e) ∈ L ∧ keyN kf e = k := by
  rw [← x.ky.mem_iff, List.mem_map]
  constructor
  · rintro ⟨e, he, rfl⟩
    obtain ⟨y, hy, rfl⟩ := List.mem_map.mp he
    exact ⟨y.1, y.2, hy, rfl⟩
  · rintro ⟨j, e, hm, rfl⟩
    exact ⟨e, List.mem_map.mpr ⟨_, hm, rfl⟩, rfl⟩
theorem TXn.ent {h : Heap} (x : TXn J kf h0 h a led ks o es ep t L) {j : Nat} {e : Int × Value} (m : (j, e) ∈ L) : ∃ b, e = (J.hash (kf b), .ref b) ∧ J.is h (kf b) (.ref b) ∧ keyN kf e = kf b := by
  obtain ⟨b, h1, h2⟩ := x.en e (List.mem_map.mpr ⟨_, m, rfl⟩)
  exact ⟨b, h1, J.stay h2 x.lo, by rw [h1]; rfl⟩
theorem search_n (x : TXn J kf h0 s.heap a led ks o es ep t L) {b : Addr} {k : K} (hk : J.is s.heap k (.ref b)) (h8 : J.lv ≤ 8) (hu : A.units + J.lv < cLine) {N : Nat} (n1 : (pth t.mask (J.hash k) N).j ∉ L.map Prod.fst) (n2 : ∀ i, i < N → (pth t.mask (J.hash k) i).j ∈ L.map Prod.fst)
    {Q : SetFound → Shared → Prop} (q1 : k ∈ ks → Q (.there none) s) (q2 : k ∉ ks → Q (.free (pth t.mask (J.hash k) N).j false) s) :
    ∀ (fuel n : Nat) (st : Option SetTable.Probe), st.getD (t.probeStart (J.hash k)) = pth t.mask (J.hash k) n → n ≤ N → N < n + fuel → (∀ i, i < n → ∃ e, ((pth t.mask (J.hash k) i).j, e) ∈ L ∧ keyN kf e ≠ k) →
      wpAny (model prog w) A (setSearchFrom a (.ref b) (J.hash k) true fuel st) Q E s
  | 0, n, st, _, nN, hf, _ => by omega
  | fuel + 1, n, st, hst, nN, hf, no => by
    have fit := x.fits
    unfold setSearchFrom
    refine wpAny_bind (wpAny_setState_of x.at_ x.dt fit ?_)
    dsimp only
    refine wpAny_ite_split (fun q => absurd q (by unfold SetTable.gaveWay; rw [mask_odd x.mk_]; decide)) (fun _ => ?_)
    rw [hst]
    obtain ⟨d, d1, d2, d3⟩ := probe_go x.ly (ha := fun i => (es[i]?.map (·.1)).getD 0) (fun i e he => by rw [he]; rfl) (J.hash k) (10 * SetTable.turns t.mask) n ⟨N - n, by
      obtain ⟨N', q1, q2, q3⟩ := first_free x.mk_ x.ly.ris (by have := x.cn; omega) (J.hash k)
      have : N' = N := by
        by_cases c : N' < N
        · exact absurd (n2 N' c) q2
        · by_cases c' : N < N'
          · exact absurd (q3 N c') n1
          · omega
      omega, by rw [show n + (N - n) = N by omega]; exact n1⟩
    rcases d3 with ⟨g, ge⟩ | ⟨e, i, hm, eh, ei, g⟩
    · have nd : n + d = N := by
        by_cases c : n + d < N
        · exact absurd (n2 _ c) ge
        · by_cases c' : N < n + d
          · obtain ⟨e, h1, _⟩ := d2 (N - n) (by omega)
            rw [show n + (N - n) = N by omega] at h1
            exact absurd (mem_fst.mpr ⟨e, h1⟩) n1
          · omega
      generalize hp : t.probe _ (J.hash k) (pth t.mask (J.hash k) n) = met
      have hp : met = some (.empty (pth t.mask (J.hash k) (n + d)).j none) := hp.symm.trans g
      subst hp
      dsimp only
      rw [nd]
      refine wpAny_pure (q2 fun hin => ?_)
      obtain ⟨j, e, hm, ek⟩ := (x.mem k).mp hin
      obtain ⟨b', e1, e2, e3⟩ := x.ent hm
      have eh : e.1 = J.hash k := by rw [e1, ← ek, e3]
      obtain ⟨i, i1, i2⟩ := WayI.found x.ly x.wy hm (N := N) (by rw [eh]; exact n1)
      rw [eh] at i2
      by_cases c : i < n
      · obtain ⟨e', g1, g2⟩ := no i c
        rw [i2] at g1
        exact g2 (by rw [x.ly.uniq g1 hm]; exact ek)
      · obtain ⟨e', g1, g2⟩ := d2 (i - n) (by omega)
        rw [show n + (i - n) = i by omega, i2] at g1
        exact g2 (by rw [x.ly.uniq g1 hm]; exact eh)
    · generalize hp : t.probe _ (J.hash k) (pth t.mask (J.hash k) n) = met
      have hp : met = some (.candidate (pth t.mask (J.hash k) (n + d)).j i (pth t.mask (J.hash k) (n + d + 1))) := hp.symm.trans g
      subst hp
      dsimp only
      obtain ⟨b', e1, e2, e3⟩ := x.ent hm
      have ndN : n + d < N := by
        by_cases c : n + d < N
        · exact c
        · by_cases c' : N < n + d
          · obtain ⟨e', h1, _⟩ := d2 (N - n) (by omega)
            rw [show n + (N - n) = N by omega] at h1
            exact absurd (mem_fst.mpr ⟨e', h1⟩) n1
          · rw [show n + d = N by omega] at hm
            exact absurd (mem_fst.mpr ⟨e, hm⟩) n1
      have ys : ∀ v ∈ (es.filter (·.1 == J.hash k)).toList.map (·.2), ∃ b' k', v = .ref b' ∧ J.is s.heap k' (.ref b') := fun v hv => by
        obtain ⟨y, hy, rfl⟩ := List.mem_map.mp hv
        rw [Array.toList_filter] at hy
        have hy := (List.mem_filter.mp hy).1
        rw [x.ly.el] at hy
        obtain ⟨b2, f1, f2⟩ := x.en y hy
        exact ⟨b2, kf b2, by rw [f1], J.stay f2 x.lo⟩
      obtain ⟨i', hsl, ei'⟩ := x.ly.live hm
      have smm : t.sameMemory t.moves t.mask = some true := by unfold SetTable.sameMemory; rw [if_pos (by simp)]
      have again := search_n x hk h8 hu n1 n2 q1 q2 fuel (n + d + 1) (some (pth t.mask (J.hash k) (n + d + 1))) rfl (by omega) (by omega)
      refine wpAny_ite_split (fun _ => wpAny_bind (not_seenN h8 hk ys ?_)) (fun _ => ?_)
      rotate_left
      all_goals
        try simp only [Bool.false_eq_true, if_false]
        rw [ei, e1]
        dsimp only
        refine wpAny_bind (wpAny_holding (J.eqBool hu e2 hk ?_))
        refine wpAny_bind (wpAny_setState_of x.at_ x.dt fit ?_)
        dsimp only
        by_cases c : kf b' = k
        · rw [if_pos (by rw [c]; simp)]
          exact wpAny_pure (q1 ((x.mem k).mpr ⟨_, e, hm, by rw [e3, c]⟩))
        · have cd : decide (kf b' = k) = false := decide_eq_false c
          rw [cd, if_neg (by simp), smm]
          dsimp only
          rw [if_pos rfl, hsl]
          dsimp only
          rw [ei', e1]
          dsimp only
          refine wpAny_bind (wpAny_isSame_ref_self ?_)
          refine wpAny_bind (wpAny_pure ?_)
          rw [if_pos rfl]
          dsimp only
          rw [if_neg (by simp)]
          refine again fun i hi => ?_
          by_cases c1 : i < n
          · exact no i c1
          · by_cases c2 : i = n + d
            · subst c2; exact ⟨e, hm, by rw [e3]; exact c⟩
            · obtain ⟨e', g1, g2⟩ := d2 (i - n) (by omega)
              rw [show n + (i - n) = i by omega] at g1
              refine ⟨e', g1, fun z => g2 ?_⟩
              obtain ⟨b2, f1, _, f3⟩ := x.ent g1
              rw [f1, ← z, f3]
def TXnO {prog : Program} {w : World} {K : Type} [DecidableEq K] [Inhabited K] (J : ItO prog w K) (kf : Addr → K) (h0 h : Heap) (a : Addr) (led : Bool) (ks : List K) : Prop := ∃ o es ep t L, TXn J kf h0 h a led ks o es ep t L
theorem TXn.to {h h' : Heap} (x : TXn J kf h0 h a led ks o es ep t L) (ea : h'.get? a = some o) (e : TpS h0 h') : TXn J kf h0 h' a led ks o es ep t L :=
  ⟨ea, x.ex, x.dt, x.ly, x.wy, x.mk_, x.cn, x.en, x.ky, x.nd, x.ld, e⟩
omit [Inhabited K] [DecidableEq K] in
theorem bv_split {α : Type} {M : Model} {c : Prop} [Decidable c] {m : Sem Bool} {f : Bool → Sem α} {Q : α → Shared → Prop} (hm : ∀ Q' : Bool → Shared → Prop, (∀ b, Q' b s) → wpAny M A m Q' E s) (h : ∀ b, wpAny M A (f b) Q E s) : wpAny M A (if c then m >>= f else pure true >>= f) Q E s := by
  split
  · exact wpAny_bind (hm _ h)
  · exact wpAny_bind (wpAny_pure (h _))
theorem add_n (hS : TXnO J kf h0 s.heap a led ks) {b : Addr} {k : K} (hk0 : J.is h0 k (.ref b)) (hkf : kf b = k) (h8 : J.lv ≤ 8) (hu : A.units + J.lv < cLine) (hr : ks.length + 1 ≤ 76) {Q : Bool → Shared → Prop}
    (h : ∀ h', Heap.SameBut a s.heap h' → TXnO J kf h0 h' a led (stpN ks k) → ∀ bb, Q bb { s with heap := h' }) :
    wpAny (model prog w) A (setAddHashed a (.ref b) (J.hash k)) Q E s := by
  obtain ⟨o, es, ep, t, L, x⟩ := hS
  have hk := J.stay hk0 x.lo
  have fit := x.fits
  obtain ⟨l1, l2⟩ := x.len
  obtain ⟨N, N0, N1, N2⟩ := first_free x.mk_ x.ly.ris (by have := x.cn; omega) (J.hash k)
  have hsz := sizeLine_eq
  have NT : N < 2000 := by
    have := x.mk_
    unfold SetTable.turns at N0
    rcases this with e | e | e <;> omega
  unfold setAddHashed
  refine wpAny_holding ?_
  rw [show (100000 : Nat) = 99999 + 1 from rfl, setAddHashedIn]
  refine wpAny_bind (wpAny_setState_of x.at_ x.dt fit ?_)
  dsimp only
  refine wpAny_ite_split (fun q => absurd q (by unfold byScan; simp [Value.scannable])) (fun _ => ?_)
  unfold setSearch
  refine wpAny_bind (search_n x hk h8 hu N1 N2 (fun hin => ?_) (fun hout => ?_) 100000 0 none rfl (Nat.zero_le _) (by omega) fun i hi => by omega)
  · dsimp only
    have q := h s.heap (Heap.SameBut.refl a s.heap) (by unfold stpN; rw [if_pos hin]; exact ⟨o, es, ep, t, L, x⟩)
    exact wpAny_pure (q _)
  · dsimp only
    refine wpAny_bind (wpAny_setState_of x.at_ x.dt fit ?_)
    dsimp only
    obtain ⟨L', ly, mem, ll, pm⟩ := x.ly.put (j := (pth t.mask (J.hash k) N).j) (J.hash k, .ref b) N1 (pth_pv t.mask _ N).j
    have wy' : WayI t.mask L' := WayI.put x.wy (e := (J.hash k, .ref b)) N2 mem
    have ld' : (t.put (pth t.mask (J.hash k) N).j).1.led = led := x.ld
    have mk' : (t.put (pth t.mask (J.hash k) N).j).1.mask = t.mask := rfl
    generalize t.put (pth t.mask (J.hash k) N).j = W at ly ld' mk'
    obtain ⟨t0, p⟩ := W
    dsimp only at ly ld' mk' ⊢
    refine bv_split (fun Q' q => J.byval 8 h8 hk q) fun bv => ?_
    obtain ⟨t1, et, ly, ld', mk'⟩ : ∃ t1, (if bv = true then t0 else { t0 with plain := false }) = t1 ∧ LY t1 (SetTable.insertAt es p (J.hash k, .ref b)) L' ∧ t1.led = led ∧ t1.mask = t.mask := by
      cases bv with
      | true => exact ⟨t0, rfl, ly, ld', mk'⟩
      | false => exact ⟨_, rfl, ⟨ly.pl, ly.el, ly.ris, ly.dm, ly.mx⟩, ld', mk'⟩
    rw [et]
    clear et
    have hout' : (ks ++ [k]).Nodup := by
      rw [List.nodup_append]
      exact ⟨x.nd, by simp, fun u hu v hv e => hout (by rw [← List.mem_singleton.mp hv, ← e]; exact hu)⟩
    have ky' : ((L'.map Prod.snd).map (keyN kf)).Perm (ks ++ [k]) := by
      refine (pm.map _).trans ?_
      rw [List.map_cons]
      refine List.Perm.trans (List.Perm.cons _ x.ky) ?_
      have : keyN kf (J.hash k, .ref b) = k := hkf
      rw [this]
      exact (List.perm_append_singleton k ks).symm
    have en' : ∀ e ∈ L'.map Prod.snd, ∃ b, e = (J.hash (kf b), .ref b) ∧ J.is h0 (kf b) (.ref b) := fun e he => by
      rcases List.mem_cons.mp (pm.mem_iff.mp he) with q | q
      · exact ⟨b, by rw [hkf]; exact q, by rw [hkf]; exact hk0⟩
      · exact x.en e q
    have sz1 : (SetTable.insertAt es p (J.hash k, .ref b)).size = L.length + 1 := by rw [← Array.length_toList, ly.el, List.length_map, ll]
    have fin : stpN ks k = ks ++ [k] := if_neg hout
    refine wpAny_bind (wpAny_storeSet_of x.at_ x.dt ?_ (by rw [sz1]; omega))
    have at1 := store_at (SetTable.insertAt es p (J.hash k, .ref b)) t1 x.at_ x.dt
    have sb1 := Heap.SameBut.update s.heap a (Obj.putSet (SetTable.insertAt es p (J.hash k, .ref b)) t1)
    generalize s.heap.update a (Obj.putSet (SetTable.insertAt es p (J.hash k, .ref b)) t1) = h1 at at1 sb1 ⊢
    generalize SetTable.insertAt es p (J.hash k, .ref b) = es1 at ly at1 sz1 ⊢
    have lo1 : TpS h0 h1 := x.lo.trans (TpS.but x.at_ (by rw [x.ex.1]; decide) fun b o n e => (sb1.2 b n).trans e)
    have fl : t1.fill = L.length + 1 := by
      unfold SetTable.fill
      rw [ly.dm, ← Array.length_toList, ly.pl, List.length_map, ll]; rfl
    by_cases c : (L.length + 1) * 5 < t.mask * 3
    · rw [if_neg (by unfold SetTable.tooFull; rw [fl, mk']; simp; omega)]
      exact wpAny_pure (h h1 sb1 ⟨_, es1, ep + 1, t1, L', at1, x.ex, rfl, ly, by rw [mk']; exact wy', by rw [mk']; exact x.mk_, by rw [mk', ll]; exact c, en', by rw [fin]; exact ky', by rw [fin]; exact hout', ld', lo1⟩ _)
    · rw [if_pos (by unfold SetTable.tooFull; rw [fl, mk']; simp; omega)]
      obtain ⟨m', g1, g2, g3, g4⟩ := grown_mask x.mk_ x.cn c (by omega)
      rw [l1]
      unfold setRelay
      have fit1 : t1.fits es1.size = true := by
        unfold SetTable.fits
        rw [Bool.and_eq_true, beq_iff_eq, decide_eq_true_eq, fl, mk', sz1]
        exact ⟨by rw [← Array.length_toList, ly.pl, List.length_map, ll], by have := x.cn; rcases x.mk_ with e | e | e <;> omega⟩
      refine wpAny_bind (wpAny_bind (wpAny_setState_of at1 rfl fit1 ?_))
      dsimp only
      refine wpAny_ite_split (fun q => absurd q (by omega)) (fun _ => ?_)
      obtain ⟨t2, order, L2, r1, r2, r3, r4, r5, r6, r7, r8, r9⟩ := laid_ok (f := t1.finger) (mvs := t1.movedTo m') (led := t1.led) (pl := t1.plain) g2 es1 (by rw [sz1]; rcases g2 with e | e | e <;> omega)
      have rl : t1.relaid (es1.map (·.1)) (SetTable.grown (L.length + 1)) = some (t2, order) := by
        unfold SetTable.relaid
        rw [g1]; exact r1
      rw [rl]
      refine wpAny_bind (show wpAny _ _ (if ((order.filterMap (es1[·]?)).size != es1.size) = true then unsupported "internal:set-table-lost-an-element" else pure (order.filterMap (es1[·]?), t2)) _ _ _ from ?_)
      rw [if_neg (by rw [r9]; simp)]
      refine wpAny_pure ?_
      dsimp only
      refine wpAny_storeSet_of at1 rfl ?_ (by rw [r9, sz1]; omega)
      have at2 := store_at (order.filterMap (es1[·]?)) t2 at1 rfl
      have sb2 := Heap.SameBut.update h1 a (Obj.putSet (order.filterMap (es1[·]?)) t2)
      generalize h1.update a (Obj.putSet (order.filterMap (es1[·]?)) t2) = h2 at at2 sb2 ⊢
      have pm2 : (L2.map Prod.snd).Perm (L'.map Prod.snd) := by rw [← ly.el]; exact r7
      refine wpAny_pure (h h2 (sb1.trans sb2) ⟨_, _, _, t2, L2, at2, x.ex, rfl, r5, by rw [r2]; exact r6, by rw [r2]; exact g2, by rw [r2, r8, sz1]; exact g3, fun e he => ?_, by rw [fin]; exact (pm2.map _).trans ky', by rw [fin]; exact hout', by rw [r3]; exact ld', lo1.trans (TpS.but at1 (by show o.cls ≠ _; rw [x.ex.1]; decide) fun b o n e => (sb2.2 b n).trans e)⟩ _)
      exact en' e (pm2.mem_iff.mp he)
end
end L2
set_option Elab.async false
set_option linter.all false
set_option maxRecDepth 100000
set_option maxHeartbeats 4000000
namespace L2
open PySem PySem.Spec PyProof.Rows
section
variable {K : Type} [DecidableEq K]
def fmN (ks : List K) : List K := ks.foldl stpN []
theorem fmN_snoc (ks : List K) (k : K) : fmN (ks ++ [k]) = stpN (fmN ks) k := by unfold fmN; rw [List.foldl_append]; rfl
theorem stpN_mem (ks : List K) (k x : K) : x ∈ stpN ks k ↔ x ∈ ks ∨ x = k := by
  unfold stpN
  split
  · rename_i h
    exact ⟨.inl, fun q => q.elim id fun e => e ▸ h⟩
  · simp
theorem fmN_mem (x : K) (ks : List K) : x ∈ fmN ks ↔ x ∈ ks := by
  have : ∀ (ks a : List K), x ∈ ks.foldl stpN a ↔ x ∈ a ∨ x ∈ ks := fun ks => by
    induction ks with
    | nil => intro a; simp
    | cons k ks ih => intro a; rw [List.foldl_cons, ih, stpN_mem, List.mem_cons, or_assoc]
  simpa [fmN] using this ks []
theorem fmN_len (ks : List K) : (fmN ks).length ≤ ks.length := by
  have : ∀ (ks a : List K), (ks.foldl stpN a).length ≤ a.length + ks.length := fun ks => by
    induction ks with
    | nil => intro a; simp
    | cons k ks ih =>
      intro a
      have h1 := ih (stpN a k)
      have h2 : (stpN a k).length ≤ a.length + 1 := by unfold stpN; split <;> simp
      rw [List.foldl_cons, List.length_cons]
      omega
  simpa [fmN] using this ks []
end
section
variable {prog : Program} {w : World} {K : Type} [DecidableEq K] [Inhabited K] {J : ItO prog w K} {A : Around} {E : Value → Shared → Prop} {s : Shared}
theorem txn_new {kf : Addr → K} {h0 h : Heap} {a : Addr} {led : Bool} (e : h.get? a = some (setO led)) (lo : TpS h0 h) : TXn J kf h0 h a led [] (setO led) #[] 0 (.fresh 0 0 led) [] :=
  ⟨e, ⟨rfl, rfl, rfl⟩, rfl, ⟨rfl, rfl, by simp, rfl, by simp⟩, fun x hx => by simp at hx, .inl rfl, by show (0 : Nat) * 5 < 7 * 3; decide, by simp, .nil, .nil, rfl, lo⟩
theorem set_n {l : Addr} {bs : List Addr} {kf : Addr → K} {Q : Value → Shared → Prop} (h8 : J.lv ≤ 8) (hh : A.handled = none) (hu : A.units + 16 < cLine) (hl : s.heap.IsList l (bs.map Value.ref).toArray) (hb : ∀ b ∈ bs, J.is s.heap (kf b) (.ref b)) (h75 : bs.length ≤ 75)
    (h : ∀ (h' : Heap) (tk : Nat), TXnO J kf s.heap h' s.heap.objs.size (!w.params.followText "set-order") (fmN (bs.map kf)) → (∀ b o, b < s.heap.objs.size → s.heap.get? b = some o → h'.get? b = some o) → Q (.ref s.heap.objs.size) { s with heap := h', toks := tk }) :
    wpAny (model prog w) A (call (.type "set") [.ref l]) Q E s := by
  have sz : (bs.map Value.ref).toArray.size = bs.length := by simp
  refine call_setG (SP := fun i h => TXnO J kf s.heap h s.heap.objs.size (!w.params.followText "set-order") (fmN ((bs.take i).map kf)) ∧ ∀ b o, b < s.heap.objs.size → s.heap.get? b = some o → h.get? b = some o) hh hu hl ⟨?_, ?_⟩ ?_ ?_
  · rintro i h1 h2 ⟨⟨o, es, ep, t, L, x⟩, lw⟩ kk
    have lw2 : ∀ b o, b < s.heap.objs.size → s.heap.get? b = some o → h2.get? b = some o := fun b o hb' e => kk b o (Nat.ne_of_lt (Nat.lt_succ_of_lt hb')) (lw b o hb' e)
    exact ⟨⟨o, es, ep, t, L, x.to (kk _ _ (Nat.ne_of_lt (Nat.lt_succ_self _)) x.at_) fun b o e _ => lw2 b o (Heap.lt_size e) e⟩, lw2⟩
  · rintro A' E' i v s' Q' hu' hi hv ⟨sp, lw⟩ q
    have hi' : i < bs.length := by rw [sz] at hi; exact hi
    have hv : v = .ref bs[i] := by
      rw [List.getElem?_toArray, List.getElem?_map, List.getElem?_eq_getElem hi'] at hv
      exact (Option.some.inj hv).symm
    subst hv
    have bm := List.getElem_mem hi'
    unfold setAdd
    refine wpAny_holding (wpAny_bind (J.pyHash (by omega) (J.stay (hb _ bm) fun b o e _ => lw b o (Heap.lt_size e) e) ?_))
    have tk : bs.take (i + 1) = bs.take i ++ [bs[i]] := by rw [List.take_add_one, List.getElem?_eq_getElem hi']; rfl
    have st : fmN ((bs.take (i + 1)).map kf) = stpN (fmN ((bs.take i).map kf)) (kf bs[i]) := by rw [tk, List.map_append, List.map_singleton, fmN_snoc]
    have ll : (fmN ((bs.take i).map kf)).length + 1 ≤ 76 := by
      have := fmN_len ((bs.take i).map kf)
      rw [List.length_map, List.length_take] at this
      omega
    refine add_n (s := { s' with toks := s'.toks + J.draws (kf bs[i]) }) sp (hb _ bm) rfl h8 (by omega) ll fun h2 sb tx b => q h2 _ sb ⟨by rw [st]; exact tx, fun b o hb' e => (sb.2 b (Nat.ne_of_lt hb')).trans (lw b o hb' e)⟩ b
  · intro h1 e1 kk
    refine ⟨⟨_, _, _, _, [], by simpa [fmN] using txn_new e1 (TpS.all kk)⟩, fun b o _ e => kk b o e⟩
  · intro h1 tk ⟨sp, _⟩ kk
    refine h h1 tk ?_ kk
    rw [sz, List.take_length] at sp
    exact sp
end
end L2
set_option Elab.async false
set_option linter.all false
set_option maxRecDepth 100000
set_option maxHeartbeats 4000000
namespace L2
open PySem PySem.Spec PyProof.Rows
structure SR2 (h : Heap) (a : Addr) (o : Obj) (es : Array (Int × Value)) (ep : Nat) (t : SetTable) : Prop where
  at_ : h.get? a = some o
  ct : o.cls = .type "set"
  dt : o.data = .set es ep t
  fits : t.fits es.size = true
  ris : t.place.toList.Pairwise (· < ·)
  sz : es.size < 1000
theorem SR2.keep {h h' : Heap} {a : Addr} {o : Obj} {es : Array (Int × Value)} {ep : Nat} {t : SetTable} (x : SR2 h a o es ep t) (k : h'.get? a = some o) : SR2 h' a o es ep t := ⟨k, x.ct, x.dt, x.fits, x.ris, x.sz⟩
section
variable {prog : Program} {w : World} {A : Around} {E : Value → Shared → Prop} {s : Shared}
theorem sit_open2 {I a : Addr} {f : Value} {i n ep : Nat} {o : Obj} {es : Array (Int × Value)} {t : SetTable} {Q : Option Value → Shared → Prop} (x : SIt s.heap I f i a n ep) (y : SR2 s.heap a o es ep t) (hn : es.size = n)
    (h : wpAny (model prog w) A.in1 (match f with
        | .int slot _ => do
          match ← setNext a slot.toNat i ep with
          | some (x, next) =>
            setField (.ref I) 0 (rawInt next)
            setField (.ref I) 1 (rawInt (i + 1))
            ret x
          | none => setField (.ref I) 2 .none; raiseNew (← newExc (.type "StopIteration") [])
        | _ => do
          let some places ← seqItems? f | unsupported "internal:set_iterator"
          match places[i]? with
          | some (.int place _) =>
            let x ← setNextDrawn a place.toNat ep
            setField (.ref I) 1 (rawInt (i + 1))
            ret x
          | some _ => unsupported "internal:set_iterator"
          | none => setField (.ref I) 0 (rawInt 0); setField (.ref I) 2 .none; raiseNew (← newExc (.type "StopIteration") []))
      (fun fin s' => ∃ v, fin = Fin.done (Flow.ret v) ∧ Q (some v) s') (fun e s' => wpAny (model prog w) A (do if (← isInstance e (.type "StopIteration")) = true then pure none else throw e) Q E s') s) :
    wpAny (model prog w) A (pyNext (.ref I)) Q E s := by
  obtain ⟨oi, hi, ci, di⟩ := id x
  unfold pyNext
  refine wpAny_bind (wpAny_attempt (wpAny_callSpecial?_slot (name := Str.ofString "__next__") x.ty sit_next (wpAny_call_entry sit_next x.ty sit_entry ?_ (sit_args _))))
  unfold Builtin.«set_iterator.__next__»
  refine wpAny_bind (wpAny_pure ?_)
  refine wpAny_bind (wpAny_fieldsOf hi di ?_)
  dsimp only
  refine wpAny_bind (wpAny_setEntries_of y.at_ y.dt y.fits ?_)
  rw [if_neg (by rw [hn]; simp)]
  refine wpAny_mono ?_ (Q := fun fin s' => ∃ v, fin = Fin.done (Flow.ret v) ∧ Q (some v) s') (fun fin s' ⟨v, e, q⟩ => ⟨v, e, wpAny_pure q⟩) fun _ _ q => q
  simp only [Int.toNat_natCast]
  cases f <;> exact h
theorem sit_int2 {I a : Addr} {sl i n ep nx : Nat} {o : Obj} {es : Array (Int × Value)} {t : SetTable} {v : Value} {Q : Option Value → Shared → Prop} (x : SIt s.heap I (.int sl 0) i a n ep) (y : SR2 s.heap a o es ep t) (hn : es.size = n)
    (hx : ∀ (A' : Around) (E' : Value → Shared → Prop) (Q' : Option (Value × Nat) → Shared → Prop), Q' (some (v, nx)) s → wpAny (model prog w) A' (setNext a sl i ep) Q' E' s)
    (hQ : ∀ h', SIt h' I (.int nx 0) (i + 1) a n ep → Heap.SameBut I s.heap h' → Q (some v) { s with heap := h' }) : wpAny (model prog w) A (pyNext (.ref I)) Q E s := by
  refine sit_open2 x y hn ?_
  obtain ⟨oi, hi, ci, di⟩ := id x
  dsimp only
  rw [Int.toNat_natCast]
  refine wpAny_bind (hx _ _ _ ?_)
  dsimp only
  refine wpAny_bind (wpAny_setField hi di (by simp) ?_)
  obtain ⟨o1, g1, c1, d1⟩ := SIt.upd hi ci di 0 (rawInt nx)
  refine wpAny_bind (wpAny_setField g1 d1 (by simp) ?_)
  refine wpAny_pure ⟨v, rfl, hQ _ ?_ ((Heap.SameBut.update ..).trans (Heap.SameBut.update ..))⟩
  exact ⟨_, Heap.get?_update_self _ g1 (Obj.isFreed_of_fields (Obj.data_mapFields d1 _)), (Obj.cls_mapFields ..).trans c1, by rw [Obj.data_mapFields d1]; simp [rawInt]⟩
theorem sit_intE2 {I a : Addr} {sl i n ep : Nat} {o : Obj} {es : Array (Int × Value)} {t : SetTable} {Q : Option Value → Shared → Prop} (hh : A.handled = none) (x : SIt s.heap I (.int sl 0) i a n ep) (y : SR2 s.heap a o es ep t) (hn : es.size = n)
    (hx : ∀ (A' : Around) (E' : Value → Shared → Prop) (Q' : Option (Value × Nat) → Shared → Prop), Q' none s → wpAny (model prog w) A' (setNext a sl i ep) Q' E' s)
    (hQ : ∀ h', (∀ b o, b ≠ I → s.heap.get? b = some o → h'.get? b = some o) → Q none { s with heap := h' }) : wpAny (model prog w) A (pyNext (.ref I)) Q E s := by
  refine sit_open2 x y hn ?_
  obtain ⟨oi, hi, ci, di⟩ := id x
  dsimp only
  rw [Int.toNat_natCast]
  refine wpAny_bind (hx _ _ _ ?_)
  dsimp only
  refine wpAny_bind (wpAny_setField hi di (by simp) ?_)
  exact stop_met hh fun h' k => hQ h' fun b o hb e => k b o ((Heap.get?_update_other _ _ (Ne.symm hb)).trans e)
theorem sit_ref2 {I a tp : Addr} {i n ep pl c : Nat} {o : Obj} {es : Array (Int × Value)} {t : SetTable} {hv : Int} {v : Value} {ps : Array Value} {Q : Option Value → Shared → Prop} (x : SIt s.heap I (.ref tp) i a n ep) (y : SR2 s.heap a o es ep t) (hn : es.size = n)
    {ot : Obj} (ht : s.heap.get? tp = some ot) (hd : ot.data = .seq ps c) (hp : ps[i]? = some (rawInt pl)) (he : es[pl]? = some (hv, v))
    (hQ : ∀ h', SIt h' I (.ref tp) (i + 1) a n ep → Heap.SameBut I s.heap h' → Q (some v) { s with heap := h' }) : wpAny (model prog w) A (pyNext (.ref I)) Q E s := by
  refine sit_open2 x y hn ?_
  obtain ⟨oi, hi, ci, di⟩ := id x
  dsimp only
  refine wpAny_bind (wpAny_seqItems ht hd ?_)
  dsimp only
  rw [hp]
  dsimp only [rawInt]
  unfold setNextDrawn
  refine wpAny_bind (wpAny_bind (wpAny_setState_of y.at_ y.dt y.fits ?_))
  dsimp only
  rw [if_neg (by simp), Int.toNat_natCast, he]
  refine wpAny_pure ?_
  refine wpAny_bind (wpAny_setField hi di (by simp) ?_)
  refine wpAny_pure ⟨v, rfl, hQ _ ?_ (Heap.SameBut.update ..)⟩
  exact ⟨_, Heap.get?_update_self _ hi (Obj.isFreed_of_fields (Obj.data_mapFields di _)), (Obj.cls_mapFields ..).trans ci, by rw [Obj.data_mapFields di]; simp⟩
theorem sit_refE2 {I a tp : Addr} {i n ep c : Nat} {o : Obj} {es : Array (Int × Value)} {t : SetTable} {ps : Array Value} {Q : Option Value → Shared → Prop} (hh : A.handled = none) (x : SIt s.heap I (.ref tp) i a n ep) (y : SR2 s.heap a o es ep t) (hn : es.size = n)
    {ot : Obj} (ht : s.heap.get? tp = some ot) (hd : ot.data = .seq ps c) (hp : ps[i]? = none)
    (hQ : ∀ h', (∀ b o, b ≠ I → s.heap.get? b = some o → h'.get? b = some o) → Q none { s with heap := h' }) : wpAny (model prog w) A (pyNext (.ref I)) Q E s := by
  refine sit_open2 x y hn ?_
  obtain ⟨oi, hi, ci, di⟩ := id x
  dsimp only
  refine wpAny_bind (wpAny_seqItems ht hd ?_)
  dsimp only
  rw [hp]
  dsimp only
  refine wpAny_bind (wpAny_setField hi di (by simp) ?_)
  obtain ⟨o1, g1, c1, d1⟩ := SIt.upd hi ci di 0 (rawInt 0)
  refine wpAny_bind (wpAny_setField g1 d1 (by simp) ?_)
  exact stop_met hh fun h' k => hQ h' fun b o hb e => k b o ((Heap.get?_update_other _ _ (Ne.symm hb)).trans ((Heap.get?_update_other _ _ (Ne.symm hb)).trans e))
variable {I a : Addr} {o : Obj} {es : Array (Int × Value)} {ep : Nat} {t : SetTable}
theorem next2_text {sl i : Nat} {Q : Option (Value × Nat) → Shared → Prop} (hB : w.params.followText "set-order" = true) (y : SR2 s.heap a o es ep t)
    (h : Q (((pickOrder (w.params.setOrder a ep) es)[i]?).map fun e => (e.2, sl)) s) : wpAny (model prog w) A (setNext a sl i ep) Q E s := by
  unfold setNext setsByText
  refine wpAny_bind (wpAny_setState_of y.at_ y.dt y.fits ?_)
  dsimp only
  refine wpAny_bind (wpAny_bind (wpAny_askSetting (wpAny_pure (wpAny_ite_split (fun _ => wpAny_ite_split (fun q => absurd q (by simp)) (fun _ => ?_)) (fun q => absurd hB q)))))
  unfold setWalk setsByText
  refine wpAny_bind (wpAny_bind (wpAny_setState_of y.at_ y.dt y.fits ?_))
  dsimp only
  exact wpAny_bind (wpAny_bind (wpAny_askSetting (wpAny_pure (wpAny_ite_split (fun _ => wpAny_bind (wpAny_askSetting (wpAny_pure (wpAny_pure h)))) (fun q => absurd hB q)))))
theorem next2_slot {i : Nat} {Q : Option (Value × Nat) → Shared → Prop} (hB : w.params.followText "set-order" = false) (y : SR2 s.heap a o es ep t) (ld : t.led = true) (nd : (!t.plain && decide (es.size > 1)) = false) {sl g : Nat}
    (h : Q (match es[SetTable.below t.place sl]?, t.place[SetTable.below t.place sl]? with | some (_, x), some j => some (x, j + 1) | _, _ => none) s) : wpAny (model prog w) A (setNext a sl g ep) Q E s := by
  unfold setNext setsByText
  refine wpAny_bind (wpAny_setState_of y.at_ y.dt y.fits ?_)
  dsimp only
  refine wpAny_bind (wpAny_bind (wpAny_askSetting (wpAny_pure (wpAny_ite_split (fun q => absurd q (show ¬ w.params.followText "set-order" = true by rw [hB]; decide)) (fun _ => ?_)))))
  refine wpAny_ite_split (fun q => ?_) (fun _ => ?_)
  · have q' : (!t.plain && decide (es.size > 1)) = true := q
    rw [nd] at q'; cases q'
  refine wpAny_bind (show wpAny _ _ (if (!t.led && !es.isEmpty) = true then unsupported _ else pure ()) _ _ _ from ?_)
  exact wpAny_ite_split (fun q => absurd q (by rw [ld]; simp)) (fun _ => wpAny_pure (wpAny_pure h))
theorem walk2_text (hne : a ≠ I) (hB : w.params.followText "set-order" = true) (hh : A.handled = none) :
    Walks prog w A I [I, a] [I] ((pickOrder (w.params.setOrder a ep) es).toList.map (·.2)).length (fun i v => ((pickOrder (w.params.setOrder a ep) es).toList.map (·.2))[i]? = some v)
      (fun i h => SIt h I (.int (0 : Nat) 0) i a es.size ep ∧ SR2 h a o es ep t) where
  sub := fun b hb => by simp at hb; simp [hb]
  frame := fun _ _ _ st hk => ⟨st.1.keep fun o e => hk I (by simp) o e, st.2.keep (hk a (by simp) _ st.2.at_)⟩
  item := fun i s Q E hi st hQ => by
    rw [List.length_map] at hi
    have hg := List.getElem?_eq_getElem hi
    generalize (pickOrder (w.params.setOrder a ep) es).toList[i] = e at hg
    refine sit_int2 (v := e.2) (nx := 0) st.1 st.2 rfl (fun A' E' Q' q => next2_text hB st.2 ?_) fun h' x' k => hQ e.2 h' s.toks (by rw [List.getElem?_map, hg]; rfl) ⟨x', st.2.keep ((k.2 a hne).trans st.2.at_)⟩ fun b o hb g => (k.2 b (by simpa using hb)).trans g
    rw [← Array.getElem?_toList, hg]; exact q
  done := fun s Q E st hQ => by
    refine sit_intE2 hh st.1 st.2 rfl (fun A' E' Q' q => next2_text hB st.2 ?_) fun h' k => hQ h' s.toks fun b o hb g => k b o (by simpa using hb) g
    rw [← Array.getElem?_toList, List.length_map, List.getElem?_eq_none (Nat.le_refl _)]; exact q
  self := fun _ _ _ _ st hQ => sit_self st.1 hQ
theorem walk2_slot (hne : a ≠ I) (hB : w.params.followText "set-order" = false) (ld : t.led = true) (nd : (!t.plain && decide (es.size > 1)) = false) (hp : t.place.size = es.size) (hh : A.handled = none) :
    Walks prog w A I [I, a] [I] (es.toList.map (·.2)).length (fun i v => (es.toList.map (·.2))[i]? = some v)
      (fun i h => SIt h I (.int (slotN t i : Nat) 0) i a es.size ep ∧ SR2 h a o es ep t) where
  sub := fun b hb => by simp at hb; simp [hb]
  frame := fun _ _ _ st hk => ⟨st.1.keep fun o e => hk I (by simp) o e, st.2.keep (hk a (by simp) _ st.2.at_)⟩
  item := fun i s Q E hi st hQ => by
    rw [List.length_map, Array.length_toList] at hi
    have hb := slotN_below st.2.ris (i := i) (by omega)
    have he : es[i]? = some es[i] := Array.getElem?_eq_getElem hi
    have hj : t.place[i]? = some (t.place.getD i 0) := by rw [Array.getD_eq_getD_getElem?, Array.getElem?_eq_getElem (by omega)]; rfl
    generalize es[i] = e at he
    refine sit_int2 (v := e.2) (nx := slotN t (i + 1)) st.1 st.2 rfl (fun A' E' Q' q => next2_slot (i := i) hB st.2 ld nd ?_) fun h' x' k => hQ e.2 h' s.toks (by rw [List.getElem?_map, Array.getElem?_toList, he]; rfl) ⟨x', st.2.keep ((k.2 a hne).trans st.2.at_)⟩ fun b o hb g => (k.2 b (by simpa using hb)).trans g
    rw [hb, he, hj]; exact q
  done := fun s Q E st hQ => by
    rw [List.length_map, Array.length_toList] at st
    refine sit_intE2 hh st.1 st.2 rfl (fun A' E' Q' q => next2_slot (i := 0) hB st.2 ld nd ?_) fun h' k => hQ h' s.toks fun b o hb g => k b o (by simpa using hb) g
    rw [slotN_below st.2.ris (i := es.size) (by omega), Array.getElem?_eq_none (Nat.le_refl _)]
    exact q
  self := fun _ _ _ _ st hQ => sit_self st.1 hQ
theorem walk2_drawn {a I tp : Addr} (hne : a ≠ I) (hnt : tp ≠ I) {o ot : Obj} {es : Array (Int × Value)} {ep c : Nat} {t : SetTable} {ps : List Nat} (hp : ps.Perm (List.range es.size)) (hd : ot.data = .seq (ps.map fun (i : Nat) => rawInt i).toArray c) (hh : A.handled = none) :
    Walks prog w A I [I, a, tp] [I] (ps.map fun p => (es.toList.getD p (0, .none)).2).length (fun i v => (ps.map fun p => (es.toList.getD p (0, .none)).2)[i]? = some v)
      (fun i h => SIt h I (.ref tp) i a es.size ep ∧ SR2 h a o es ep t ∧ h.get? tp = some ot) where
  sub := fun b hb => by simp at hb; simp [hb]
  frame := fun _ _ _ st hk => ⟨st.1.keep fun o e => hk I (by simp) o e, st.2.1.keep (hk a (by simp) _ st.2.1.at_), hk tp (by simp) _ st.2.2⟩
  item := fun i s Q E hi st hQ => by
    rw [List.length_map] at hi
    have hg : ps[i]? = some ps[i] := List.getElem?_eq_getElem hi
    have hm := List.mem_range.mp (hp.mem_iff.mp (List.getElem_mem hi))
    generalize ps[i] = pl at hg hm
    have hm' : pl < es.toList.length := by simpa using hm
    have he : es.toList[pl]? = some es.toList[pl] := List.getElem?_eq_getElem hm'
    have hmem := List.getElem_mem hm'
    generalize es.toList[pl] = e at he hmem
    refine sit_ref2 (pl := pl) (hv := e.1) (v := e.2) st.1 st.2.1 rfl st.2.2 hd (by simp [hg]) (by rw [← Array.getElem?_toList, he]) fun h' x' k => hQ e.2 h' s.toks ?_ ⟨x', st.2.1.keep ((k.2 a hne).trans st.2.1.at_), (k.2 tp hnt).trans st.2.2⟩ fun b o hb g => (k.2 b (by simpa using hb)).trans g
    rw [List.getElem?_map, hg]
    show some (es.toList.getD pl (0, .none)).2 = some e.2
    rw [List.getD_eq_getElem?_getD, he]
    rfl
  done := fun s Q E st hQ => by
    refine sit_refE2 hh st.1 st.2.1 rfl st.2.2 hd ?_ fun h' k => hQ h' s.toks fun b o hb g => k b o (by simpa using hb) g
    simp
  self := fun _ _ _ _ st hQ => sit_self st.1 hQ
end
end L2
set_option Elab.async false
set_option linter.all false
set_option maxRecDepth 100000
set_option maxHeartbeats 4000000
namespace L2
open PySem PySem.Spec PyProof.Rows
section
variable {prog : Program} {w : World} {A : Around} {E : Value → Shared → Prop} {s : Shared}
theorem iter2 {a : Addr} {o : Obj} {es : Array (Int × Value)} {ep : Nat} {t : SetTable} {Q : Value → Shared → Prop} (x : SR2 s.heap a o es ep t) (led : t.led = !w.params.followText "set-order") (hlt : a < s.heap.objs.size)
    (hQ : ∀ (I : Addr) (h' : Heap) (dr : Drawn) (fp : List Addr) (vs : List Value) (St : Nat → Heap → Prop), (∀ b o, s.heap.get? b = some o → h'.get? b = some o) → s.heap.objs.size ≤ I → I < h'.objs.size → vs.Perm (es.toList.map (·.2)) →
      (∀ A' : Around, A'.handled = none → Walks prog w A' I fp [I] vs.length (fun i v => vs[i]? = some v) St) → (∀ b ∈ fp, b = a ∨ s.heap.objs.size ≤ b ∧ b < h'.objs.size) → St 0 h' → Q (.ref I) { s with heap := h', drawn := dr }) :
    wpAny (model prog w) A (pyIter (.ref a)) Q E s := by
  have hT : s.TypeIs (.ref a) "set" := ⟨o, x.at_, x.ct⟩
  refine wpAny_pyIter_slot hT PySem.F.slot_set_iter (wpAny_call_entry PySem.F.slot_set_iter hT set_iter_entry ?_ (PySem.F.args_set_iter_1 _))
  unfold Builtin.«frozenset.__iter__» Builtin.Frozenset.slot0 Builtin.Frozenset.sizeOf
  refine wpAny_bind (wpAny_bind (wpAny_pure (wpAny_pure ?_)))
  refine wpAny_bind (wpAny_bind (wpAny_setEntries_of x.at_ x.dt x.fits (wpAny_pure ?_)))
  unfold setDrawn setsByText
  refine wpAny_bind (wpAny_bind (wpAny_setState_of x.at_ x.dt x.fits ?_))
  dsimp only
  refine wpAny_bind (wpAny_bind (wpAny_askSetting (wpAny_pure (wpAny_pure ?_))))
  have mk : ∀ (f : Value) (s1 : Shared) (R : Shared → Prop), SR2 s1.heap a o es ep t → R { s1 with heap := s1.heap.push { cls := .type "set_iterator", data := .fields #[f, .int (0 : Nat) 0, .ref a, .int es.size 0, .int ep 0] } } →
      wpAny (model prog w) A.in1 (do
        let e ← setEpoch a
        let v ← newFields "set_iterator" [f, rawInt 0, .ref a, rawInt es.size, rawInt e]
        ret v) (fun fin s' => ∃ v, fin = Fin.done (Flow.ret v) ∧ v = .ref s1.heap.objs.size ∧ R s') E s1 := by
    intro f s1 R x1 hR
    refine wpAny_bind (wpAny_setEpoch_of x1.at_ x1.dt x1.fits ?_)
    unfold newFields
    exact wpAny_bind (wpAny_newObj_type (wpAny_pure ⟨_, rfl, rfl, hR⟩) (by size_fits))
  by_cases hB : w.params.followText "set-order" = true
  · refine wpAny_ite_split (fun q => ?_) (fun _ => ?_)
    · have q' : (!w.params.followText "set-order" && (!t.plain && decide (es.size > 1))) = true := q
      rw [hB] at q'
      cases q'
    refine wpAny_bind (wpAny_pure ?_)
    refine wpAny_mono (mk (rawInt 0) s (fun s' => ∃ T' r, s'.TypeIs (.ref s.heap.objs.size) T' ∧ typeLookup (.type T') (Str.ofString "__next__") = pure (some r) ∧ Q (.ref s.heap.objs.size) s') x ?_) (fun fin s' ⟨v, e1, e2, r⟩ => ⟨v, e1, by rw [e2]; exact r⟩) fun _ _ q => q
    have hI : (s.heap.push { cls := .type "set_iterator", data := .fields #[rawInt 0, .int (0 : Nat) 0, .ref a, .int es.size 0, .int ep 0] }).get? s.heap.objs.size = some { cls := .type "set_iterator", data := .fields #[rawInt 0, .int (0 : Nat) 0, .ref a, .int es.size 0, .int ep 0] } := Heap.get?_push_size _ rfl
    refine ⟨"set_iterator", _, ⟨_, hI, rfl⟩, sit_next.lookup, ?_⟩
    exact hQ _ _ s.drawn [s.heap.objs.size, a] _ _ (fun b o e => Heap.get?_push_of_some _ e) (Nat.le_refl _) (by rw [Heap.size_push]; exact Nat.lt_succ_self _) ((pick_perm (w.params.setOrder a ep) es).map _)
      (fun A' hh => walk2_text (o := o) (t := t) (Nat.ne_of_lt hlt) hB hh) (fun b hb => by
        rcases List.mem_cons.mp hb with rfl | hb
        · exact .inr ⟨Nat.le_refl _, by rw [Heap.size_push]; exact Nat.lt_succ_self _⟩
        · exact .inl (List.mem_singleton.mp hb)) ⟨⟨_, hI, rfl, rfl⟩, x.keep (Heap.get?_push_of_some _ x.at_)⟩
  · have hB' : w.params.followText "set-order" = false := by simpa using hB
    refine wpAny_ite_split (fun q => ?_) (fun q => ?_)
    · refine wpAny_bind (draw_any es.size (List.range es.size) s (by simp) fun ps dr hp => ?_)
      have pl : ps.length = es.size := by rw [hp.length_eq, List.length_range]
      unfold newTuple
      refine wpAny_bind (wpAny_newObj_type ?_ (by
        show (ps.map fun (i : Nat) => rawInt i).toArray.size ≤ sizeLine
        rw [List.size_toArray, List.length_map, pl]
        have := x.sz; rw [sizeLine_eq]; omega))
      have x1 : SR2 (s.heap.push { cls := .type "tuple", data := .seq (ps.map fun (i : Nat) => rawInt i).toArray }) a o es ep t := x.keep (Heap.get?_push_of_some _ x.at_)
      refine wpAny_mono (mk (.ref s.heap.objs.size) { s with drawn := dr, heap := s.heap.push { cls := .type "tuple", data := .seq (ps.map fun (i : Nat) => rawInt i).toArray } } (fun s' => ∃ T' r, s'.TypeIs (.ref (s.heap.push { cls := .type "tuple", data := .seq (ps.map fun (i : Nat) => rawInt i).toArray }).objs.size) T' ∧ typeLookup (.type T') (Str.ofString "__next__") = pure (some r) ∧ Q (.ref (s.heap.push { cls := .type "tuple", data := .seq (ps.map fun (i : Nat) => rawInt i).toArray }).objs.size) s') x1 ?_) (fun fin s' ⟨v, e1, e2, r⟩ => ⟨v, e1, by rw [e2]; exact r⟩) fun _ _ q => q
      have ht : (s.heap.push { cls := .type "tuple", data := .seq (ps.map fun (i : Nat) => rawInt i).toArray }).get? s.heap.objs.size = some { cls := .type "tuple", data := .seq (ps.map fun (i : Nat) => rawInt i).toArray } := Heap.get?_push_size _ rfl
      have hs1 : (s.heap.push { cls := .type "tuple", data := .seq (ps.map fun (i : Nat) => rawInt i).toArray }).objs.size = s.heap.objs.size + 1 := Heap.size_push ..
      have kk : ∀ b o, s.heap.get? b = some o → (s.heap.push { cls := .type "tuple", data := .seq (ps.map fun (i : Nat) => rawInt i).toArray }).get? b = some o := fun b o e => Heap.get?_push_of_some _ e
      generalize s.heap.push { cls := .type "tuple", data := .seq (ps.map fun (i : Nat) => rawInt i).toArray } = h1 at x1 ht hs1 kk
      have hI : (h1.push { cls := .type "set_iterator", data := .fields #[.ref s.heap.objs.size, .int (0 : Nat) 0, .ref a, .int es.size 0, .int ep 0] }).get? h1.objs.size = some { cls := .type "set_iterator", data := .fields #[.ref s.heap.objs.size, .int (0 : Nat) 0, .ref a, .int es.size 0, .int ep 0] } := Heap.get?_push_size _ rfl
      have hs2 : (h1.push { cls := .type "set_iterator", data := .fields #[.ref s.heap.objs.size, .int (0 : Nat) 0, .ref a, .int es.size 0, .int ep 0] }).objs.size = h1.objs.size + 1 := Heap.size_push ..
      refine ⟨"set_iterator", _, ⟨_, hI, rfl⟩, sit_next.lookup, ?_⟩
      have hne : a ≠ h1.objs.size := by rw [hs1]; exact Nat.ne_of_lt (Nat.lt_succ_of_lt hlt)
      have hnt : s.heap.objs.size ≠ h1.objs.size := by rw [hs1]; exact Nat.ne_of_lt (Nat.lt_succ_self _)
      refine hQ _ _ dr [h1.objs.size, a, s.heap.objs.size] _ _ (fun b o e => Heap.get?_push_of_some _ (kk b o e)) (by rw [hs1]; exact Nat.le_succ _) (by rw [hs2]; exact Nat.lt_succ_self _) ?_
        (fun A' hh => walk2_drawn (o := o) (t := t) (ep := ep) hne hnt hp rfl hh) (fun b hb => ?_) ⟨⟨_, hI, rfl, rfl⟩, x1.keep (Heap.get?_push_of_some _ x1.at_), Heap.get?_push_of_some _ ht⟩
      · have e2 : es.toList.map (·.2) = (List.range es.size).map fun p => (es.toList.getD p (0, .none)).2 := by
          refine List.ext_getElem? fun j => ?_
          rw [List.getElem?_map, List.getElem?_map]
          by_cases hj : j < es.size
          · have hj' : j < es.toList.length := by simpa using hj
            rw [List.getElem?_range hj, List.getElem?_eq_getElem hj']
            show some es.toList[j].2 = some (es.toList.getD j (0, .none)).2
            rw [List.getD_eq_getElem?_getD, List.getElem?_eq_getElem hj']
            rfl
          · rw [List.getElem?_eq_none (by simpa using hj), List.getElem?_eq_none (by simpa using hj)]
            rfl
        rw [e2]
        exact hp.map _
      · rcases List.mem_cons.mp hb with rfl | hb
        · exact .inr ⟨by rw [hs1]; exact Nat.le_succ _, by rw [hs2]; exact Nat.lt_succ_self _⟩
        · rcases List.mem_cons.mp hb with rfl | hb
          · exact .inl rfl
          · rw [List.mem_singleton.mp hb]
            exact .inr ⟨Nat.le_refl _, by rw [hs2, hs1]; exact Nat.lt_succ_of_lt (Nat.lt_succ_self _)⟩
    · have q' : ¬ (!w.params.followText "set-order" && (!t.plain && decide (es.size > 1))) = true := q
      have nd : (!t.plain && decide (es.size > 1)) = false := by
        rw [hB'] at q'
        simpa using q'
      refine wpAny_bind (wpAny_pure ?_)
      have hps : t.place.size = es.size := by
        have hf := x.fits
        simp only [SetTable.fits, Bool.and_eq_true, beq_iff_eq] at hf
        exact hf.1
      refine wpAny_mono (mk (rawInt 0) s (fun s' => ∃ T' r, s'.TypeIs (.ref s.heap.objs.size) T' ∧ typeLookup (.type T') (Str.ofString "__next__") = pure (some r) ∧ Q (.ref s.heap.objs.size) s') x ?_) (fun fin s' ⟨v, e1, e2, r⟩ => ⟨v, e1, by rw [e2]; exact r⟩) fun _ _ q => q
      have hI : (s.heap.push { cls := .type "set_iterator", data := .fields #[rawInt 0, .int (0 : Nat) 0, .ref a, .int es.size 0, .int ep 0] }).get? s.heap.objs.size = some { cls := .type "set_iterator", data := .fields #[rawInt 0, .int (0 : Nat) 0, .ref a, .int es.size 0, .int ep 0] } := Heap.get?_push_size _ rfl
      refine ⟨"set_iterator", _, ⟨_, hI, rfl⟩, sit_next.lookup, ?_⟩
      exact hQ _ _ s.drawn [s.heap.objs.size, a] _ _ (fun b o e => Heap.get?_push_of_some _ e) (Nat.le_refl _) (by rw [Heap.size_push]; exact Nat.lt_succ_self _) (List.Perm.refl _)
        (fun A' hh => walk2_slot (o := o) (t := t) (ep := ep) (Nat.ne_of_lt hlt) hB' (by rw [led, hB']; rfl) nd hps hh) (fun b hb => by
          rcases List.mem_cons.mp hb with rfl | hb
          · exact .inr ⟨Nat.le_refl _, by rw [Heap.size_push]; exact Nat.lt_succ_self _⟩
          · exact .inl (List.mem_singleton.mp hb)) ⟨⟨_, hI, rfl, rfl⟩, x.keep (Heap.get?_push_of_some _ x.at_)⟩
theorem row2 {a S : Addr} {o : Obj} {es : Array (Int × Value)} {ep : Nat} {t : SetTable} {R : Result → Shared → Prop} (x : SR2 s.heap a o es ep t) (led : t.led = !w.params.followText "set-order") (hh : A.handled = none) (hSa : S ≠ a) (hS : s.heap.get? S = some { cls := .type "list", data := .seq #[] })
    (hR : ∀ (h' : Heap) (tk : Nat) (dr : Drawn) (acc : Array Value) (c : Nat) (vs : List Value), (∀ b o, b ≠ S → s.heap.get? b = some o → h'.get? b = some o) → h'.get? S = some { cls := .type "list", dict := none, data := .seq acc c, slots := #[] } → vs.Perm (es.toList.map (·.2)) →
      ItemsOf (fun i v => vs[i]? = some v) acc vs.length → R (.ok (.ret (.ref S))) { s with heap := h', toks := tk, drawn := dr }) :
    wpAny (model prog w) A.in1 (Builtin.List.listExtendWith (.ref S) (.ref a) (.ref S))
      (fun fin s' => match fin with | .done f => R (.ok f) s' | .again c' => c'.quiet = true ∧ codeAny (model prog w) A c' R s') (fun e s' => R (.error e) s') s := by
  have hT : s.TypeIs (.ref a) "set" := ⟨o, x.at_, x.ct⟩
  have hlt : a < s.heap.objs.size := Heap.lt_size x.at_
  have hSl : S < s.heap.objs.size := Heap.lt_size hS
  have hks : (es.toList.map (·.2)).length ≤ sizeLine := by have := x.sz; rw [List.length_map, Array.length_toList, sizeLine_eq]; omega
  unfold Builtin.List.listExtendWith
  refine wpAny_bind (wpAny_typeOf (T := "set") hT ?_)
  have e1 : Builtin.List.listSameRef (.ref S) (.ref a) = false := by simp [Builtin.List.listSameRef, hSa]
  simp only [e1, show (Value.type "set" == Value.type "list") = false by decide, show (Value.type "set" == Value.type "tuple") = false by decide, Bool.or_false, Bool.false_eq_true, if_false]
  refine wpAny_bind (iter2 x led hlt fun I h1 dr fp vs St k1 hI hI2 hp W hfp st => ?_)
  have x1 := x.keep (k1 a _ x.at_)
  have hT1 : ({ s with heap := h1, drawn := dr } : Shared).TypeIs (.ref a) "set" := ⟨o, x1.at_, x.ct⟩
  have hS1 := k1 S _ hS
  have hSf : S ∉ fp := fun q => by
    rcases hfp S q with q | q
    · exact hSa q
    · exact absurd hSl (Nat.not_lt.mpr q.1)
  have key : ∀ (h : Heap) (c1 tk : Nat), St 0 h → (∀ b o, b ≠ S → h1.get? b = some o → h.get? b = some o) → h.get? S = some { cls := .type "list", data := .seq #[] c1 } →
      codeAny (model prog w) A (.builtin "list.extend.loop" ⟨[.ref S, .ref I, .ref S], []⟩) R { s with heap := h, toks := tk, drawn := dr } := by
    intro h c1 tk st' kk hS'
    refine codeAny_extend_loopS (W A.in1 hh).toS (by rw [hp.length_eq]; exact hks) S hSf (.ref S) vs.length 0 _ #[] c1 rfl (Nat.zero_le _) st' hS' (ItemsOf.nil _) fun s' acc c' hm hS2 hacc => ?_
    rw [Moved.eq_with hm]
    refine hR s'.heap s'.toks dr acc c' vs (fun b o hb e => hm.heap b o (fun q => ?_) (kk b o hb (k1 b o e))) hS2 hp hacc
    rcases List.mem_cons.mp q with q | q
    · exact hb q
    · exact absurd (Heap.lt_size e) (Nat.not_lt.mpr (by rw [List.mem_singleton.mp q]; exact hI))
  refine wpAny_bind (wpAny_holding (hint_set hT1 ?_))
  refine wpAny_ite_split (fun _ => ?_) (fun _ => wpAny_pure ⟨plainId_quiet PySem.F.plain_extend_loop _, key _ 0 _ st (fun b o _ e => e) hS1⟩)
  refine wpAny_bind (wpAny_rule (wpAny_bind (show wpAny _ _ (updateSeq S (·.push .none) >>= fun _ => updateSeq S (·.pop)) _ _ _ from ?_)))
  refine wpAny_bind (wpAny_updateSeq hS1 rfl ?_)
  have hS2 := Heap.get?_update_self (Obj.mapSeq (·.push Value.none)) hS1 rfl
  refine wpAny_updateSeq (hz := by seq_fits) hS2 rfl ?_
  have hS3 := Heap.get?_update_self (Obj.mapSeq (·.pop)) hS2 rfl
  have oth : ∀ b o, b ≠ S → h1.get? b = some o → ((h1.update S (Obj.mapSeq (·.push Value.none))).update S (Obj.mapSeq (·.pop))).get? b = some o := fun b o hb e => (Heap.get?_update_other _ _ (Ne.symm hb)).trans ((Heap.get?_update_other _ _ (Ne.symm hb)).trans e)
  exact wpAny_pure ⟨plainId_quiet PySem.F.plain_extend_loop _, key _ _ _ ((W A.in1 hh).frame 0 _ _ st fun b hb o e => oth b o (fun q => hSf (q ▸ hb)) e) oth hS3⟩
theorem collect2 {a : Addr} {o : Obj} {es : Array (Int × Value)} {ep : Nat} {t : SetTable} {R : List Value → Shared → Prop} (x : SR2 s.heap a o es ep t) (led : t.led = !w.params.followText "set-order") (hh : A.handled = none)
    (h : ∀ (h' : Heap) (tk : Nat) (dr : Drawn) (vs : List Value), (∀ b o, s.heap.get? b = some o → h'.get? b = some o) → s.heap.objs.size ≤ h'.objs.size → vs.Perm (es.toList.map (·.2)) → R vs { s with heap := h', toks := tk, drawn := dr }) :
    wpAny (model prog w) A (collect (.ref a)) R E s := by
  have hlt : a < s.heap.objs.size := Heap.lt_size x.at_
  have areS : ∀ (us vs : List Value), us.length = vs.length → (∀ (j : Nat) (v : Value), us[j]? = some v → vs[j]? = some v) → us = vs := fun us vs hl hv => by
    refine List.ext_getElem? fun j => ?_
    by_cases c : j < us.length
    · rw [List.getElem?_eq_getElem c]; exact (hv j _ (List.getElem?_eq_getElem c)).symm
    · rw [List.getElem?_eq_none (by omega), List.getElem?_eq_none (by omega)]
  unfold collect
  refine wpAny_bind (wpAny_runValue (codeAny_builtin entry_proto_collect' ?_))
  rw [Around.under_plainId PySem.F.plain_proto_collect _]
  refine show wpAny _ A.in1 (newList [] >>= fun l => again (.builtin "list.__iadd__" ⟨[l, .ref a], []⟩)) _ _ s from ?_
  refine wpAny_bind (wpAny_newObj_type (wpAny_pure ⟨plainId_quiet PySem.F.plain_list_iadd _, codeAny_builtin entry_list_iadd' ?_⟩))
  rw [Around.under_plainId PySem.F.plain_list_iadd _]
  have hS : (s.heap.push { cls := .type "list", data := .seq ([] : List Value).toArray }).get? s.heap.objs.size = some { cls := .type "list", data := .seq #[] } := Heap.get?_push_size _ rfl
  refine show wpAny _ A.in1 (Builtin.List.listExtendWith (.ref s.heap.objs.size) (.ref a) (.ref s.heap.objs.size)) _ _ _ from ?_
  have key := row2 (prog := prog) (A := A) (s := { s with heap := s.heap.push { cls := .type "list", data := .seq ([] : List Value).toArray } }) (S := s.heap.objs.size)
    (R := fun (q : Result) (s' : Shared) => ∃ (h' : Heap) (tk : Nat) (dr : Drawn) (acc : Array Value) (c : Nat) (vs : List Value), q = .ok (.ret (.ref s.heap.objs.size)) ∧ s' = { s with heap := h', toks := tk, drawn := dr } ∧
      (∀ b o, s.heap.get? b = some o → h'.get? b = some o) ∧ h'.get? s.heap.objs.size = some { cls := .type "list", dict := none, data := .seq acc c, slots := #[] } ∧ vs.Perm (es.toList.map (·.2)) ∧ acc.toList = vs)
    (x.keep (Heap.get?_push_of_some _ x.at_)) led hh (Nat.ne_of_gt hlt) hS
    (fun h' tk dr acc c ord hk hS' hp hacc => ⟨h', tk, dr, acc, c, ord, rfl, rfl, fun b o e => hk b o (Nat.ne_of_lt (Heap.lt_size e)) (Heap.get?_push_of_some _ e), hS', hp, areS acc.toList ord (by rw [Array.length_toList]; exact hacc.1) fun j v hv => hacc.2 j v (by rw [← Array.getElem?_toList]; exact hv)⟩)
  refine wpAny_mono key (fun fin s' y => ?_) fun e s' y => ?_
  · cases fin with
    | done f =>
      obtain ⟨h', tk, dr, acc, c, ord, e, rfl, hk, hS', hp, hst⟩ := y
      cases e
      exact wpAny_bind (wpAny_load hS' (wpAny_pure (by rw [hst]; exact h h' tk dr ord hk (Nat.le_of_lt (Heap.lt_size hS')) hp)))
    | again c1 =>
      refine ⟨y.1, codeAny_mono y.2 fun q s2 y2 => ?_⟩
      obtain ⟨h', tk, dr, acc, c, ord, rfl, rfl, hk, hS', hp, hst⟩ := y2
      exact wpAny_bind (wpAny_load hS' (wpAny_pure (by rw [hst]; exact h h' tk dr ord hk (Nat.le_of_lt (Heap.lt_size hS')) hp)))
  · obtain ⟨_, _, _, _, _, _, q, _⟩ := y
    cases q
end
end L2
set_option Elab.async false
set_option linter.all false
set_option maxRecDepth 100000
set_option maxHeartbeats 4000000
namespace L2
open PySem PySem.Spec PyProof.Rows
section
variable {Q : Type} {lt : Q → Q → Bool}
def rkO (lt : Q → Q → Bool) (l : List Q) (x : Q) : Nat := l.countP fun y => lt y x
theorem countP_le {p q : Q → Bool} : ∀ {l : List Q}, (∀ a, p a = true → q a = true) → l.countP p ≤ l.countP q
  | [], _ => Nat.le_refl _
  | a :: l, h => by
    have := countP_le (l := l) h
    rw [List.countP_cons, List.countP_cons]
    by_cases c : p a = true
    · rw [if_pos c, if_pos (h a c)]; omega
    · rw [if_neg c]; omega
theorem countP_lt {p q : Q → Bool} {x : Q} (hq : q x = true) (hp : p x = false) : ∀ {l : List Q}, (∀ a, p a = true → q a = true) → x ∈ l → l.countP p < l.countP q
  | a :: l, h, m => by
    rw [List.countP_cons, List.countP_cons]
    rcases List.mem_cons.mp m with e | m
    · have := countP_le (l := l) h
      rw [← e, if_pos hq, if_neg (by rw [hp]; decide)]; omega
    · have := countP_lt hq hp h m
      by_cases c : p a = true
      · rw [if_pos c, if_pos (h a c)]; omega
      · rw [if_neg c]; omega
theorem rkO_lt (irr : ∀ a, lt a a = false) (tr : ∀ a b c, lt a b = true → lt b c = true → lt a c = true) (tot : ∀ a b, lt a b = false → lt b a = false → a = b) {l : List Q} {x y : Q} (hx : x ∈ l) : decide (rkO lt l x < rkO lt l y) = lt x y := by
  cases c : lt x y with
  | true => exact decide_eq_true (countP_lt (p := fun z => lt z x) (q := fun z => lt z y) (x := x) c (irr x) (fun a ha => tr a x y ha c) hx)
  | false =>
    refine decide_eq_false (Nat.not_lt.mpr (countP_le (p := fun z => lt z y) (q := fun z => lt z x) fun a ha => ?_))
    cases c2 : lt y x with
    | true => exact tr a y x ha c2
    | false => rw [tot _ _ c c2]; exact ha
end
section
variable {prog : Program} {w : World} {K : Type} [DecidableEq K] {I : ItO prog w K} {A : Around} {E : Value → Shared → Prop} {s : Shared}
def TupsO (I : ItO prog w K) (h : Heap) (bs : List Addr) (kf : Addr → List K) : Prop := ∀ b ∈ bs, IsLs I.toItN h (kf b) (.ref b) ∧ kf b ≠ []
theorem firsts_n {h : Heap} {kf : Addr → List K} : ∀ {bs : List Addr}, TupsO I h bs kf → ∃ fs, PySem.W.KatTups h (bs.map Value.ref) fs ∧ fs.length = bs.length ∧ ∀ v ∈ fs, ∃ x, I.is h x v
  | [], _ => ⟨[], trivial, rfl, by simp⟩
  | b :: bs, ht => by
    obtain ⟨fs, h1, h2, h3⟩ := firsts_n (bs := bs) fun c hc => ht c (.tail _ hc)
    obtain ⟨⟨a, o, items, n, e, ho, hc, hd, hi⟩, ne⟩ := ht b (.head _)
    cases e
    obtain ⟨i0, k, ek⟩ := List.exists_cons_of_ne_nil ne
    have il := Paired.length hi
    obtain ⟨f, hf⟩ : ∃ f, items[0]? = some f := by
      have : 0 < items.size := by rw [← Array.length_toList, ← il, ek]; simp
      exact ⟨_, Array.getElem?_eq_getElem this⟩
    have fi := paired_at hi (v := f) (by rw [← Array.getElem?_toList] at hf; exact List.mem_of_getElem? hf)
    refine ⟨f :: fs, PySem.W.KatTups.cons ho hc hd hf h1, by simp [h2], fun v hv => ?_⟩
    rcases List.mem_cons.mp hv with q | q
    · rw [q]; exact fi
    · exact h3 v q
theorem kind_n {kf : Addr → List K} {bs : List Addr} {Q : SortKind → Shared → Prop} (ht : TupsO I s.heap bs kf) (h2 : 2 ≤ bs.length) (h : Q (tuples' (Value.type I.tnm != Value.type "tuple")) s) : wpAny (model prog w) A (keyKind' (bs.map Value.ref).toArray) Q E s := by
  obtain ⟨fs, f1, f2, f3⟩ := firsts_n ht
  refine PySem.W.kat_kind (T := .type I.tnm) f1 (by omega) (fun v hv => ?_) (by simp) ?_
  · obtain ⟨x, hx⟩ := f3 v hv
    exact I.looks hx
  · exact h
def OrdK (I : ItO prog w K) (ks : List (List K)) : Prop := ks.Pairwise fun x y => lexlt I.lt y x = false
theorem runs_n {kf : Addr → List K} {bs : List Addr} {Q : SortSt → Shared → Prop} (hu : A.units + I.lv < cLine) (ht : TupsO I s.heap bs kf) (h2 : 2 ≤ bs.length) (h64 : bs.length < 64)
    (h : ∀ (st : SortSt) (bs' : List Addr), bs'.Perm bs → OrdK I (bs'.map kf) → (arrOf st).map (·.2) = (bs'.map Value.ref).toArray → failedOf st = none → Q st s) :
    wpAny (model prog w) A ((sortRuns').run (SortSt.mk' (tuples' (Value.type I.tnm != Value.type "tuple")) ((bs.map Value.ref).toArray.zip (bs.map Value.ref).toArray) #[] 7 none)) (fun r s' => Q r.2 s') E s := by
  have lv : (bs.map Value.ref).length = bs.length := List.length_map ..
  let r : Nat → Nat := fun i => rkO (lexlt I.lt) (bs.map kf) (kf (bs.getD i 0))
  have ky : ∀ i, i < bs.length → ∀ j, ltR r i j = lexlt I.lt (kf (bs.getD i 0)) (kf (bs.getD j 0)) := fun i hi j => rkO_lt (lexlt_irr I.lt) (lexlt_tr I.lt I.irr I.tr) (lexlt_tot I.lt I.tot) (List.mem_map.mpr ⟨_, by rw [List.getD_eq_getElem?_getD, List.getElem?_eq_getElem hi]; exact List.getElem_mem hi, rfl⟩)
  refine PySem.W.kat_run (vs := bs.map Value.ref) (ks := bs.map Value.ref) (G := fun p s' => s' = s ∧ p.Perm (List.toArray (List.range bs.length)) ∧ Up (Rk r p) bs.length) rfl (by omega) (by omega) (fun p st s' hp ha hf hg => ?_) ?_
  · obtain ⟨rfl, pp, up⟩ := hg
    have sn := PySem.W.kat_snds (vs := bs.map Value.ref) rfl ha
    have pl : p.toList.Perm (List.range bs.length) := by simpa using pp.toList
    refine h st (p.toList.map fun i => bs.getD i 0) ?_ ?_ ?_ hf
    · have e2 : (List.range bs.length).map (fun k => bs.getD k 0) = bs := by
        refine List.ext_getElem (by simp) fun i q1 q2 => ?_
        rw [List.getElem_map, List.getElem_range, List.getD_eq_getElem?_getD, List.getElem?_eq_getElem q2]; rfl
      exact (pl.map _).trans (by rw [e2])
    · unfold OrdK
      rw [List.map_map, List.pairwise_map, List.pairwise_iff_getElem]
      intro i j hi hj hij
      have hl : p.toList.length = bs.length := by rw [pl.length_eq, List.length_range]
      have gi : ∀ i (hi : i < p.toList.length), p.getD i 0 = p.toList[i] := fun i hi => by
        rw [Array.getD_eq_getD_getElem?, ← Array.getElem?_toList, List.getElem?_eq_getElem hi]; rfl
      have u := up i j (by omega) (by omega)
      unfold Rk at u
      rw [gi i hi, gi j hj] at u
      have hjm := List.mem_range.mp (pl.mem_iff.mp (List.getElem_mem hj))
      have := ky _ hjm p.toList[i]
      show lexlt I.lt (kf (bs.getD p.toList[j] 0)) (kf (bs.getD p.toList[i] 0)) = false
      rw [← this]
      exact decide_eq_false (by omega)
    · rw [sn, List.map_map]
      congr 1
      refine List.map_congr_left fun i hi => ?_
      have il := List.mem_range.mp (pl.mem_iff.mp hi)
      show (bs.map Value.ref).getD i .none = .ref (bs.getD i 0)
      rw [List.getD_eq_getElem?_getD, List.getElem?_map, List.getD_eq_getElem?_getD, List.getElem?_eq_getElem il]; rfl
  · rw [lv]
    refine runT_wp (lt := ltR r) (fun i j C hi hj hC => ?_) (sort_leaf (by omega)) (fun hp => ⟨rfl, hp, sort_run (by omega)⟩)
    have ix : ∀ i, i < bs.length → (bs.map Value.ref).getD i .none = .ref (bs.getD i 0) ∧ bs.getD i 0 ∈ bs := fun i hi => by
      rw [List.getD_eq_getElem?_getD, List.getElem?_map, List.getD_eq_getElem?_getD, List.getElem?_eq_getElem hi]
      exact ⟨rfl, List.getElem_mem hi⟩
    show wpAny _ _ (keyLt' (tuples' _) ((bs.map Value.ref).getD i .none) ((bs.map Value.ref).getD j .none)) C _ s
    rw [(ix i hi).1, (ix j hj).1]
    rw [ky i hi j] at hC
    exact lt_n (fun hb => by simpa using hb) hu (ht _ (ix i hi).2).1 (ht _ (ix j hj).2).1 hC
theorem sort_n {D : Addr} {kf : Addr → List K} {bs : List Addr} {n : Nat} {P : PySem.Fin → Shared → Prop} (ho : s.heap.get? D = some (seqObj "list" (bs.map Value.ref).toArray n)) (hu : A.units + I.lv < cLine) (ht : TupsO I s.heap bs kf) (h64 : bs.length < 64)
    (h : ∀ (h' : Heap) (bs' : List Addr) (c : Nat), bs'.Perm bs → OrdK I (bs'.map kf) → h'.get? D = some (seqObj "list" (bs'.map Value.ref).toArray c) → (∀ b o, b ≠ D → s.heap.get? b = some o → h'.get? b = some o) → P (.done (.ret .none)) { s with heap := h' }) :
    wpAny (model prog w) A (Builtin.«list.sort» ⟨[.ref D], []⟩) P E s := by
  have hsz := sizeLine_eq
  have lv : (bs.map Value.ref).toArray.size = bs.length := by simp
  have nD : ∀ b ∈ bs, b ≠ D := fun b hb e => by
    obtain ⟨⟨a', o, items, n, ea, h1, h2, _⟩, _⟩ := ht b hb
    cases ea
    rw [e, ho] at h1
    cases h1
    exact absurd h2 (by simp [seqObj])
  obtain ⟨c1, g1⟩ : ∃ c1, (s.heap.update D (Obj.mapSeq fun _ => (#[] : Array Value))).get? D = some (seqObj "list" #[] c1) := ⟨_, get?_update_seq ho fun _ => #[]⟩
  have k1 : ∀ b o, b ≠ D → s.heap.get? b = some o → (s.heap.update D (Obj.mapSeq fun _ => (#[] : Array Value))).get? b = some o := fun b o hb e => (Heap.get?_update_other _ _ (Ne.symm hb)).trans e
  rw [list_sort_plain]
  refine wpAny_bind (listItems_at ho rfl (wpAny_bind (listUpdate_at ho rfl ?_ (by rw [lv, hsz]; omega) (Nat.zero_le _))))
  generalize s.heap.update D (Obj.mapSeq fun _ => (#[] : Array Value)) = h1 at g1 k1 ⊢
  refine wpAny_bind (seqEpoch_at g1 rfl (wpAny_bind (wpAny_newTuple (wpAny_bind (wpAny_newList (wpAny_holding ?_) (Nat.zero_le _))) (by rw [Array.length_toList, lv, hsz]; omega))))
  have k2 : ∀ b o, h1.get? b = some o → ((h1.push (seqObj "tuple" (bs.map Value.ref).toArray.toList.toArray 0)).push (seqObj "list" [].toArray 0)).get? b = some o := fun b o e => Heap.get?_push_of_some _ (Heap.get?_push_of_some _ e)
  have g2 := k2 _ _ g1
  generalize hh2 : ((h1.push (seqObj "tuple" (bs.map Value.ref).toArray.toList.toArray 0)).push (seqObj "list" [].toArray 0)) = h2 at k2 g2
  have ht2 : TupsO I h2 bs kf := fun b hb => ⟨IsLs.stay (ht b hb).1 ((TpS.but ho (by simp [seqObj]) k1).trans (TpS.all k2)), (ht b hb).2⟩
  show wpAny _ A _ P E { s with heap := h2 }
  dsimp only
  have fin : ∀ (st : SortSt) (bs' : List Addr), bs'.Perm bs → OrdK I (bs'.map kf) → (arrOf st).map (·.2) = (bs'.map Value.ref).toArray → failedOf st = none → wpAny (model prog w) A (do
      let __do_lift ← seqEpoch D
      have touched : Bool := __do_lift != c1
      Builtin.List.listUpdate (.ref D) fun x => (arrOf st).map (·.2)
      have __do_jp : Unit → Sem PySem.Fin := fun __r =>
        have __do_jp := fun (__r : Unit) => ret Value.none;
        if touched = true then do
          rule "list.sort.modified"
          let __r ← raiseErrorWords "ValueError" "list modified during sort"
          __do_jp __r
        else __do_jp ()
      match failedOf st with
        | some e => do
          rule "list.sort.comparison-raised"
          let __r ← throw e
          __do_jp __r
        | x => __do_jp ()) P E { s with heap := h2 } := fun st bs' hp oo ea hf => by
    rw [ea, hf]
    refine wpAny_bind (seqEpoch_at g2 rfl (wpAny_bind (listUpdate_at g2 rfl ?_ (Nat.zero_le _) (by rw [List.size_toArray, List.length_map, hp.length_eq, hsz]; omega))))
    dsimp only
    rw [if_neg (by simp)]
    refine wpAny_pure (h _ bs' _ hp oo (get?_update_seq g2 fun _ => (bs'.map Value.ref).toArray) fun b o hb e => (Heap.get?_update_other _ _ (Ne.symm hb)).trans (k2 _ _ (k1 _ _ hb e)))
  by_cases c : (bs.map Value.ref).toArray.size < 2
  · rw [if_pos c, if_pos c]
    refine wpAny_bind (wpAny_pure ?_)
    rw [StateT.run_pure]
    refine wpAny_bind (wpAny_pure ?_)
    refine fin _ bs (List.Perm.refl _) (by
      rw [lv] at c
      match bs, c with
      | [], _ => exact .nil
      | [x], _ => exact List.pairwise_singleton _ _) ?_ rfl
    show Array.map (·.2) ((bs.map Value.ref).toArray.zip (bs.map Value.ref).toArray) = _
    apply Array.toList_inj.mp
    rw [Array.toList_map, Array.toList_zip]
    refine List.ext_getElem (by simp) fun i q1 q2 => ?_
    simp
  · rw [if_neg c, if_neg c]
    rw [lv] at c
    refine wpAny_bind (kind_n (s := { s with heap := h2 }) ht2 (by omega) ?_)
    refine wpAny_bind (wpAny_mono (runs_n (s := { s with heap := h2 }) (Q := fun st s' => s' = { s with heap := h2 } ∧ ∃ bs' : List Addr, bs'.Perm bs ∧ OrdK I (bs'.map kf) ∧ (arrOf st).map (·.2) = (bs'.map Value.ref).toArray ∧ failedOf st = none) hu ht2 (by omega) h64 fun st bs' hp oo ea hf => ⟨rfl, bs', hp, oo, ea, hf⟩) ?_ fun _ _ e => e)
    rintro ⟨⟨⟩, st⟩ s' ⟨rfl, bs', hp, oo, ea, hf⟩
    exact fin st bs' hp oo ea hf
end
end L2
set_option Elab.async false
set_option linter.all false
set_option maxRecDepth 100000
set_option maxHeartbeats 4000000
namespace L2
open PySem PySem.Spec PyProof.Rows
section
variable {prog : Program} {w : World} {K : Type} [DecidableEq K] {I : ItO prog w K} {A : Around} {E : Value → Shared → Prop} {s : Shared}
variable {a : Addr} {o : Obj} {es : Array (Int × Value)} {ep : Nat} {t : SetTable}
theorem sorted_n {kf : Addr → List K} {h0 : Heap} {ks : List (List K)} {L : List (Nat × (Int × Value))} {Q : Value → Shared → Prop} (x : TXn I.list kf h0 s.heap a (!w.params.followText "set-order") ks o es ep t L) (hh : A.handled = none) (hu : A.units + 8 + I.lv < cLine) (h64 : ks.length < 64) (ne : ∀ k ∈ ks, k ≠ [])
    (h : ∀ (D : Addr) (h' : Heap) (tk : Nat) (dr : Drawn) (bs : List Addr) (c : Nat), (∀ b o, s.heap.get? b = some o → h'.get? b = some o) → s.heap.objs.size ≤ D → h'.get? D = some (seqObj "list" (bs.map Value.ref).toArray c) → (bs.map kf).Perm ks → OrdK I (bs.map kf) → Q (.ref D) { s with heap := h', toks := tk, drawn := dr }) :
    wpAny (model prog w) A (call (.builtin "sorted") [.ref a]) Q E s := by
  have hsz := sizeLine_eq
  obtain ⟨l1, l2⟩ := x.len
  have y : SR2 s.heap a o es ep t := ⟨x.at_, x.ex.1, x.dt, x.fits, x.ly.rp, by omega⟩
  refine Calls.call_function_entry kind_sorted plain_sorted entry_sorted (args_sorted1 _) ?_
  unfold Builtin.«sorted»
  refine wpAny_bind (m := checkCount "sorted" 1 1 _) (wpAny_pure (wpAny_bind (collect2 (A := A.in1) y x.ld hh fun h1 tk dr vs k1 z1 hvp => ?_)))
  have ev : ∀ v ∈ vs, ∃ b, v = .ref b ∧ IsLs I.toItN s.heap (kf b) (.ref b) := fun v hv => by
    obtain ⟨e, he, rfl⟩ := List.mem_map.mp (hvp.mem_iff.mp hv)
    rw [x.ly.el] at he
    obtain ⟨b, q1, q2⟩ := x.en e he
    exact ⟨b, by rw [q1], IsLs.stay q2 x.lo⟩
  have toB : ∀ vs : List Value, (∀ v ∈ vs, ∃ b, v = .ref b ∧ IsLs I.toItN s.heap (kf b) (.ref b)) → ∃ bs : List Addr, vs = bs.map Value.ref ∧ ∀ b ∈ bs, IsLs I.toItN s.heap (kf b) (.ref b) := fun vs => by
    induction vs with
    | nil => intro _; exact ⟨[], rfl, by simp⟩
    | cons v vs ih =>
      intro hv
      obtain ⟨b, e, q⟩ := hv v (.head _)
      obtain ⟨bs, e2, q2⟩ := ih fun u hu => hv u (.tail _ hu)
      exact ⟨b :: bs, by rw [e, e2]; rfl, fun c hc => (List.mem_cons.mp hc).elim (fun z => z ▸ q) (q2 c)⟩
  obtain ⟨bs, rfl, hbs⟩ := toB vs ev
  have pk : (bs.map kf).Perm ks := by
    refine List.Perm.trans ?_ x.ky
    have e1 : bs.map kf = (bs.map Value.ref).map fun v => keyN kf (0, v) := by rw [List.map_map]; rfl
    have e2 : (L.map Prod.snd).map (keyN kf) = (es.toList.map (·.2)).map fun v => keyN kf (0, v) := by rw [x.ly.el, List.map_map, List.map_map, List.map_map]; rfl
    rw [e1, e2]
    exact hvp.map _
  have bl : bs.length = ks.length := by rw [← pk.length_eq, List.length_map]
  refine wpAny_bind (wpAny_newList ?_ (by rw [List.length_map, bl, hsz]; omega))
  have hD : (h1.push (seqObj "list" (bs.map Value.ref).toArray 0)).get? h1.objs.size = some (seqObj "list" (bs.map Value.ref).toArray 0) := Heap.get?_push_size _ rfl
  have k2 : ∀ b o, s.heap.get? b = some o → (h1.push (seqObj "list" (bs.map Value.ref).toArray 0)).get? b = some o := fun b o e => Heap.get?_push_of_some _ (k1 b o e)
  refine wpAny_bind (wpAny_holding (wpAny_call_entry slot_list_sort ⟨_, hD, rfl⟩ entry_list_sort (sort_n (s := { s with heap := h1.push (seqObj "list" (bs.map Value.ref).toArray 0), toks := tk, drawn := dr }) (kf := kf) (I := I) hD (by simp; omega) (fun b hb => ⟨IsLs.stay (hbs b hb) (TpS.all k2), ne _ (pk.mem_iff.mp (List.mem_map.mpr ⟨b, hb, rfl⟩))⟩) (by omega) fun h2 bs' c hp oo e2 kk => ⟨_, rfl, ?_⟩) (args_list_sort _)))
  refine wpAny_pure ⟨_, rfl, h h1.objs.size h2 tk dr bs' c (fun b o e => kk b o (Nat.ne_of_lt (Nat.lt_of_lt_of_le (Heap.lt_size e) z1)) (k2 b o e)) z1 e2 ((hp.map kf).trans pk) oo⟩
end
section
variable {X : Cx} {pins : List (Addr × Obj)} {σ : L2.St} {H : Hp} {s : Shared}
def rSortedSetN (P : Program) (w : World) : List V → Hp → VK → Prop := fun vs H Q => match vs with
  | [.ref l] => ∃ (K : Type) (_ : DecidableEq K) (I : ItO P w K) (a : AbN I.toItN) (bs : List Addr) (kf : Addr → List K), I.lv ≤ 7 ∧ H l = some (.lst (bs.map V.ref)) ∧ (∀ b ∈ bs, a.list.ab H (kf b) (.ref b) ∧ kf b ≠ []) ∧ bs.length < 64 ∧
      ∀ (p : Addr) (bs' : List Addr), H p = none → (∀ b ∈ bs', b ∈ bs) → (bs'.map kf).Nodup → (∀ k, k ∈ bs'.map kf ↔ k ∈ bs.map kf) → OrdK I (bs'.map kf) → Q (.ref p) (upd H p (.lst (bs'.map V.ref)))
  | _ => False
def tSortedSetN (P : Program) (w : World) (ta : TE) : TE := tCB (rSortedSetN P w) (tCons ta tNil)
theorem rSortedSetN_ref (P : Program) (w : World) (l : Addr) (H : Hp) (Q : VK) : rSortedSetN P w [.ref l] H Q = (∃ (K : Type) (_ : DecidableEq K) (I : ItO P w K) (a : AbN I.toItN) (bs : List Addr) (kf : Addr → List K), I.lv ≤ 7 ∧ H l = some (.lst (bs.map V.ref)) ∧ (∀ b ∈ bs, a.list.ab H (kf b) (.ref b) ∧ kf b ≠ []) ∧ bs.length < 64 ∧
      ∀ (p : Addr) (bs' : List Addr), H p = none → (∀ b ∈ bs', b ∈ bs) → (bs'.map kf).Nodup → (∀ k, k ∈ bs'.map kf ↔ k ∈ bs.map kf) → OrdK I (bs'.map kf) → Q (.ref p) (upd H p (.lst (bs'.map V.ref)))) := rfl
theorem qpe_sortedSetN {a : Expr} {ta : TE} {p1 p2 q1 q2 : Pos} (hc : X.calm = true) (hu : X.A.units + 64 < cLine) (hg : Gl X "sorted") (hm : X.mg "sorted" = none) (hg2 : Gl X "set") (hm2 : X.mg "set" = none) (ha : QE X a ta)
    (hs : starEach [(.Call (.Name "set" p2) [a] [] q2)] X.env = [(false, eval (.Call (.Name "set" p2) [a] [] q2) X.env)] := by rfl) (hs2 : starEach [a] X.env = [(false, eval a X.env)] := by rfl) :
    QE X (.Call (.Name "sorted" p1) [.Call (.Name "set" p2) [a] [] q2] [] q1) (tSortedSetN X.prog X.w ta) := ⟨by
  intro pins s σ H Q I h
  refine wpAny_Call_Name_kw (ld_blt I hg hm bt_sorted (PyProof.Rows.callWith_builtin1 ?_ hs rfl))
  rw [hs]
  refine show wpAny _ _ (spliced ((false, eval (.Call (.Name "set" p2) [a] [] q2) X.env) :: [])) _ _ s from Calls.spliced_cons ?_
  have hA : PA X [a] (tCons ta tNil) := pa_cons ha.h pa_nil hs2
  refine wpAny_Call_Name_kw (ld_blt I hg2 hm2 bt_set (PyProof.Rows.callWith_type1 (thn (hA q2 pins s σ H (fun vs H1 => rSortedSetN X.prog X.w vs H1 Q) I h) fun us s1 ⟨vs, H1, I1, r1, q1⟩ => ?_) hs2 rfl))
  replace q1 : rSortedSetN X.prog X.w vs H1 Q := q1
  unfold rSortedSetN at q1
  split at q1
  · rename_i l
    obtain ⟨K, iK, J, ab, bs, kf, h7, e, hb, h64, q⟩ := q1
    obtain ⟨u, rfl, ru⟩ := vals1 r1
    cases ru
    have hh := I1.ok.hd hc
    obtain ⟨its, rr, pl, hz⟩ := I1.list (SqL.of e)
    have ei := refs_vals rr
    subst ei
    have j8 : J.list.lv ≤ 8 := by show J.lv + 1 ≤ 8; omega
    let kf' : Addr → List K := fun b => if b ∈ bs then kf b else []
    have kin : ∀ b ∈ bs, kf' b = kf b := fun b hb => if_pos hb
    have mk : bs.map kf' = bs.map kf := List.map_congr_left kin
    refine set_n (J := J.list) (s := s1) (kf := kf') j8 hh (by omega) pl.isList (fun b hb' => by rw [kin b hb']; exact ab.list.ok I1.hok (hb b hb').1 (RelV_ref b)) (by omega) fun h' tk hS hk => Calls.spliced_nil ?_
    obtain ⟨o, es, ep, t, L, x⟩ := hS
    have fl := fmN_len (bs.map kf')
    rw [List.length_map] at fl
    have ne : ∀ k ∈ fmN (bs.map kf'), k ≠ [] := fun k hk => by
      rw [fmN_mem, mk] at hk
      obtain ⟨b, hb', rfl⟩ := List.mem_map.mp hk
      exact (hb b hb').2
    have I2 : Inv X pins σ H1 { s1 with heap := h', toks := tk } := I1.kept fun b o e => hk b o (Heap.lt_size e) e
    refine sorted_n (s := { s1 with heap := h', toks := tk }) x hh (by omega) (by omega) ne fun D h2 tk2 dr bs' c k2 hD e2 pm oo => ?_
    have inb : ∀ b ∈ bs', b ∈ bs := fun b hb' => Classical.byContradiction fun n => ne (kf' b) (pm.mem_iff.mp (List.mem_map.mpr ⟨b, hb', rfl⟩)) (if_neg n)
    have mk' : bs'.map kf' = bs'.map kf := List.map_congr_left fun b hb' => kin b (inb b hb')
    have bl : bs'.length < 64 := by have := pm.length_eq; rw [List.length_map] at this; omega
    have hln : sizeLine = 16777216 := sizeLine_eq
    have I3 : Inv X pins σ (upd H1 D (.lst (bs'.map V.ref))) { ({ s1 with heap := h', toks := tk, drawn := dr } : Shared) with heap := h2, toks := tk2 } :=
      (I2.dr dr).laid (fun b o e => k2 b o e) hD ⟨by rw [List.length_map]; omega, bs'.map Value.ref, c, vals_rf bs', e2⟩
    refine ⟨.ref D, _, I3, rfl, q D bs' (I2.hok.fresh hD) inb ?_ (fun k => ?_) ?_⟩
    · rw [← mk']
      exact pm.nodup_iff.mpr x.nd
    · rw [← mk', pm.mem_iff, fmN_mem, mk]
    · rw [← mk']; exact oo
  · exact q1.elim⟩
end
theorem ord_one {Q : Type} {lt : Q → Q → Bool} (irr : ∀ a, lt a a = false) (tot : ∀ a b, lt a b = false → lt b a = false → a = b) : ∀ {l m : List Q}, l.Pairwise (fun x y => lt y x = false) → m.Pairwise (fun x y => lt y x = false) → l.Nodup → m.Nodup → (∀ x, x ∈ l ↔ x ∈ m) → l = m
  | [], [], _, _, _, _, _ => rfl
  | [], y :: m, _, _, _, _, h => absurd ((h y).mpr (.head _)) (by simp)
  | x :: l, [], _, _, _, _, h => absurd ((h x).mp (.head _)) (by simp)
  | x :: l, y :: m, p1, p2, n1, n2, h => by
    rw [List.pairwise_cons] at p1 p2
    rw [List.nodup_cons] at n1 n2
    have exy : x = y := by
      rcases List.mem_cons.mp ((h x).mp (.head _)) with e | e
      · exact e
      · rcases List.mem_cons.mp ((h y).mpr (.head _)) with e' | e'
        · exact e'.symm
        · exact tot _ _ (p2.1 x e) (p1.1 y e')
    subst exy
    rw [ord_one irr tot p1.2 p2.2 n1.2 n2.2 fun z => ?_]
    constructor
    · intro hz
      rcases List.mem_cons.mp ((h z).mp (.tail _ hz)) with e | e
      · exact absurd (e ▸ hz) n1.1
      · exact e
    · intro hz
      rcases List.mem_cons.mp ((h z).mpr (.tail _ hz)) with e | e
      · exact absurd (e ▸ hz) n2.1
      · exact e
end L2
set_option Elab.async false
set_option linter.all false
set_option maxRecDepth 100000
set_option maxHeartbeats 4000000
namespace L2
open PySem PySem.Spec PyProof.Rows
section
variable {X : Cx}
def rStrL : List V → Hp → VK → Prop := fun xs H Q => match xs with
  | [.bl b] => Q (.str (if b then "True" else "False")) H
  | _ => False
theorem rStrL_bl (b : Bool) (H : Hp) (Q : VK) : rStrL [.bl b] H Q = Q (.str (if b then "True" else "False")) H := rfl
theorem call_strL : CallR X (.type "str") rStrL := by
  intro pins s σ H xs us Q I r h
  unfold rStrL at h
  split at h
  · rename_i b
    obtain ⟨u, rfl, ru⟩ := vals1 r
    obtain rfl : u = .bool b := ru
    exact PySem.P.str_of_bool ⟨.str _, H, I.tok _, ⟨_, rfl⟩, h⟩
  · exact h.elim
end
end L2
set_option Elab.async false
set_option linter.all false
set_option maxRecDepth 100000
set_option maxHeartbeats 4000000
namespace L2
open PySem PySem.Spec PyProof.Rows
section
variable {prog : Program} {w : World} {K : Type} [DecidableEq K] {I : ItN prog w K} {A : Around} {E : Value → Shared → Prop} {s : Shared}
theorem list_ceq {k k' : List K} {u v : Value} {Q : Value → Shared → Prop} (hu : A.units + (I.lv + 1) < cLine) (p : IsLs I s.heap k u) (q : IsLs I s.heap k' v) (h : Q (.bool (decide (k = k'))) s) : wpAny (model prog w) A (compareOp .Eq u v) Q E s := by
  obtain ⟨a, o, its, n, rfl, ho, hc, hd, hp⟩ := p
  obtain ⟨b, o', its', n', rfl, ho', hc', hd', hp'⟩ := q
  have hT : s.TypeIs (.ref a) "tuple" := ⟨o, ho, hc⟩
  have hT' : s.TypeIs (.ref b) "tuple" := ⟨o', ho', hc'⟩
  refine show wpAny _ _ (richCompare .Eq (.ref a) (.ref b)) Q E s from wpAny_richCompare_same_room (op := .Eq) hT hT' F.slot_tuple_eq (wpAny_call_entry F.slot_tuple_eq hT F.entry_tuple_eq ?_ (F.args_tuple_eq_2 _ _)) (by omega)
  have hu' : A.in1.units + I.lv < cLine := by show A.units + 1 + I.lv < cLine; omega
  show wpAny _ _ (isInstance (.ref b) (.type "tuple") >>= _) _ _ s
  refine wpAny_bind (wpAny_isInstance hT' isSubtype_tuple_tuple ?_)
  simp only [Bool.not_true, Bool.false_eq_true, if_false]
  refine wpAny_bind (wpAny_tupleItemsOf ho hd (wpAny_bind (wpAny_tupleItemsOf ho' hd' (wpAny_bind ?_))))
  have hn : its.size = 0 + k.length := by rw [Nat.zero_add, Paired.length hp, Array.length_toList]
  have hn' : its'.size = 0 + k'.length := by rw [Nat.zero_add, Paired.length hp', Array.length_toList]
  generalize its.size = N at hn ⊢
  generalize its'.size = N' at hn' ⊢
  generalize its.toList = l at hp ⊢
  generalize its'.toList = l' at hp' ⊢
  generalize 0 = c at hn hn'
  clear ho hc hd ho' hc' hd' hT hT'
  have fin : ∀ {k k' : List K} {c : Nat} {Q' : PySem.Fin → Shared → Prop}, (k = [] ∨ k' = []) → N = c + k.length → N' = c + k'.length → (∀ v, v = Value.bool (decide (k = k')) → Q' (.done (.ret v)) s) → wpAny (model prog w) A.in1 (ret (Builtin.Tuple.tupleCompareSizes CmpOp.Eq N N')) Q' E s := fun {k k' c Q'} ho h1 h2 q => wpAny_pure (q _ (by
    have e : (N == N') = decide (k = k') := by
      rw [Bool.eq_iff_iff]
      simp only [beq_iff_eq, decide_eq_true_eq]
      constructor
      · intro e
        have : k.length = k'.length := by omega
        rcases ho with rfl | rfl
        · exact (List.length_eq_zero_iff.mp this.symm).symm
        · exact List.length_eq_zero_iff.mp this
      · rintro rfl
        rw [h1, h2]
    rw [← e]; rfl))
  induction l generalizing l' k k' c with
  | nil =>
    cases hp
    refine wpAny_pure ?_
    exact fin (.inl rfl) hn hn' fun v e => ⟨_, rfl, (fun z => by rw [e] at z; cases z), by rw [e]; exact h⟩
  | cons x l ih =>
    cases hp with
    | cons hx hr =>
      rename_i kx kr
      cases hp' with
      | nil =>
        refine wpAny_pure ?_
        exact fin (.inr rfl) hn hn' fun v e => ⟨_, rfl, (fun z => by rw [e] at z; cases z), by rw [e]; exact h⟩
      | cons hy hr' =>
        rename_i ky y kr' l''
        show wpAny _ _ (forIn ((x, y) :: l.zip l'') _ _) _ _ _
        rw [List.forIn_cons]
        refine wpAny_bind (wpAny_bind (I.eqBool hu' hx hy ?_))
        by_cases e1 : kx = ky
        · rw [decide_eq_true e1]
          simp only [Bool.not_true, Bool.false_eq_true, if_false]
          refine wpAny_pure ?_
          refine ih (k := kr) (k' := kr') ?_ hr l'' hr' (c + 1) (by rw [hn, List.length_cons]; omega) (by rw [hn', List.length_cons]; omega)
          rw [show decide (kr = kr') = decide (kx :: kr = ky :: kr') by rw [e1]; simp]
          exact h
        · rw [decide_eq_false e1]
          rw [decide_eq_false fun z => e1 (by injection z)] at h
          exact wpAny_bind (wpAny_pure (wpAny_pure (wpAny_pure (wpAny_pure ⟨_, rfl, (fun e => nomatch e), h⟩))))
end
section
variable {X : Cx}
def rEqN (P : Program) (w : World) : R2 := fun x y H Q => ∃ (K : Type) (_ : DecidableEq K) (I : ItN P w K) (a : AbN I) (k k' : List K), I.lv ≤ 8 ∧ a.list.ab H k x ∧ a.list.ab H k' y ∧ Q (.bl (decide (k = k'))) H
theorem op_eqN (hu : X.A.units + 64 < cLine) : OpR X (compareOp .Eq) (rEqN X.prog X.w) := by
  intro pins s σ H x y v u Q I rx ry h
  obtain ⟨K, iK, J, a, k, k', l8, h1, h2, q⟩ := h
  exact list_ceq (I := J) (by omega) (a.list.ok I.hok h1 rx) (a.list.ok I.hok h2 ry) ⟨.bl _, H, I, rfl, q⟩
end
end L2
set_option linter.all false
namespace My
open PySem
def toS (l : List Nat) : Str := ⟨l.toArray⟩
theorem toS_app (l : List Nat) (c : Nat) : toS l ++ (⟨#[c]⟩ : Str) = toS (l ++ [c]) := by
  show (⟨l.toArray ++ #[c]⟩ : Str) = ⟨(l ++ [c]).toArray⟩
  simp
theorem toS_len (l : List Nat) : (toS l).length = l.length := by simp [toS, Str.length]
end My
set_option Elab.async false
set_option linter.all false
set_option maxRecDepth 100000
set_option maxHeartbeats 4000000
namespace My
open PySem L2 PyProof.Rows
def sg (z : Str) : List Nat := z.cps.toList
theorem sg_app (x y : Str) : sg (x ++ y) = sg x ++ sg y := by simp [sg, Str.cps_append]
theorem join0 : ∀ l : List Str, sg (Str.join ⟨#[]⟩ l) = (l.map sg).flatten
  | [] => rfl
  | x :: l => by rw [join_nil_cons, sg_app, join0 l]; rfl
theorem joinT (l : List Str) : sg (Txt.join (Str.ofString "") l) = (l.map sg).flatten := by
  have e0 : (Str.ofString "") = (⟨#[]⟩ : Str) := by decide +kernel
  have e := eq_of_beq (join_plain_closes ⟨#[]⟩ l)
  rw [e0, e, join0]
end My
set_option Elab.async false
set_option linter.all false
set_option maxRecDepth 100000
set_option maxHeartbeats 4000000
namespace My
abbrev Cfg := List Nat × List Nat
def mk0 (c : Cfg) : List Nat × List (List Bool) := (c.2.map fun p => c.1.getD p 0, c.2.map fun p => c.2.map fun q => decide (p < q))
def Eqv : Nat → Cfg → Cfg → Prop
  | 0, c, e => mk0 c = mk0 e
  | d + 1, c, e => (∀ p, p < c.1.length → ∃ q, q < e.1.length ∧ Eqv d (c.1, c.2 ++ [p]) (e.1, e.2 ++ [q])) ∧ ∀ q, q < e.1.length → ∃ p, p < c.1.length ∧ Eqv d (c.1, c.2 ++ [p]) (e.1, e.2 ++ [q])
theorem Eqv.symm : ∀ {d : Nat} {c e : Cfg}, Eqv d c e → Eqv d e c
  | 0, _, _, h => Eq.symm h
  | d + 1, _, _, h => ⟨fun p hp => let ⟨q, hq, g⟩ := h.2 p hp; ⟨q, hq, g.symm⟩, fun q hq => let ⟨p, hp, g⟩ := h.1 q hq; ⟨p, hp, g.symm⟩⟩
end My
set_option Elab.async false
set_option linter.all false
set_option maxRecDepth 100000
set_option maxHeartbeats 4000000
namespace My
end My
set_option Elab.async false
set_option linter.all false
set_option maxRecDepth 100000
set_option maxHeartbeats 4000000
namespace My
open PySem L2
def Kt : Nat → Type
  | 0 => Str
  | d + 1 => List (Kt d)
def decKt : ∀ d, DecidableEq (Kt d)
  | 0 => inferInstanceAs (DecidableEq Str)
  | d + 1 => @instDecidableEqList (Kt d) (decKt d)
instance instKt (d : Nat) : DecidableEq (Kt d) := decKt d
def IO (P : Program) (w : World) : ∀ d, ItO P w (Kt d)
  | 0 => ItO.text P w
  | d + 1 => (IO P w d).list
theorem IO_lv {P : Program} {w : World} : ∀ d, (IO P w d).lv = d
  | 0 => rfl
  | d + 1 => congrArg (· + 1) (IO_lv d)
def AbN.text (P : Program) (w : World) : AbN (ItO.text P w).toItN where
  ab := fun _ k x => x = .str k
  ok := fun {H h k x v} _ e r => by subst e; obtain ⟨t, rfl⟩ := (show ∃ t, v = Value.str k t from r); exact strKind_is P w k t
  keep := fun _ e => e
def aK (P : Program) (w : World) : ∀ d, AbN (IO P w d).toItN
  | 0 => AbN.text P w
  | d + 1 => (aK P w d).list
def ltK : ∀ d, Kt d → Kt d → Bool
  | 0 => fun (a b : Str) => decide (a.cps.toList < b.cps.toList)
  | d + 1 => lexlt (ltK d)
theorem IO_lt {P : Program} {w : World} : ∀ d, (IO P w d).lt = ltK d
  | 0 => rfl
  | d + 1 => congrArg lexlt (IO_lt d)
theorem ltK_tot : ∀ d a b, ltK d a b = false → ltK d b a = false → a = b
  | 0, a, b, h1, h2 => leS_anti (of_decide_eq_false h2) (of_decide_eq_false h1)
  | d + 1, a, b, h1, h2 => lexlt_tot (ltK d) (ltK_tot d) a b h1 h2
def boolT (b : Bool) : Str := if b then "True" else "False"
def sgK (c : Nat) : Str := ⟨#[c]⟩
def kd0 (z : Str) (ps : List Nat) : List Str := ps.map (fun p => sgK (z.cps.toList.getD p 0)) ++ ps.flatMap fun p => ps.map fun q => boolT (decide (p < q))
def KindOf : ∀ d, Str → List Nat → List (Kt d) → Prop
  | 0, z, ps, k => k = kd0 z ps
  | d + 1, z, ps, k => ∃ f : Nat → List (Kt d), (∀ p, p < z.length → KindOf d z (ps ++ [p]) (f p)) ∧ List.Pairwise (fun x y => lexlt (ltK d) y x = false) k ∧ List.Nodup k ∧ ∀ x, x ∈ k ↔ ∃ p, p < z.length ∧ f p = x
theorem flat_inj {n : Nat} : ∀ {l m : List (List Bool)}, (∀ r ∈ l, r.length = n) → (∀ r ∈ m, r.length = n) → l.length = m.length → l.flatMap (fun r => r.map boolT) = m.flatMap (fun r => r.map boolT) → l = m
  | [], [], _, _, _, _ => rfl
  | [], _ :: _, _, _, h, _ => by cases h
  | _ :: _, [], _, _, h, _ => by cases h
  | r :: l, s :: m, h1, h2, h3, h => by
    rw [List.flatMap_cons, List.flatMap_cons] at h
    obtain ⟨e1, e2⟩ := List.append_inj h (by rw [List.length_map, List.length_map, h1 r (.head _), h2 s (.head _)])
    have bi : ∀ a b : Bool, boolT a = boolT b → a = b := by intro a b; cases a <;> cases b <;> decide
    have : r = s := by
      have inj : ∀ (r s : List Bool), r.map boolT = s.map boolT → r = s := fun r => by
        induction r with
        | nil => intro s hs; cases s with
          | nil => rfl
          | cons => cases hs
        | cons a r ih => intro s hs; cases s with
          | nil => cases hs
          | cons b s =>
            rw [List.map_cons, List.map_cons] at hs
            injection hs with h1 h2
            rw [bi _ _ h1, ih s h2]
      exact inj r s e1
    rw [this, flat_inj (fun r hr => h1 r (.tail _ hr)) (fun r hr => h2 r (.tail _ hr)) (by simpa using h3) e2]
theorem kd0_mk (z : Str) (ps : List Nat) : kd0 z ps = (mk0 (z.cps.toList, ps)).1.map sgK ++ (mk0 (z.cps.toList, ps)).2.flatMap fun r => r.map boolT := by
  unfold kd0 mk0
  simp only [List.map_map, List.flatMap_map]
  rfl
theorem kd0_eq {z y : Str} {ps qs : List Nat} (hl : ps.length = qs.length) : kd0 z ps = kd0 y qs ↔ mk0 (z.cps.toList, ps) = mk0 (y.cps.toList, qs) := by
  rw [kd0_mk, kd0_mk]
  constructor
  · intro h
    obtain ⟨e1, e2⟩ := List.append_inj h (by simp [mk0, hl])
    refine Prod.ext ?_ ?_
    · have inj : ∀ (r s : List Nat), r.map sgK = s.map sgK → r = s := fun r => by
        induction r with
        | nil => intro s hs; cases s with
          | nil => rfl
          | cons => cases hs
        | cons a r ih => intro s hs; cases s with
          | nil => cases hs
          | cons b s =>
            rw [List.map_cons, List.map_cons] at hs
            injection hs with h1 h2
            have : a = b := by simpa [sgK] using h1
            rw [this, ih s h2]
      exact inj _ _ e1
    · refine flat_inj (n := ps.length) (fun r hr => ?_) (fun r hr => ?_) (by simp [mk0, hl]) e2
      · simp only [mk0, List.mem_map] at hr; obtain ⟨p, _, rfl⟩ := hr; simp
      · simp only [mk0, List.mem_map] at hr; obtain ⟨p, _, rfl⟩ := hr; simp [hl]
  · intro h; rw [h]
theorem kind_eqv : ∀ {d : Nat} {z y : Str} {ps qs : List Nat} {k k' : List (Kt d)}, ps.length = qs.length → KindOf d z ps k → KindOf d y qs k' → (k = k' ↔ Eqv d (z.cps.toList, ps) (y.cps.toList, qs))
  | 0, z, y, ps, qs, k, k', hl, h1, h2 => by
    have h1 : k = kd0 z ps := h1
    have h2 : k' = kd0 y qs := h2
    rw [h1, h2]
    exact kd0_eq hl
  | d + 1, z, y, ps, qs, k, k', hl, ⟨f, f1, f2, f3, f4⟩, ⟨g, g1, g2, g3, g4⟩ => by
    have ih : ∀ {p q}, p < z.length → q < y.length → (f p = g q ↔ Eqv d (z.cps.toList, ps ++ [p]) (y.cps.toList, qs ++ [q])) := fun hp hq => kind_eqv (by simp [hl]) (f1 _ hp) (g1 _ hq)
    have zl : z.length = z.cps.toList.length := by simp [Str.length]
    have yl : y.length = y.cps.toList.length := by simp [Str.length]
    constructor
    · intro e
      subst e
      refine ⟨fun p hp => ?_, fun q hq => ?_⟩
      · have hp : p < z.length := by rw [zl]; exact hp
        obtain ⟨q, hq, e⟩ := (g4 _).mp ((f4 _).mpr ⟨p, hp, rfl⟩)
        exact ⟨q, by rw [← yl]; exact hq, (ih hp hq).mp e.symm⟩
      · have hq : q < y.length := by rw [yl]; exact hq
        obtain ⟨p, hp, e⟩ := (f4 _).mp ((g4 _).mpr ⟨q, hq, rfl⟩)
        exact ⟨p, by rw [← zl]; exact hp, (ih hp hq).mp e⟩
    · rintro ⟨e1, e2⟩
      refine ord_one (lexlt_irr (ltK d)) (lexlt_tot (ltK d) (ltK_tot d)) f2 g2 f3 g3 fun x => ?_
      refine Iff.trans (f4 x) (Iff.trans ?_ (g4 x).symm)
      constructor
      · rintro ⟨p, hp, rfl⟩
        obtain ⟨q, hq, e⟩ := e1 p (by rw [← zl]; exact hp)
        have hq : q < y.length := by rw [yl]; exact hq
        exact ⟨q, hq, ((ih hp hq).mpr e).symm⟩
      · rintro ⟨q, hq, rfl⟩
        obtain ⟨p, hp, e⟩ := e2 q (by rw [← yl]; exact hq)
        have hp : p < z.length := by rw [zl]; exact hp
        exact ⟨p, hp, (ih hp hq).mpr e⟩
end My
set_option Elab.async false
set_option linter.all false
set_option maxRecDepth 100000
set_option maxHeartbeats 4000000
namespace My
open PySem L2
local macro_rules
  | `(tactic| simp!) => `(tactic| simp only [tSeq, tIfS, tTest, tOp, tVar, tC, tAsg, gName, gSub, tRet, tNext, tDrop, tOr, tNot, tAndV, tB, tIf, tCall, rI0, rI, rAddW_int, rAddW_str, rMulW_int, rMulW_ref, rLtU_int, rLtU_str, rIxU_str, rIxU_ref, rLenU_str, rLenU_ref, rMaxU_int, rIntU_int, rIntU_bl, rListU_str, rListU_ref, rPopU_ref, rAppendU_ref, rExtendU_ref, rEqU_int, rEqU_bl, rEqU_str, rEqU_ref, rNeU_int, rNeU_bl, rNeU_str, rNeU_ref, rIsU_ty, rSetU_ref, isL_ref, lstOf_lst, tupOf_tup, seqOf_lst, seqOf_tup, Option.isSome_some, tBML, tCB, tCons, tNil, tLst, tTup, tRevS, tSl, tPart, tNoPart, rSlU_str, iAny, iRng1, iRng2, rMinU_int, tDNotIn, sDPut, tFor_eq, tComp, compSt, tBMS, isS_str, tBM, tyV_str, Option.bind_some, Option.bind_none, Option.getD_some, L2.start, List.map_cons, List.map_nil, List.length_cons, List.length_nil, List.cons_append, List.nil_append, List.append_nil, List.cons.injEq, List.replicate, List.getElem?_cons_zero, List.getElem?_cons_succ, List.set_cons_zero, List.set_cons_succ, Nat.reduceSub, Nat.reduceAdd, Nat.reduceLeDiff, Option.some.injEq, V.int.injEq, V.bl.injEq, V.str.injEq, V.ref.injEq, HO.lst.injEq, HO.tup.injEq, exists_eq_left', exists_eq_left, exists_and_left, true_and, and_true, upd_same, upd_upd, atI_0, atI_1, atI_2, Bool.not_true, Bool.not_false, decide_eq_true_eq, Bool.false_eq_true, if_false, if_true, reduceIte, reduceCtorEq, tMeth, tMake, tDNotIn, sDPut, tNNotIn, tNGet, sNPut, tNNew, tXNew, tXSet, tDNewT, tDGet, tSortedSetI, rSortedSetI_ref, tSortedSetN, rStrL_bl])
  | `(tactic| simp! [$ls,*]) => `(tactic| simp only [tSeq, tIfS, tTest, tOp, tVar, tC, tAsg, gName, gSub, tRet, tNext, tDrop, tOr, tNot, tAndV, tB, tIf, tCall, rI0, rI, rAddW_int, rAddW_str, rMulW_int, rMulW_ref, rLtU_int, rLtU_str, rIxU_str, rIxU_ref, rLenU_str, rLenU_ref, rMaxU_int, rIntU_int, rIntU_bl, rListU_str, rListU_ref, rPopU_ref, rAppendU_ref, rExtendU_ref, rEqU_int, rEqU_bl, rEqU_str, rEqU_ref, rNeU_int, rNeU_bl, rNeU_str, rNeU_ref, rIsU_ty, rSetU_ref, isL_ref, lstOf_lst, tupOf_tup, seqOf_lst, seqOf_tup, Option.isSome_some, tBML, tCB, tCons, tNil, tLst, tTup, tRevS, tSl, tPart, tNoPart, rSlU_str, iAny, iRng1, iRng2, rMinU_int, tDNotIn, sDPut, tFor_eq, tComp, compSt, tBMS, isS_str, tBM, tyV_str, Option.bind_some, Option.bind_none, Option.getD_some, L2.start, List.map_cons, List.map_nil, List.length_cons, List.length_nil, List.cons_append, List.nil_append, List.append_nil, List.cons.injEq, List.replicate, List.getElem?_cons_zero, List.getElem?_cons_succ, List.set_cons_zero, List.set_cons_succ, Nat.reduceSub, Nat.reduceAdd, Nat.reduceLeDiff, Option.some.injEq, V.int.injEq, V.bl.injEq, V.str.injEq, V.ref.injEq, HO.lst.injEq, HO.tup.injEq, exists_eq_left', exists_eq_left, exists_and_left, true_and, and_true, upd_same, upd_upd, atI_0, atI_1, atI_2, Bool.not_true, Bool.not_false, decide_eq_true_eq, Bool.false_eq_true, if_false, if_true, reduceIte, reduceCtorEq, tMeth, tMake, tDNotIn, sDPut, tNNotIn, tNGet, sNPut, tNNew, tXNew, tXSet, tDNewT, tDGet, tSortedSetI, rSortedSetI_ref, tSortedSetN, rStrL_bl, $ls,*])
def top (i : Nat) : Stmt := PySem.Challenge.pw_calmword_k48_rounds.main.body.getD i (.Pass ⟨0, 0, 0, 0⟩)
def methN (st : Stmt) (i : Nat) : Stmt := match st with
  | .ClassDef _ _ _ b _ _ _ _ _ _ _ => b.getD i (.Pass ⟨0, 0, 0, 0⟩)
  | s => s
def BoxO (o : HO) : Prop := ∃ c s, o = .lst [.int c, .int s] ∧ 1 ≤ s ∧ s ≤ 2147483629
def spTake : Sp := fun vs H Q _ => ∃ b w o, vs = [.ref b, .int w] ∧ H b = some o ∧ BoxO o ∧ 0 < w ∧ w < 1073741824 ∧ ∀ d o, 0 ≤ d → d < w → BoxO o → Q (.int d) (upd H b o)
def spBox (K : PySem.W.Frag) : Sp := fun vs H Q _ => ∃ (a : Addr) (k : Int) (ns : List Int), vs = [.ref a, .int k] ∧ SqL K H a (ns.map V.int) ∧ 0 ≤ k ∧ k ≤ 1000 ∧ ∀ b o, H b = none → BoxO o → Q (.ref b) (upd H b o)
section
variable {P : Program} {w : World} {K : PySem.W.Frag} {mg : Str → Option Value} {base : Heap}
abbrev s__law_take : Stmt := top 11
theorem sc__law_take : FnScope ["_law_box_here", "_law_wide", "_law_digit", "_law_one"] ["_law_box_here", "_law_wide"] (defScope s__law_take) := ⟨rfl, rfl, rfl, by decide +kernel, rfl, by decide +kernel, by decide +kernel⟩
theorem ok__law_take {f : Addr} {fd : FuncData} (F : Fun K "_law_take" "_law_take" s__law_take f fd) : FnOk P w K mg base CX0 1 f fd ["_law_box_here", "_law_wide"] spTake := by
  refine F.ok sc__law_take (fun vs H Q E h => ?_) (fun cdv A outer s H vs Q E hr h => ?_)
  · obtain ⟨b, w, o, rfl, _⟩ := h
    rfl
  · obtain ⟨b, w, o, rfl, hb, ⟨c, sd, rfl, s1, s2⟩, w0, w1, k⟩ := h
    refine ⟨_, (QSs.h (qpss_cons (qps_if (qpt_cmpR op_gt (qpe_ix ix_U (qpv 0) qpe_int (fun _ _ => rfl)) qpe_int (nomark _)) (qpss_cons (qps_set (i := 2) sc__law_take.nd rfl (by first | exact Or.inl rfl | exact Or.inr rfl) (qpe_op op_mod (qpe_ix ix_U (qpv 0) qpe_int (fun _ _ => rfl)) (qpv 1)))
    (qpss_cons (qps_asg (qpe_op op_fdiv (qpe_ix ix_U (qpv 0) qpe_int (fun _ _ => rfl)) (qpv 1)) (qpg_sub (qpv 0) qpe_int set_U))
    (qpss_one (qps_ret (qpv 2))))) qpss_nil)
    (qpss_cons (qps_set (i := 3) sc__law_take.nd rfl (by first | exact Or.inl rfl | exact Or.inr rfl) (qpe_op op_mod (qpe_op op_mulW (qpe_ix ix_U (qpv 0) qpe_int (fun _ _ => rfl)) qpe_int) qpe_int))
    (qpss_cons (qps_asg (qpe_op op_addW (qpe_op op_mod (qpe_op op_addW (qpe_op op_mulW (qpv 3) qpe_int) qpe_int) qpe_int) qpe_int) (qpg_sub (qpv 0) qpe_int set_U))
    (qpss_one (qps_ret (qpe_op op_mod (qpe_op op_fdiv (qpe_op op_addW (qpe_op op_mulW (qpv 3) qpe_int) (qpe_ix ix_U (qpv 0) qpe_int (fun _ _ => rfl))) qpe_int) (qpv 1)))))))), ?_⟩
    have m1 : ∀ z m : Int, 0 < m → 0 ≤ z % m ∧ z % m < m := fun z m h => ⟨Int.emod_nonneg z (by omega), Int.emod_lt_of_pos z h⟩
    simp! [hb]
    refine ite2 (fun hc => ?_) (fun _ => ?_)
    · refine ⟨w0, ⟨w0, w1⟩, 0, rfl, ?_⟩
      simp! [hb]
      exact k _ _ (m1 c w w0).1 (m1 c w w0).2 ⟨_, _, rfl, s1, s2⟩
    · have q1 := m1 (sd * 69623) 2147483647 (by decide)
      refine ⟨.inl ⟨by omega, by omega⟩, by decide, .inl ⟨by omega, by omega⟩, by decide, 1, rfl, ?_⟩
      simp! [hb]
      have q2 := m1 (sd * 69623 % 2147483647 * 48271 + 30103) 2147483629 (by decide)
      refine ⟨.inl ⟨by omega, by omega⟩, ⟨by decide, by decide⟩, w0, ?_⟩
      exact k _ _ (m1 _ w w0).1 (m1 _ w w0).2 ⟨_, _, rfl, by omega, by omega⟩
structure TBox (mg : Str → Option Value) : Prop where
  n_len : mg "len" = none
  n_int : mg "int" = none
abbrev s__law_box : Stmt := top 10
theorem sc__law_box : FnScope ["_law_script", "_law_k", "_law_cell", "_law_seed"] ["_law_script", "_law_k"] (defScope s__law_box) := ⟨rfl, rfl, rfl, by decide +kernel, rfl, by decide +kernel, by decide +kernel⟩
theorem ok__law_box {f : Addr} {fd : FuncData} (F : Fun K "_law_box" "_law_box" s__law_box f fd) (T : TBox mg) : FnOk P w K mg base CX0 1 f fd ["_law_script", "_law_k"] (spBox K) := by
  refine F.ok sc__law_box (fun vs H Q E h => ?_) (fun cdv A outer s H vs Q E hr h => ?_)
  · obtain ⟨a, k, ns, rfl, _⟩ := h
    rfl
  · obtain ⟨a, k, ns, rfl, hS, k0, k1, kk⟩ := h
    refine ⟨_, (QSs.h (qpss_cons (qps_set (i := 2) sc__law_box.nd rfl (by first | exact Or.inl rfl | exact Or.inr rfl) (qpe_op op_addW (qpe_op op_mulW qpe_int (qpv 1)) qpe_int))
    (qpss_cons (qps_if (qpt_cmpR op_ltU (qpv 1) (qpe_callB call_len_seq (by rfl) T.n_len bt_len (qpa_cons (qpv 0) qpa_nil)) (nomark _)) (qpss_one (qps_set (i := 2) sc__law_box.nd rfl (by first | exact Or.inl rfl | exact Or.inr rfl) (qpe_ix ix_list (qpv 0) (qpv 1) (fun _ _ => rfl)))) (qpss_one (qps_if (qpt_cmpR op_gt (qpe_callB call_len_seq (by rfl) T.n_len bt_len (qpa_cons (qpv 0) qpa_nil)) qpe_int (nomark _)) (qpss_one (qps_set (i := 2) sc__law_box.nd rfl (by first | exact Or.inl rfl | exact Or.inr rfl) (qpe_op op_addW (qpv 2) (qpe_op op_mulW (qpe_op op_mod (qpe_ix ix_list (qpv 0) (qpe_op op_mod (qpv 1) (qpe_callB call_len_seq (by rfl) T.n_len bt_len (qpa_cons (qpv 0) qpa_nil))) (fun _ _ => rfl)) qpe_int) qpe_int)))) qpss_nil)))
    (qpss_cons (qps_set (i := 3) sc__law_box.nd rfl (by first | exact Or.inl rfl | exact Or.inr rfl) (qpe_op op_addW (qpe_op op_mod (qpe_op op_addW (qpe_op op_mulW (qpe_op op_mod (qpv 2) qpe_int) qpe_int) (qpe_op op_mulW qpe_int (qpv 1))) qpe_int) qpe_int))
    (qpss_one (qps_ret (qpe_lst (qpa_cons (qpe_op op_mulW (qpv 2) (qpe_callTy call_intU (by rfl) T.n_int bt_int (qpa_cons (qpe_cmpR op_ge (qpv 2) (qpe_op op_pow qpe_int qpe_int) (nomark _)) qpa_nil))) (qpa_cons (qpv 3) qpa_nil))))))))), ?_⟩
    have m1 : ∀ z m : Int, 0 < m → 0 ≤ z % m ∧ z % m < m := fun z m h => ⟨Int.emod_nonneg z (by omega), Int.emod_lt_of_pos z h⟩
    have tail : ∀ cell : Int, (0 : Int) < 2147483629 ∧ CMul (cell % 2147483629) 48271 ∧ CMul 40692 k ∧ (0 : Int) < 2147483629 ∧ CPow 10 18 ∧ CMul cell (if (10 : Int) ^ (18 : Int).toNat ≤ cell then 1 else 0) ∧ 2 ≤ sizeLine ∧
        ∀ p, H p = none → Q (.ref p) (upd H p (.lst [.int (cell * (if (10 : Int) ^ (18 : Int).toNat ≤ cell then 1 else 0)), .int ((cell % 2147483629 * 48271 + 40692 * k) % 2147483629 + 1)])) := by
      intro cell
      have q1 := m1 cell 2147483629 (by decide)
      have q2 := m1 (cell % 2147483629 * 48271 + 40692 * k) 2147483629 (by decide)
      refine ⟨by decide, .inl ⟨by omega, by omega⟩, .inl ⟨by decide, by decide⟩, by decide, ⟨by decide, by decide, by decide⟩, .inr ?_, by decide, fun p hp => kk p _ hp ⟨_, _, rfl, by omega, by omega⟩⟩
      split <;> constructor <;> decide
    simp!
    refine ⟨.inl ⟨by decide, by decide⟩, ns.map V.int, .inl hS, ?_⟩
    rw [List.length_map]
    refine ite2 (fun h => ?_) (fun h => ?_)
    · obtain ⟨z, hz⟩ : ∃ z, ns[k.toNat]? = some z := ⟨ns[k.toNat]'(by omega), by simp⟩
      refine ⟨a, _, k, .int z, rfl, rfl, hS, atI_of k0 (by rw [List.getElem?_map, hz]; rfl), ?_⟩
      simp!
      exact tail z
    · refine ⟨ns.map V.int, .inl hS, ?_⟩
      rw [List.length_map]
      refine ite2 (fun h2 => ?_) (fun h2 => ?_)
      · refine ⟨ns.map V.int, .inl hS, ?_⟩
        rw [List.length_map]
        have q := m1 k (ns.length : Int) (by omega)
        obtain ⟨z, hz⟩ : ∃ z, ns[(k % (ns.length : Int)).toNat]? = some z := ⟨ns[(k % (ns.length : Int)).toNat]'(by omega), by simp⟩
        refine ⟨by omega, a, _, _, .int z, rfl, rfl, hS, atI_of q.1 (by rw [List.getElem?_map, hz]; rfl), ?_⟩
        simp!
        have q3 := m1 z 2147483629 (by decide)
        refine ⟨by decide, .inl ⟨by omega, by omega⟩, ?_⟩
        exact tail _
      · exact tail _
end
structure Letters (z : Str) (m : Nat) : Prop where
  lo : 1 ≤ z.length
  hi : z.length ≤ m
  az : ∀ c ∈ z.cps.toList, 97 ≤ c ∧ c ≤ 122
  nd : z.cps.toList.Nodup
def chV (c : Nat) : V := .str ⟨#[c]⟩
def spLetters : Sp := fun vs H Q _ => ∃ (b : Addr) (m : Nat) (o : HO), vs = [.ref b, .int (m : Int)] ∧ H b = some o ∧ BoxO o ∧ 1 ≤ m ∧ m ≤ 7 ∧ ∀ z o' H', Letters z m → BoxO o' → H' b = some o' → Kp [b] H H' → Q (.str z) H'
theorem erase_perm {α : Type} : ∀ (l : List α) (i : Nat) (x : α), l[i]? = some x → (x :: l.eraseIdx i).Perm l
  | [], i, x, h => by simp at h
  | a :: l, 0, x, h => by simp at h; subst h; exact List.Perm.refl _
  | a :: l, i + 1, x, h => by
    rw [List.eraseIdx_cons_succ]
    exact (List.Perm.swap _ _ _).trans ((erase_perm l i x (by simpa using h)).cons a)
theorem map_erase {α β : Type} (f : α → β) : ∀ (l : List α) (i : Nat), (l.map f).eraseIdx i = (l.eraseIdx i).map f
  | [], _ => rfl
  | _ :: _, 0 => rfl
  | a :: l, i + 1 => by rw [List.map_cons, List.eraseIdx_cons_succ, List.eraseIdx_cons_succ, List.map_cons, map_erase f l i]
theorem abc_sgn : sgn (Str.ofString "abcdefghijklmnopqrstuvwxyz") = ((List.range 26).map (97 + ·)).map chV := by decide +kernel
structure TLetters (mg : Str → Option Value) (ft : Addr) : Prop where
  n_len : mg "len" = none
  n_list : mg "list" = none
  n_range : mg "range" = none
  m__law_take : mg "_law_take" = some (.ref ft)
section
variable {P : Program} {w : World} {K : PySem.W.Frag} {mg : Str → Option Value} {base : Heap}
abbrev s__law_letters : Stmt := top 12
theorem sc__law_letters : FnScope ["_law_box_here", "_law_most", "_law_pool", "_law_found", "_law_k"] ["_law_box_here", "_law_most"] (defScope s__law_letters) := ⟨rfl, rfl, rfl, by decide +kernel, rfl, by decide +kernel, by decide +kernel⟩
theorem ok__law_letters {f ft : Addr} {fd fdt : FuncData} (F : Fun K "_law_letters" "_law_letters" s__law_letters f fd) (T : TLetters mg ft) (F__law_take : Fun K "_law_take" "_law_take" s__law_take ft fdt) (b__law_take : Binds K fdt ["_law_box_here", "_law_wide"] [])
    (G__law_take : FnOk P w K mg base CX0 1 ft fdt ["_law_box_here", "_law_wide"] spTake) : FnOk P w K mg base CX0 2 f fd ["_law_box_here", "_law_most"] spLetters := by
  refine F.ok sc__law_letters (fun vs H Q E h => ?_) (fun cdv A outer s H vs Q E hr h => ?_)
  · obtain ⟨b, m, o, rfl, _⟩ := h
    rfl
  · obtain ⟨b, m, o, rfl, hb, ho, m1, m4, k⟩ := h
    refine ⟨_, (QSs.h (qpss_cons (qps_set (i := 2) sc__law_letters.nd rfl (by first | exact Or.inl rfl | exact Or.inr rfl) (qpe_callTy (call_listU rfl) (by rfl) T.n_list bt_list (qpa_cons qpe_str qpa_nil)))
    (qpss_cons (qps_set (i := 3) sc__law_letters.nd rfl (by first | exact Or.inl rfl | exact Or.inr rfl) qpe_str)
    (qpss_cons (qps_for PassesOwn.never rfl (qpi_range1 rfl T.n_range (qpa_cons (qpe_op op_addW qpe_int (qpe_call G__law_take (hr.mono (by decide)) rfl T.m__law_take F__law_take.kp b__law_take .nil pass0 (qpa_cons (qpv 0) (qpa_cons (qpv 1) qpa_nil)))) qpa_nil)) (qpg_name (i := 4) sc__law_letters.nd rfl (by first | exact Or.inl rfl | exact Or.inr rfl)) (qpss_one (qps_set (i := 3) sc__law_letters.nd rfl (by first | exact Or.inl rfl | exact Or.inr rfl) (qpe_op op_addW (qpv 3) (qpe_bmL PySem.F.slot_list_pop PySem.F.type_list_pop mt_popU (qpv 2) (qpa_cons (qpe_call G__law_take (hr.mono (by decide)) rfl T.m__law_take F__law_take.kp b__law_take .nil pass0 (qpa_cons (qpv 0) (qpa_cons (qpe_callB call_lenU (by rfl) T.n_len bt_len (qpa_cons (qpv 2) qpa_nil)) qpa_nil))) qpa_nil) mono_var)))))
    (qpss_one (qps_ret (qpv 3))))))), ?_⟩
    simp!
    refine ⟨by decide, fun p hp => ?_⟩
    have npb : b ≠ p := ne_of_none hb hp
    obtain ⟨c0, s0, rfl, _, _⟩ := id ho
    refine ⟨b, (m : Int), _, rfl, by rw [upd_ne npb]; exact hb, ho, by omega, by omega, fun d o1 d0 d1 ho1 => ?_⟩
    simp!
    obtain ⟨n, rfl⟩ : ∃ n : Nat, d = (n : Int) := ⟨d.toNat, by omega⟩
    have en : (1 + (n : Int)).toNat = n + 1 := by omega
    refine ⟨by omega, by omega, ?_⟩
    rw [en]
    refine loop_range (fun i σ H' => ∃ l R o' v, σ = [some (.ref b), some (.int (m : Int)), some (.ref p), some (.str (toS l)), v] ∧ H' b = some o' ∧ BoxO o' ∧ H' p = some (.lst (R.map chV)) ∧ Kp [b] H H' ∧ l.length = i ∧ R.length + i = 26 ∧
      (l ++ R).Nodup ∧ ∀ c ∈ l ++ R, 97 ≤ c ∧ c ≤ 122) ?_ ?_ ?_
    · refine ⟨[], (List.range 26).map (97 + ·), o1, none, rfl, upd_same, ho1, ?_, ?_, rfl, by simp, ?_, ?_⟩
      · rw [upd_ne npb.symm, upd_same, abc_sgn]
      · exact ((Kp.refl [b] H).new hp).set (by rw [upd_ne npb]; exact hb) (.inl (by simp))
      · decide
      · decide
    · rintro i σ H' hi ⟨l, R, o', v, rfl, hb', ho', hp', kp, hl, hR, nd, az⟩
      simp! [hp']
      obtain ⟨c1, s1, rfl, _, _⟩ := id ho'
      refine ⟨b, _, _, rfl, hb', ho', by rw [List.length_map]; omega, by rw [List.length_map]; omega, fun d o2 d0 d1 ho2 => ?_⟩
      rw [List.length_map] at d1
      have hp2 : upd H' b o2 p = some (.lst (R.map chV)) := by rw [upd_ne npb.symm]; exact hp'
      simp! [hp2]
      obtain ⟨c, hc⟩ : ∃ c, R[d.toNat]? = some c := ⟨R[d.toNat]'(by omega), by simp⟩
      have hc' : (R.map chV)[d.toNat]? = some (.str ⟨#[c]⟩) := by rw [List.getElem?_map, hc]; rfl
      refine ⟨d0, _, hc', ?_⟩
      simp!
      have pm := erase_perm R d.toNat c hc
      have e1 : ((l ++ [c]) ++ R.eraseIdx d.toNat).Perm (l ++ R) := by
        rw [List.append_assoc]
        exact pm.append_left l
      have hlen : (R.eraseIdx d.toNat).length + 1 = R.length := by
        have := pm.length_eq
        simpa using this
      refine ⟨?_, l ++ [c], R.eraseIdx d.toNat, o2, _, ⟨toS_app l c, rfl⟩, by rw [upd_ne npb, upd_same], ho2, map_erase chV R _, ?_, by simp [hl], by omega, ?_, ?_⟩
      · rw [toS_len]
        show l.length + 1 ≤ sizeLine
        have : sizeLine = 16777216 := PySem.sizeLine_eq
        omega
      · exact (kp.set hb' (.inl (.head _))).set hp2 (.inr hp)
      · exact e1.nodup_iff.mpr nd
      · exact fun x hx => az x (e1.mem_iff.mp hx)
    · rintro σ H' ⟨l, R, o', v, rfl, hb', ho', hp', kp, hl, hR, nd, az⟩
      simp! [hp']
      exact k (toS l) o' H' ⟨by rw [toS_len]; omega, by rw [toS_len]; omega, fun c hc => az c (List.mem_append_left _ (by simpa [toS] using hc)), by simpa [toS] using (List.nodup_append.mp nd).1⟩ ho' hb' kp
end
theorem upd_swap {H : Hp} {a b : Addr} {x y : HO} (h : a ≠ b) : upd (upd H a x) b y = upd (upd H b y) a x := by
  funext c
  by_cases h1 : c = a
  · subst h1; rw [upd_ne h, upd_same, upd_same]
  · by_cases h2 : c = b
    · subst h2; rw [upd_same, upd_ne h1, upd_same]
    · rw [upd_ne h2, upd_ne h1, upd_ne h1, upd_ne h2]
theorem comp_box {lo : Int} {n : Nat} {D b : Addr} {te : TE} {E : Ends} {r : L2.St} {H : Hp} {o0 : HO} (P : V → Prop) (hb : H b = some o0) (ho0 : BoxO o0) (hD : H D = none) (hz : n ≤ sizeLine)
    (he : ∀ x H' o Q, H' b = some o → BoxO o → (∀ v o', P v → BoxO o' → Q v (upd H' b o')) → te (some x :: r) H' Q)
    (hn : ∀ v xs o', xs.length = n → (∀ x ∈ xs, P x) → BoxO o' → E.nx (v :: r) (upd (upd H b o') D (.lst xs))) : LoopR (Itr lo n) (gName 0) (tEmit D te) E (none :: r) (upd H D (.lst [])) := by
  have nbD : b ≠ D := ne_of_none hb hD
  refine loop_range (fun i σ H' => ∃ (v : Option V) (xs : List V) (o' : HO), σ = v :: r ∧ xs.length = i ∧ (∀ x ∈ xs, P x) ∧ BoxO o' ∧ H' = upd (upd H b o') D (.lst xs)) ?_ ?_ ?_
  · refine ⟨none, [], o0, rfl, rfl, (fun x h => nomatch h), ho0, ?_⟩
    have : upd H b o0 = H := by
      funext c
      by_cases h : c = b
      · subst h; rw [upd_same, hb]
      · rw [upd_ne h]
    rw [this]
  · rintro i σ H' hi ⟨v, xs, o', rfl, hl, hP, ho', rfl⟩
    refine he _ _ o' _ (by rw [upd_ne nbD, upd_same]) ho' fun y o2 hy ho2 => ?_
    have e : upd (upd (upd H b o') D (.lst xs)) b o2 = upd (upd H b o2) D (.lst xs) := by rw [upd_swap nbD.symm, upd_upd]
    refine ⟨xs, by rw [e, upd_same]; rfl, by omega, _, xs ++ [y], o2, rfl, by simp [hl], fun x hx => ?_, ho2, by rw [e, upd_upd]⟩
    rcases List.mem_append.mp hx with h | h
    · exact hP x h
    · simp at h; subst h; exact hy
  · rintro σ H' ⟨v, xs, o', rfl, hl, hP, ho', rfl⟩
    exact hn v xs o' hl hP ho'
theorem _root_.L2.Kp.seq {S : List Addr} {K : PySem.W.Frag} {H H' : Hp} {a : Addr} {xs : List V} (e : Kp S H H') (n : a ∉ S) (h : SqL K H a xs) : SqL K H' a xs := by
  rcases h with (h | ⟨o, h⟩) | h
  · exact .inl (.inl (e.old _ _ h n))
  · exact .inl (.inr ⟨o, e.old _ _ h n⟩)
  · exact .inr h
def spLaw (K : PySem.W.Frag) : Sp := fun vs H Q _ => ∃ (a : Addr) (ns : List Int), vs = [.ref a] ∧ SqL K H a (ns.map V.int) ∧ ns.length ≤ 63 ∧ ∀ H', Q (.bl true) H'
theorem BoxO.lst {o : HO} (h : BoxO o) : ∃ xs, o = .lst xs := by obtain ⟨c, s, e, _⟩ := h; exact ⟨_, e⟩
theorem exQ {X : Cx} {ss : List Stmt} {t : TS} {D : Ends} {σ : L2.St} {H : Hp} (h : QSs X ss t) (q : t D σ H) : ∃ t, PSs X ss t ∧ t D σ H := ⟨t, h.h, q⟩
theorem fld0 {K : PySem.W.Frag} {H : Hp} {x C dx : Addr} {σ : L2.St} {i : Nat} {Q : VK} {fs : List (Str × V)} {f : Str} {v : V} (e : σ[i]? = some (some (.ref x))) (hx : H x = some (.ins C dx fs)) (c : Cls K C) (n : NoAttr K C f) (l : fs.lookup f = some v) (q : Q v H) : tFld K (tVar i) f σ H Q := ⟨.ref x, e, x, C, dx, fs, v, rfl, hx, c, n, l, q⟩
theorem set_kp {H : Hp} {x C dx : Addr} {fs fs' : List (Str × V)} {S : List Addr} (e : H x = some (.ins C dx fs)) (m : x ∈ S) : Kp S H (upd H x (.ins C dx fs')) := by
  refine ⟨fun b v e' n => ?_, fun b xs e' => ?_, fun b v e' => ?_⟩
  · rw [upd_ne fun z => n (by rw [z]; exact m)]; exact e'
  · rw [upd_ne fun z => by rw [z, e] at e'; cases e']; exact e'
  · by_cases z : b = x
    · rw [z, upd_same]; exact ⟨_, rfl⟩
    · rw [upd_ne z]; exact ⟨v, e'⟩
theorem kp_drop {S : List Addr} {H H1 H2 : Hp} (k : Kp [] H H1) (k2 : Kp S H1 H2) (hS : ∀ b ∈ S, H b = none) : Kp [] H H2 := ⟨fun a o e _ => k2.old a o (k.old a o e (by simp)) (fun m => by rw [hS a m] at e; cases e), fun a xs e => k2.tup _ _ (k.tup _ _ e), fun a o e => let ⟨o', e'⟩ := k.dom a o e; k2.dom a o' e'⟩
theorem kpPut {S : List Addr} {H H1 : Hp} (k : Kp S H H1) {b : Addr} {v o : HO} (hb : H1 b = some v) (nt : ∀ ys, v ≠ .tup ys) (h : b ∈ S ∨ H b = none) : Kp S H (upd H1 b o) := by
  refine ⟨fun c u e n => ?_, fun c xs e => ?_, fun c u e => ?_⟩
  · have nb : c ≠ b := fun z => h.elim (fun m => n (z ▸ m)) fun f => by rw [z, f] at e; cases e
    rw [upd_ne nb]; exact k.old _ _ e n
  · have e1 := k.tup _ _ e
    rw [upd_ne fun z => by rw [z, hb] at e1; exact nt xs (Option.some.inj e1)]; exact e1
  · by_cases z : c = b
    · rw [z, upd_same]; exact ⟨_, rfl⟩
    · rw [upd_ne z]; exact k.dom _ _ e
def SF (pr pn : Addr) : List (Str × V) := [("rows", .ref pr), ("numbers", .ref pn)]
structure SK (K : PySem.W.Frag) (C : Addr) : Prop where
  cls : Cls K C
  rows : NoAttr K C "rows"
  numbers : NoAttr K C "numbers"
structure SI (H : Hp) (x C dx pr pn : Addr) (us : List V) (kvs : List (List L2.Key × V)) : Prop where
  hx : H x = some (.ins C dx (SF pr pn))
  hr : H pr = some (.lst us)
  hn : H pn = some (.dT kvs)
theorem putK_new {kvs : List (List L2.Key × V)} {k : List L2.Key} {v : V} (h : valV kvs k = none) : putK kvs k v = kvs ++ [(k, v)] := by
  unfold putK
  rw [valV_any, h]; rfl
def spPutR (C : Addr) : Sp := fun vs H Q _ => ∃ (x dx pr pn a : Addr) (k : List L2.Key) (us : List V) (kvs : List (List L2.Key × V)), vs = [.ref x, .ref a] ∧ SI H x C dx pr pn us kvs ∧ H a = some (.tup (k.map kV)) ∧ us.length ≤ 1000000 ∧ kvs.length ≤ 1000000 ∧
  ((∃ v, valV kvs k = some v ∧ Q v H) ∨ (valV kvs k = none ∧ ∀ H', SI H' x C dx pr pn (us ++ [.ref a]) (kvs ++ [(k, .int (us.length : Int))]) → Kp [pr, pn] H H' → Q (.int (us.length : Int)) H'))
structure TPutR (K : PySem.W.Frag) (mg : Str → Option Value) (C : Addr) : Prop where
  n_len : mg "len" = none
  sk : SK K C
section
variable {P : Program} {w : World} {K : PySem.W.Frag} {mg : Str → Option Value} {base : Heap}
abbrev s_Sh_put_row : Stmt := methN (top 3) 1
theorem sc_Sh_put_row : FnScope ["self", "row"] ["self", "row"] (defScope s_Sh_put_row) := ⟨rfl, rfl, rfl, by decide +kernel, rfl, by decide +kernel, by decide +kernel⟩
theorem ok_put_row {f C : Addr} {fd : FuncData} (F : Fun K "put_row" "SaySheet.put_row" s_Sh_put_row f fd) (T : TPutR K mg C) : FnOk P w K mg base CX0 1 f fd ["self", "row"] (spPutR C) := by
  refine F.ok sc_Sh_put_row (fun vs H Q E h => ?_) (fun cdv A outer s H vs Q E hr h => ?_)
  · obtain ⟨x, dx, pr, pn, a, k, us, kvs, rfl, _⟩ := h
    rfl
  · obtain ⟨x, dx, pr, pn, a, k, us, kvs, rfl, I, ha, ul, kl, q⟩ := h
    have hu := hr.units
    have hu1 : (A.deeper (PyProof.Rows.envOfC (Str.ofString "SaySheet.put_row") (defScope s_Sh_put_row) s.heap.objs.size f cdv)).units + 1 < cLine := by omega
    have hsz : sizeLine = 16777216 := PySem.sizeLine_eq
    refine exQ (qpss_mid (qps_if (qpt_cmp (qpc_dnotin hu1 (qpv 1) (qpe_fldK (K := K) rfl (qpv 0))) (by with_unfolding_all rfl)) (qpss_cons (qps_dput hu1 (qpe_fldK (K := K) rfl (qpv 0)) (qpv 1) (qpe_callB call_lenU (by rfl) T.n_len bt_len (qpa_cons (qpe_fldK (K := K) rfl (qpv 0)) qpa_nil)) rfl)
    (qpss_one (qps_expr (qpe_bmL PySem.F.slot_list_append PySem.F.type_list_append mt_appendU (qpe_fldK (K := K) rfl (qpv 0)) (qpa_cons (qpv 1) qpa_nil) (mono_fld (mono_v _)))))) qpss_nil)
    (qpss_one (qps_ret (qpe_dget hu1 (qpe_fldK (K := K) rfl (qpv 0)) (qpv 1) (fun _ _ => rfl))))) ?_
    have sk := T.sk
    rcases q with ⟨v, hv, q⟩ | ⟨hv, q⟩
    · refine ⟨fun σ H' => σ = [some (.ref x), some (.ref a)] ∧ H' = H, ?_, ?_⟩
      · simp!
        refine fld0 rfl I.hx sk.cls sk.numbers rfl ⟨pn, rfl, _, DGet.t I.hn ha, ?_⟩
        rw [hv]
        simp
      · rintro _ _ ⟨rfl, rfl⟩
        simp!
        refine fld0 rfl I.hx sk.cls sk.numbers rfl ⟨pn, rfl, v, ?_, q⟩
        rw [← hv]; exact DGet.t I.hn ha
    · refine ⟨fun σ H' => σ = [some (.ref x), some (.ref a)] ∧ SI H' x C dx pr pn (us ++ [.ref a]) (kvs ++ [(k, .int (us.length : Int))]) ∧ Kp [pr, pn] H H', ?_, ?_⟩
      · simp!
        refine fld0 rfl I.hx sk.cls sk.numbers rfl ⟨pn, rfl, _, DGet.t I.hn ha, ?_⟩
        rw [hv]
        simp!
        refine fld0 rfl I.hx sk.cls sk.rows rfl ?_
        refine ⟨us, by rw [I.hr]; rfl, fld0 rfl I.hx sk.cls sk.numbers rfl ⟨pn, rfl, _, DPut.t I.hn ha (by omega), ?_⟩⟩
        rw [putK_new hv]
        have nrn : pr ≠ pn := fun z => by have := I.hr; rw [z, I.hn] at this; cases this
        have nxn : x ≠ pn := fun z => by have := I.hx; rw [z, I.hn] at this; cases this
        have nxr : x ≠ pr := fun z => by have := I.hx; rw [z, I.hr] at this; cases this
        have k1 : Kp [pr, pn] H (upd H pn (.dT (kvs ++ [(k, .int (us.length : Int))]))) := kpPut (Kp.refl _ H) I.hn (fun _ z => by cases z) (.inl (by simp))
        have e1 : upd H pn (.dT (kvs ++ [(k, .int (us.length : Int))])) pr = some (.lst us) := by rw [upd_ne nrn]; exact I.hr
        have e2 : upd H pn (.dT (kvs ++ [(k, .int (us.length : Int))])) pn = some (.dT (kvs ++ [(k, .int (us.length : Int))])) := upd_same
        have e3 : upd H pn (.dT (kvs ++ [(k, .int (us.length : Int))])) x = _ := (upd_ne nxn).trans I.hx
        generalize upd H pn (.dT (kvs ++ [(k, .int (us.length : Int))])) = H1 at k1 e1 e2 e3 ⊢
        refine fld0 rfl e3 sk.cls sk.rows rfl ⟨by show (lstOf (H1 pr)).isSome = true; rw [e1]; rfl, us, by rw [e1]; rfl, by omega, ⟨by rw [upd_ne nxr]; exact e3, upd_same, by rw [upd_ne nrn.symm]; exact e2⟩, kpPut k1 e1 (fun _ z => by cases z) (.inl (by simp))⟩
      · rintro _ H' ⟨rfl, I', k'⟩
        simp!
        refine fld0 rfl I'.hx sk.cls sk.numbers rfl ⟨pn, rfl, .int (us.length : Int), ?_, q H' I' k'⟩
        have := DGet.t I'.hn (k'.tup _ _ ha)
        rw [valV_snoc _ _ _ _ hv, if_pos rfl] at this
        exact this
def spSInit (C : Addr) : Sp := fun vs H Q _ => ∃ (x dx : Addr), vs = [.ref x] ∧ H x = some (.ins C dx []) ∧ ∀ H' pr pn us kvs, SI H' x C dx pr pn us kvs → us.length = 2 → kvs.length = 2 → H pr = none → H pn = none → Kp [x] H H' → Q .non H'
structure TSInit (K : PySem.W.Frag) (mg : Str → Option Value) (C fp : Addr) (tk : Tok) : Prop where
  sk : SK K C
  cls : Cls K C
  d_put_row : Meth K C "put_row" fp
  m_YES : mg "YES" = some (.int 0 tk)
abbrev s_Sh_init : Stmt := methN (top 3) 0
theorem sc_Sh_init : FnScope ["self"] ["self"] (defScope s_Sh_init) := ⟨rfl, rfl, rfl, by decide +kernel, rfl, by decide +kernel, by decide +kernel⟩
theorem ok_sinit {tk : Tok} {f C fp : Addr} {fd fdp : FuncData} (F : Fun K "__init__" "SaySheet.__init__" s_Sh_init f fd) (T : TSInit K mg C fp tk) (b_put_row : Binds K fdp ["self", "row"] []) (G_put_row : FnOk P w K mg base CX0 1 fp fdp ["self", "row"] (spPutR C)) : FnOk P w K mg base CX0 2 f fd ["self"] (spSInit C) := by
  refine F.ok sc_Sh_init (fun vs H Q E h => ?_) (fun cdv A outer s H vs Q E hr h => ?_)
  · obtain ⟨x, dx, rfl, _⟩ := h
    rfl
  · obtain ⟨x, dx, rfl, hx, q⟩ := h
    have hu := hr.units
    have hsz : sizeLine = 16777216 := PySem.sizeLine_eq
    refine exQ (qpss_cons (qps_fld (K := K) rfl (qpv 0) (qpe_lst qpa_nil))
    (qpss_cons (qps_fld (K := K) rfl (qpv 0) qpe_dnewT)
    (qpss_cons (qps_expr (qpe_meth (qpv 0) T.cls T.d_put_row G_put_row (hr.mono (by decide)) b_put_row .nil pass0 (qpa_cons (qpe_tup (qpa_cons qpe_str qpa_nil)) qpa_nil)))
    (qpss_one (qps_expr (qpe_meth (qpv 0) T.cls T.d_put_row G_put_row (hr.mono (by decide)) b_put_row .nil pass0 (qpa_cons (qpe_tup (qpa_cons qpe_str (qpa_cons (qpe_glob (v := .int 0) rfl T.m_YES ⟨_, rfl⟩) qpa_nil))) qpa_nil))))))) ?_
    simp!
    have sk := T.sk
    refine ⟨by rw [hsz]; decide, fun pr hpr => ?_⟩
    have nxr : x ≠ pr := ne_of_none hx hpr
    have k1 : Kp [x] H (upd H pr (.lst [])) := (Kp.refl _ H).new hpr
    have x1 : upd H pr (.lst []) x = _ := (upd_ne nxr).trans hx
    have r1 : upd H pr (.lst []) pr = some (.lst []) := upd_same
    generalize upd H pr (.lst []) = H1 at k1 x1 r1 ⊢
    refine ⟨.ref x, rfl, x, C, dx, [], rfl, x1, sk.cls, sk.rows, by simp, ?_⟩
    have k2 : Kp [x] H (upd H1 x (.ins C dx (putF "rows" (.ref pr) []))) := k1.trans (set_kp x1 (.head _))
    have x2 : upd H1 x (.ins C dx (putF "rows" (.ref pr) [])) x = _ := upd_same
    have r2 : upd H1 x (.ins C dx (putF "rows" (.ref pr) [])) pr = some (.lst []) := (upd_ne nxr.symm).trans r1
    generalize upd H1 x (.ins C dx (putF "rows" (.ref pr) [])) = H2 at k2 x2 r2 ⊢
    simp!
    intro pn hpn
    have nxn : x ≠ pn := ne_of_none x2 hpn
    have nrn : pr ≠ pn := ne_of_none r2 hpn
    have hpn0 : H pn = none := k2.free hpn
    have k3 : Kp [x] H (upd H2 pn (.dT [])) := k2.new hpn
    have x3 : upd H2 pn (.dT []) x = _ := (upd_ne nxn).trans x2
    have r3 : upd H2 pn (.dT []) pr = some (.lst []) := (upd_ne nrn).trans r2
    have n3 : upd H2 pn (.dT []) pn = some (.dT []) := upd_same
    generalize upd H2 pn (.dT []) = H3 at k3 x3 r3 n3 ⊢
    refine ⟨.ref x, rfl, x, C, dx, _, rfl, x3, sk.cls, sk.numbers, Nat.lt_of_le_of_lt (Nat.le_of_eq (rfl : List.length _ = 1)) (by decide), ?_⟩
    have k4 : Kp [x] H (upd H3 x (.ins C dx (SF pr pn))) := k3.trans (set_kp x3 (.head _))
    have I4 : SI (upd H3 x (.ins C dx (SF pr pn))) x C dx pr pn [] [] := ⟨upd_same, (upd_ne nxr.symm).trans r3, (upd_ne nxn.symm).trans n3⟩
    have ef : putF "numbers" (.ref pn) (putF "rows" (.ref pr) []) = SF pr pn := rfl
    rw [ef]
    generalize upd H3 x (.ins C dx (SF pr pn)) = H4 at k4 I4 ⊢
    simp!
    refine ⟨dx, _, I4.hx, rfl, by omega, fun a1 ha1 => ?_⟩
    have k5 : Kp [] H4 (upd H4 a1 (.tup [.str (Str.ofString "yes")])) := (Kp.refl [] H4).new ha1
    have t5 : upd H4 a1 (.tup [.str (Str.ofString "yes")]) a1 = some (.tup (([.inr (Str.ofString "yes")] : List L2.Key).map kV)) := upd_same
    generalize upd H4 a1 (.tup [.str (Str.ofString "yes")]) = H5 at k5 t5 ⊢
    have I5 : SI H5 x C dx pr pn [] [] := ⟨k5.old _ _ I4.hx (by simp), k5.old _ _ I4.hr (by simp), k5.old _ _ I4.hn (by simp)⟩
    refine ⟨x, dx, pr, pn, a1, [.inr (Str.ofString "yes")], [], [], rfl, I5, t5, by simp, by simp, .inr ⟨rfl, fun H6 I6 k6 => ?_⟩⟩
    refine ⟨dx, _, I6.hx, rfl, by omega, fun a2 ha2 => ?_⟩
    have k7 : Kp [] H6 (upd H6 a2 (.tup [.str (Str.ofString "not"), .int 0])) := (Kp.refl [] H6).new ha2
    have t7 : upd H6 a2 (.tup [.str (Str.ofString "not"), .int 0]) a2 = some (.tup (([.inr (Str.ofString "not"), .inl 0] : List L2.Key).map kV)) := upd_same
    generalize upd H6 a2 (.tup [.str (Str.ofString "not"), .int 0]) = H7 at k7 t7 ⊢
    have I7 : SI H7 x C dx pr pn _ _ := ⟨k7.old _ _ I6.hx (by simp), k7.old _ _ I6.hr (by simp), k7.old _ _ I6.hn (by simp)⟩
    refine ⟨x, dx, pr, pn, a2, [.inr (Str.ofString "not"), .inl 0], _, _, rfl, I7, t7, by simp, by simp, .inr ⟨by decide +kernel, fun H8 I8 k8 => ?_⟩⟩
    have z : Kp [] H H → True := fun _ => trivial
    have k48 : Kp [pr, pn] H4 H8 := ((k5.mono (by simp)).trans k6).trans ((k7.mono (by simp)).trans k8)
    refine q H8 pr pn _ _ I8 (by simp) (by simp) hpr hpn0 ⟨fun c o e n => ?_, fun c xs e => k48.tup _ _ (k4.tup _ _ e), fun c o e => ?_⟩
    · refine k48.old _ _ (k4.old _ _ e n) ?_
      simp only [List.mem_cons, List.not_mem_nil, or_false, not_or]
      exact ⟨fun z => (by rw [z, hpr] at e; cases e), fun z => (by rw [z, hpn0] at e; cases e)⟩
    · obtain ⟨o', e'⟩ := k4.dom _ _ e
      exact k48.dom _ _ e'
end
abbrev ik (n : Nat) : L2.Key := .inl (n : Int)
abbrev cc (c : Nat) : L2.Key := .inr ⟨#[c]⟩
abbrev K1 := (L2.Key × List L2.Key) × L2.Key
abbrev KMk := List L2.Key × List (List Bool)
abbrev KS := KMk ⊕ List L2.Key
abbrev dKS : DecidableEq KS := fun a b => instDecidableEqSum a b
instance : DecidableEq KS := dKS
abbrev K2 := L2.Key × KS
def aMk (P : Program) (w : World) := (AbN.key P w).list.pr (AbN.truth P w).list.list
def kKn (P : Program) (w : World) : NKd P w K1 := ⟨_, by show 3 ≤ 8; decide, ((AbN.key P w).pr (AbN.key P w).list).pr (AbN.key P w)⟩
def isNo (k : L2.Key) : Bool := decide (k = .inl 0)
def kKi (P : Program) (w : World) : NKd P w K2 := ⟨_, by show 4 ≤ 8; decide, (AbN.key P w).alt (aMk P w) (AbN.key P w).list isNo⟩
def kk (z : Str) (ps : List Nat) (d : Nat) : K1 := ((.inr z, ps.map ik), ik d)
def cf (z : Str) (ps : List Nat) : Cfg := (z.cps.toList, ps)
def kM0 (z : Str) (ps : List Nat) : K2 := (ik 0, .inl ((mk0 (cf z ps)).1.map cc, (mk0 (cf z ps)).2))
def kMs (d : Nat) (ns : List Int) : K2 := (ik (d + 1), .inr (ns.map .inl))
theorem ik_inj {a b : Nat} (h : ik a = ik b) : a = b := Int.ofNat.inj (Sum.inl.inj h)
theorem kk_inj {z z' : Str} {ps ps' : List Nat} {d d' : Nat} (h : kk z ps d = kk z' ps' d') : z = z' ∧ ps = ps' ∧ d = d' := by
  unfold kk at h
  injection h with h1 h2
  injection h1 with h3 h4
  exact ⟨Sum.inr.inj h3, (List.map_inj_right fun a b e => ik_inj e).mp h4, ik_inj h2⟩
theorem cc_inj {a b : Nat} (h : cc a = cc b) : a = b := by
  have h := Sum.inr.inj h
  injection h with h
  simpa using h
theorem kM0_inj {z z' : Str} {ps ps' : List Nat} (h : kM0 z ps = kM0 z' ps') : mk0 (cf z ps) = mk0 (cf z' ps') := by
  unfold kM0 at h
  injection h with _ h
  have h := Sum.inl.inj h
  injection h with h1 h2
  exact Prod.ext ((List.map_inj_right fun a b e => cc_inj e).mp h1) h2
theorem kMs_inj {d : Nat} {a b : List Int} (h : kMs d a = kMs d b) : a = b := by
  unfold kMs at h
  injection h with _ h
  exact (List.map_inj_right fun a b e => Sum.inl.inj e).mp (Sum.inr.inj h)
theorem sorted_eq {a b : List Int} (ha : a.Pairwise (· ≤ ·)) (hb : b.Pairwise (· ≤ ·)) (na : a.Nodup) (nb : b.Nodup) (h : ∀ x, x ∈ a ↔ x ∈ b) : a = b :=
  ((List.perm_ext_iff_of_nodup na nb).mpr h).eq_of_pairwise (fun x y _ _ h1 h2 => Int.le_antisymm h1 h2) ha hb
def Kd (G : K1 → Option V) (J : K2 → Option V) (z : Str) (ps : List Nat) : Nat → Nat → Prop
  | 0, i => J (kM0 z ps) = some (.int (i : Int))
  | d + 1, i => ∃ ns : List Int, ns.Nodup ∧ ns.Pairwise (· ≤ ·) ∧ J (kMs d ns) = some (.int (i : Int)) ∧ (∀ p, p < z.length → ∃ j : Nat, G (kk z (ps ++ [p]) d) = some (.int (j : Int)) ∧ (j : Int) ∈ ns) ∧ ∀ y ∈ ns, ∃ p, p < z.length ∧ G (kk z (ps ++ [p]) d) = some (.int y)
theorem Kd.mono {G G' : K1 → Option V} {J J' : K2 → Option V} {z : Str} {ps : List Nat} (hG : ∀ k v, G k = some v → G' k = some v) (hJ : ∀ k v, J k = some v → J' k = some v) : ∀ {d i : Nat}, Kd G J z ps d i → Kd G' J' z ps d i
  | 0, _, h => hJ _ _ h
  | d + 1, _, ⟨ns, h1, h2, h3, h4, h5⟩ => ⟨ns, h1, h2, hJ _ _ h3, fun p hp => let ⟨j, g, m⟩ := h4 p hp; ⟨j, hG _ _ g, m⟩, fun y hy => let ⟨p, hp, g⟩ := h5 y hy; ⟨p, hp, hG _ _ g⟩⟩
structure KG (G : K1 → Option V) (J : K2 → Option V) (m : Nat) : Prop where
  ki : ∀ k v, J k = some v → ∃ i : Nat, i < m ∧ v = .int (i : Int)
  kj : ∀ k k' v, J k = some v → J k' = some v → k = k'
  kn : ∀ k v, G k = some v → ∃ z ps d i, k = kk z ps d ∧ v = .int (i : Nat) ∧ Kd G J z ps d i
theorem KG.at_ {G : K1 → Option V} {J : K2 → Option V} {m : Nat} (K : KG G J m) {z : Str} {ps : List Nat} {d i : Nat} (h : G (kk z ps d) = some (.int (i : Int))) : Kd G J z ps d i := by
  obtain ⟨z', ps', d', i', e, ev, kd⟩ := K.kn _ _ h
  obtain ⟨rfl, rfl, rfl⟩ := kk_inj e
  injection ev with ev
  rw [Int.ofNat.inj ev]; exact kd
theorem KG.eqv {G : K1 → Option V} {J : K2 → Option V} {m : Nat} (K : KG G J m) : ∀ {d : Nat} {z z' : Str} {ps ps' : List Nat} {i i' : Nat}, G (kk z ps d) = some (.int (i : Int)) → G (kk z' ps' d) = some (.int (i' : Int)) → (i = i' ↔ Eqv d (cf z ps) (cf z' ps'))
  | 0, z, z', ps, ps', i, i', h, h' => by
    have a : J (kM0 z ps) = some (.int (i : Int)) := K.at_ h
    have b : J (kM0 z' ps') = some (.int (i' : Int)) := K.at_ h'
    constructor
    · rintro rfl
      exact kM0_inj (K.kj _ _ _ a b)
    · intro e
      have e : mk0 (cf z ps) = mk0 (cf z' ps') := e
      have : kM0 z ps = kM0 z' ps' := by unfold kM0; rw [e]
      rw [this, b] at a
      have := Option.some.inj a
      injection this with this
      exact (Int.ofNat.inj this).symm
  | d + 1, z, z', ps, ps', i, i', h, h' => by
    obtain ⟨ns, n1, n2, n3, n4, n5⟩ := K.at_ h
    obtain ⟨ms, m1, m2, m3, m4, m5⟩ := K.at_ h'
    have zl : ∀ z : Str, z.cps.toList.length = z.length := fun z => by simp [Str.length]
    have sub : ∀ {z z' : Str} {ps ps' : List Nat} {ns ms : List Int}, (∀ p, p < z.length → ∃ j : Nat, G (kk z (ps ++ [p]) d) = some (.int (j : Int)) ∧ (j : Int) ∈ ns) → (∀ y ∈ ns, ∃ p, p < z.length ∧ G (kk z (ps ++ [p]) d) = some (.int y)) → (∀ p, p < z'.length → ∃ j : Nat, G (kk z' (ps' ++ [p]) d) = some (.int (j : Int)) ∧ (j : Int) ∈ ms) → (∀ y ∈ ms, ∃ p, p < z'.length ∧ G (kk z' (ps' ++ [p]) d) = some (.int y)) →
        ((∀ y ∈ ns, y ∈ ms) ↔ ∀ p, p < z.length → ∃ q, q < z'.length ∧ Eqv d (cf z (ps ++ [p])) (cf z' (ps' ++ [q]))) := fun {z z' ps ps' ns ms} a1 a2 b1 b2 => by
      constructor
      · intro s p hp
        obtain ⟨j, g, mj⟩ := a1 p hp
        obtain ⟨q, hq, g'⟩ := b2 _ (s _ mj)
        exact ⟨q, hq, (K.eqv g g').mp rfl⟩
      · intro s y hy
        obtain ⟨p, hp, g⟩ := a2 y hy
        obtain ⟨q, hq, e⟩ := s p hp
        obtain ⟨j, g', mj⟩ := b1 q hq
        obtain ⟨j0, g0, mj0⟩ := a1 p hp
        have : y = (j0 : Int) := by rw [g] at g0; have := Option.some.inj g0; injection this
        rw [this] at g ⊢
        rw [(K.eqv g g').mpr e]; exact mj
    have s1 := sub n4 n5 m4 m5
    have s2 := sub m4 m5 n4 n5
    constructor
    · rintro rfl
      have e : ns = ms := kMs_inj (K.kj _ _ _ n3 m3)
      subst e
      refine ⟨fun p hp => ?_, fun q hq => ?_⟩
      · have hp : p < z.length := by rw [← zl]; exact hp
        obtain ⟨q, hq, g⟩ := s1.mp (fun _ h => h) p hp
        exact ⟨q, by show q < z'.cps.toList.length; rw [zl]; exact hq, g⟩
      · have hq : q < z'.length := by rw [← zl]; exact hq
        obtain ⟨p, hp, g⟩ := s2.mp (fun _ h => h) q hq
        exact ⟨p, by show p < z.cps.toList.length; rw [zl]; exact hp, g.symm⟩
    · intro e
      have e1 := s1.mpr fun p hp => by
        obtain ⟨q, hq, g⟩ := e.1 p (by show p < z.cps.toList.length; rw [zl]; exact hp)
        exact ⟨q, by rw [← zl]; exact hq, g⟩
      have e2 := s2.mpr fun q hq => by
        obtain ⟨p, hp, g⟩ := e.2 q (by show q < z'.cps.toList.length; rw [zl]; exact hq)
        exact ⟨p, by rw [← zl]; exact hp, g.symm⟩
      have : ns = ms := sorted_eq n2 m2 n1 m1 fun x => ⟨e1 x, e2 x⟩
      rw [this, m3] at n3
      have := Option.some.inj n3
      injection this with this
      exact (Int.ofNat.inj this).symm
theorem KG.put {G : K1 → Option V} {J J' : K2 → Option V} {m m' : Nat} (K : KG G J m) {z : Str} {ps : List Nat} {d i : Nat} {k : K2} (hk : G (kk z ps d) = none) (hm : m ≤ m') (hi : i < m') (hJ : ∀ j, J' j = if j = k then some (.int (i : Int)) else J j) (hn : J k = some (.int (i : Int)) ∨ J k = none ∧ i = m) (kd : Kd G J' z ps d i) :
    KG (fun j => if j = kk z ps d then some (.int (i : Int)) else G j) J' m' := by
  have hJ1 : ∀ j v, J j = some v → J' j = some v := fun j v e => by
    rw [hJ]
    by_cases c : j = k
    · rw [if_pos c]
      rcases hn with q | q
      · rw [c, q] at e; exact e
      · rw [c, q.1] at e; cases e
    · rw [if_neg c]; exact e
  have hG1 : ∀ j v, G j = some v → (if j = kk z ps d then some (.int (i : Int)) else G j) = some v := fun j v e => by
    rw [if_neg fun c => by rw [c, hk] at e; cases e]; exact e
  refine ⟨fun j v e => ?_, fun j j' v e e' => ?_, fun j v e => ?_⟩
  · rw [hJ] at e
    by_cases c : j = k
    · rw [if_pos c] at e
      exact ⟨i, hi, (Option.some.inj e).symm⟩
    · rw [if_neg c] at e
      obtain ⟨a, ha, r⟩ := K.ki j v e
      exact ⟨a, by omega, r⟩
  · have one : ∀ {j : K2}, J j = some (.int (i : Int)) → j = k := fun {j} e => by
      rcases hn with q | q
      · exact K.kj _ _ _ e q
      · obtain ⟨a, ha, r⟩ := K.ki j _ e
        injection r with r
        have := Int.ofNat.inj r
        omega
    rw [hJ] at e e'
    by_cases c : j = k
    · rw [if_pos c] at e
      by_cases c' : j' = k
      · rw [c, c']
      · rw [if_neg c'] at e'
        rw [← Option.some.inj e] at e'
        rw [c, one e']
    · rw [if_neg c] at e
      by_cases c' : j' = k
      · rw [if_pos c'] at e'
        rw [← Option.some.inj e'] at e
        rw [c', one e]
      · rw [if_neg c'] at e'
        exact K.kj _ _ _ e e'
  · by_cases c : j = kk z ps d
    · rw [if_pos c] at e
      exact ⟨z, ps, d, i, c, (Option.some.inj e).symm, kd.mono hG1 fun _ _ h => h⟩
    · rw [if_neg c] at e
      obtain ⟨z', ps', d', i', e1, e2, kd'⟩ := K.kn j v e
      exact ⟨z', ps', d', i', e1, e2, kd'.mono hG1 hJ1⟩
theorem take_snoc {α : Type} {l : List α} {i : Nat} {x : α} (h : l[i]? = some x) : l.take (i + 1) = l.take i ++ [x] := by rw [List.take_add_one, h]; rfl
def nv (p : Nat) : V := .int (p : Int)
def CfgAt (H : Hp) (c : Addr) (z : Str) (ps : List Nat) : Prop := ∃ t, H c = some (.tup [.str z, .ref t]) ∧ H t = some (.tup (ps.map nv))
theorem CfgAt.kp {S : List Addr} {H H' : Hp} {c : Addr} {z : Str} {ps : List Nat} (k : Kp S H H') (h : CfgAt H c z ps) : CfgAt H' c z ps := let ⟨t, h1, h2⟩ := h; ⟨t, k.tup _ _ h1, k.tup _ _ h2⟩
def spOne : Sp := fun vs H Q _ => ∃ (c : Addr) (z : Str) (ps : List Nat), vs = [.ref c] ∧ CfgAt H c z ps ∧ z.length ≤ 100 ∧ ps.length ≤ 100 ∧ ∀ p us H', H p = none → H' p = some (.lst us) → Paired (fun v q => ∃ a, v = .ref a ∧ CfgAt H' a z (ps ++ [q])) us (List.range z.length) → Kp [] H H' → Q (.ref p) H'
structure TOne (mg : Str → Option Value) : Prop where
  n_range : mg "range" = none
  n_len : mg "len" = none
section
variable {P : Program} {w : World} {K : PySem.W.Frag} {mg : Str → Option Value} {base : Heap}
abbrev s_one_place_more : Stmt := top 7
theorem sc_one_place_more : FnScope ["chosen"] ["chosen"] (defScope s_one_place_more) := ⟨rfl, rfl, rfl, by decide +kernel, rfl, by decide +kernel, by decide +kernel⟩
theorem ok_one_place_more {f : Addr} {fd : FuncData} (F : Fun K "one_place_more" "one_place_more" s_one_place_more f fd) (T : TOne mg) : FnOk P w K mg base CX0 1 f fd ["chosen"] spOne := by
  refine F.ok sc_one_place_more (fun vs H Q E h => ?_) (fun cdv A outer s H vs Q E hr h => ?_)
  · obtain ⟨c, z, ps, rfl, _⟩ := h
    rfl
  · obtain ⟨c, z, ps, rfl, ⟨t, hc, ht⟩, zl, pl, q⟩ := h
    have hu := hr.units
    have hsz : sizeLine = 16777216 := PySem.sizeLine_eq
    refine exQ (qpss_one (qps_ret (qpe_comp rfl (compOk_of (sc := defScope s_one_place_more) (N := ["chosen"]) (Nc := ["place", "chosen"]) (js := [none, some 0]) (by decide +kernel)) (qpi_range1 rfl T.n_range (qpa_cons (qpe_callB call_lenU (by rfl) T.n_len bt_len (qpa_cons (qpe_ix ix_U (qpv 0) qpe_int (fun _ _ => rfl)) qpa_nil)) qpa_nil)) (fun _ _ _ _ => (qpg_name (i := 0) (show List.Nodup [("place" : Str), ("chosen" : Str)] from by decide +kernel) rfl (by first | exact Or.inl rfl | exact Or.inr rfl))) (fun _ _ _ _ => (qpe_tup (qpa_cons (qpe_ix ix_U (qpv 1) qpe_int (fun _ _ => rfl)) (qpa_cons (qpe_op op_addX (qpe_ix ix_U (qpv 1) qpe_int (fun _ _ => rfl)) (qpe_tup (qpa_cons (qpv 0) qpa_nil))) qpa_nil))))))) ?_
    simp! [hc]
    refine ⟨by omega, by omega, by omega, fun D hD => ?_⟩
    rw [Int.toNat_natCast]
    refine loop_range (fun i σ H' => ∃ (v : Option V) (us : List V), σ = [v, some (.ref c)] ∧ H' D = some (.lst us) ∧ Paired (fun v q => ∃ a, v = .ref a ∧ CfgAt H' a z (ps ++ [q])) us (List.range i) ∧ Kp [] H H') ?_ ?_ ?_
    · exact ⟨none, [], rfl, upd_same, .nil, (Kp.refl [] H).new hD⟩
    · rintro i σ H1 hi ⟨v, us, rfl, hD1, pr, k1⟩
      have hc1 := k1.tup _ _ hc
      have ht1 := k1.tup _ _ ht
      have ul : us.length = i := by have := Paired.length pr; rw [List.length_range] at this; exact this
      unfold tEmit
      simp! [hc1]
      refine ⟨by omega, fun s1 hs1 => ⟨t, s1, _, _, rfl, rfl, by rw [upd_ne (ne_of_none ht1 hs1)]; exact ht1, upd_same, by simp; omega, fun u H2 k2 hu2 => ⟨by omega, fun b hb => ?_⟩⟩⟩
      have k12 : Kp [] H1 H2 := ((Kp.refl [] H1).new hs1).trans k2
      have hD2 := k12.old _ _ hD1 List.not_mem_nil
      have nDb : D ≠ b := ne_of_none hD2 hb
      have hD3 : upd H2 b (.tup [.str z, .ref u]) D = some (.lst us) := by rw [upd_ne nDb]; exact hD2
      refine ⟨us, by rw [hD3]; rfl, by omega, ?_, ?_⟩
      · have k3 : Kp [D] H1 (upd (upd H2 b (.tup [.str z, .ref u])) D (.lst (us ++ [.ref b]))) := ((k12.mono (by simp)).new hb).set hD3 (.inl (.head _))
        have k4 : Kp [D] H2 (upd (upd H2 b (.tup [.str z, .ref u])) D (.lst (us ++ [.ref b]))) := ((Kp.refl _ H2).new hb).set hD3 (.inl (.head _))
        rw [List.range_succ]
        refine Paired.snoc (Paired.mapP pr fun _ _ ⟨a, e, h⟩ => ⟨a, e, h.kp k3⟩) ⟨b, rfl, u, by rw [upd_ne nDb.symm, upd_same], ?_⟩
        rw [List.map_append, Int.zero_add] at *
        exact k4.tup _ _ hu2
      · exact (((k1.trans k12).new hb).set hD3 (.inr hD))
    · rintro σ H1 ⟨v, us, rfl, hD1, pr, k1⟩
      exact q D us H1 hD hD1 pr k1
def ltrV (z : Str) : V → V
  | .int p => .str ⟨#[z.cps.toList.getD p.toNat 0]⟩
  | _ => .non
def ltV (p : Nat) : V → V
  | .int q => .bl (decide ((p : Int) < q))
  | _ => .non
abbrev s_plain_marks : Stmt := top 8
theorem sc_plain_marks : FnScope ["chosen", "letters"] ["chosen"] (defScope s_plain_marks) := ⟨rfl, rfl, rfl, by decide +kernel, rfl, by decide +kernel, by decide +kernel⟩
def spPM (P : Program) (w : World) : Sp := fun vs H Q _ => ∃ (c : Addr) (z : Str) (ps : List Nat), vs = [.ref c] ∧ CfgAt H c z ps ∧ z.length ≤ 100 ∧ ps.length ≤ 100 ∧ (∀ p ∈ ps, p < z.length) ∧ ∀ m H', (aMk P w).ab H' ((mk0 (cf z ps)).1.map cc, (mk0 (cf z ps)).2) (.ref m) → Kp [] H H' → Q (.ref m) H'
structure TPM (mg : Str → Option Value) : Prop where
  n_tuple : mg "tuple" = none
theorem ok_plain_marks {f : Addr} {fd : FuncData} (F : Fun K "plain_marks" "plain_marks" s_plain_marks f fd) (T : TPM mg) : FnOk P w K mg base CX0 1 f fd ["chosen"] (spPM P w) := by
  refine F.ok sc_plain_marks (fun vs H Q E h => ?_) (fun cdv A outer s H vs Q E hr h => ?_)
  · obtain ⟨c, z, ps, rfl, _⟩ := h
    rfl
  · obtain ⟨c, z, ps, rfl, ⟨t, hc, ht⟩, zl, pl, hp, q⟩ := h
    have hu := hr.units
    have hsz : sizeLine = 16777216 := PySem.sizeLine_eq
    refine exQ (qpss_cons (qps_set (i := 1) sc_plain_marks.nd rfl (by first | exact Or.inl rfl | exact Or.inr rfl) (qpe_callTy call_tupleU (by rfl) T.n_tuple bt_tuple (qpa_cons (qpe_comp rfl (compOk_of (sc := defScope s_plain_marks) (N := ["chosen", "letters"]) (Nc := ["place", "chosen"]) (js := [none, some 0]) (by decide +kernel)) (qpi_any (K := K) (qpe_ix ix_U (qpv 0) qpe_int (fun _ _ => rfl)) rfl) (fun _ _ _ _ => (qpg_name (i := 0) (show List.Nodup [("place" : Str), ("chosen" : Str)] from by decide +kernel) rfl (by first | exact Or.inl rfl | exact Or.inr rfl))) (fun _ _ _ _ => (qpe_ix ix_U (qpe_ix ix_U (qpv 1) qpe_int (fun _ _ => rfl)) (qpv 0) (fun _ _ => rfl)))) qpa_nil)))
    (qpss_one (qps_ret (qpe_tup (qpa_cons (qpv 1) (qpa_cons (qpe_callTy call_tupleU (by rfl) T.n_tuple bt_tuple (qpa_cons (qpe_compC rfl (compOkC_of (sc := defScope s_plain_marks) (N := ["chosen", "letters"]) (Nc := ["one", "chosen"]) (js := [none, some 0]) (by decide +kernel)) (qpi_any (K := K) (qpe_ix ix_U (qpv 0) qpe_int (fun _ _ => rfl)) rfl) (fun _ _ _ _ => (qpg_name (i := 0) (show List.Nodup [("one" : Str), ("chosen" : Str)] from by decide +kernel) rfl (by first | exact Or.inl rfl | exact Or.inr rfl))) (fun _ _ _ _ => (qpe_callTy call_tupleU (by rfl) T.n_tuple bt_tuple (qpa_cons (qpe_comp rfl (compOk_of (sc := relabel0 { kind := .function, names := [(".0", .local), ("one", .cell), ("tuple", .globalImplicit), ("chosen", .free)], isGenerator := false, isCoroutine := false } (defScope s_plain_marks)) (N := ["one", "chosen"]) (Nc := ["other", "one"]) (js := [none, some 0]) (by decide +kernel)) (qpi_any (K := K) (qpe_ix ix_U (qpv 1) qpe_int (fun _ _ => rfl)) rfl) (fun _ _ _ _ => (qpg_name (i := 0) (show List.Nodup [("other" : Str), ("one" : Str)] from by decide +kernel) rfl (by first | exact Or.inl rfl | exact Or.inr rfl))) (fun _ _ _ _ => (qpe_cmpR op_ltU (qpv 1) (qpv 0) (nomark _)))) qpa_nil)))) qpa_nil)) qpa_nil)))))) ?_
    have zn : z.cps.toList.length = z.length := by simp [Str.length]
    simp! [hc, ht]
    intro D hD
    have cD : c ≠ D := ne_of_none hc hD
    refine comp_tup (ltrV z) ht hD (by rw [List.length_map]; omega) (fun u hu' l Q' q' => ?_) fun v' => ?_
    · obtain ⟨p, hp', rfl⟩ := List.mem_map.mp hu'
      have hc1 : upd H D (.lst l) c = some (.tup [.str z, .ref t]) := by rw [upd_ne cD]; exact hc
      simp! [hc1, nv]
      refine ⟨by omega, z.cps.toList.getD p 0, atI_nat (by rw [List.getD_eq_getElem?_getD, List.getElem?_eq_getElem (by have := hp p hp'; omega)]; rfl), ?_⟩
      have : z.cps.toList.getD (p : Int).toNat 0 = z.cps.toList.getD p 0 := rfl
      rw [← this]; exact q'
    have k1 : Kp [] H (upd H D (.lst ((ps.map nv).map (ltrV z)))) := (Kp.refl [] H).new hD
    have e1 : upd H D (.lst ((ps.map nv).map (ltrV z))) D = some (.lst ((mk0 (cf z ps)).1.map fun c => .str ⟨#[c]⟩)) := by
      rw [upd_same]
      congr 2
      simp [mk0, cf, nv, ltrV, Function.comp_def]
    generalize upd H D (.lst ((ps.map nv).map (ltrV z))) = H1 at k1 e1 ⊢
    dsimp only
    refine rTupleU_lst e1 fun a ha => ?_
    have k2 : Kp [] H (upd H1 a (.tup ((mk0 (cf z ps)).1.map fun c => .str ⟨#[c]⟩))) := k1.new ha
    have ea : upd H1 a (.tup ((mk0 (cf z ps)).1.map fun c => .str ⟨#[c]⟩)) a = some (.tup ((mk0 (cf z ps)).1.map fun c => .str ⟨#[c]⟩)) := upd_same
    generalize upd H1 a (.tup ((mk0 (cf z ps)).1.map fun c => .str ⟨#[c]⟩)) = H2 at k2 ea ⊢
    have hc2 := k2.tup _ _ hc
    have ht2 := k2.tup _ _ ht
    simp! [hc2, ht2]
    intro E2 hE
    refine loop_tup (xs := ps.map nv) (fun i σ H' => ∃ (v : Option V) (us : List V), σ = [v, some (.ref c)] ∧ H' E2 = some (.lst us) ∧ Paired (fun v p => ∃ b, v = .ref b ∧ H' b = some (.tup (ps.map fun q => .bl (decide (p < q))))) us (ps.take i) ∧ Kp [] H2 H') ?_ ?_ ?_ ?_
    · exact ⟨none, [], rfl, upd_same, .nil, (Kp.refl [] H2).new hE⟩
    · rintro i σ H' _ ⟨_, _, rfl, _, _, k⟩
      exact k.tup _ _ ht2
    · rintro i x σ H3 hx ⟨v, us, rfl, hE3, pr, k3⟩
      rw [List.getElem?_map] at hx
      obtain ⟨p, hpi, rfl⟩ := Option.map_eq_some_iff.mp hx
      have hi : i < ps.length := (List.getElem?_eq_some_iff.mp hpi).1
      have hc3 := k3.tup _ _ hc2
      have ht3 := k3.tup _ _ ht2
      have ul : us.length = i := by have := Paired.length pr; rw [List.length_take] at this; omega
      unfold tEmit
      simp! [hc3, ht3]
      intro D2 hD2
      refine comp_tup (ltV p) ht3 hD2 (by rw [List.length_map]; omega) (fun u hu' l Q' q' => ?_) fun v' => ?_
      · obtain ⟨q0, hq', rfl⟩ := List.mem_map.mp hu'
        simp! [nv]
        exact q'
      have k4 : Kp [] H3 (upd H3 D2 (.lst ((ps.map nv).map (ltV p)))) := (Kp.refl [] H3).new hD2
      have e4 : upd H3 D2 (.lst ((ps.map nv).map (ltV p))) D2 = some (.lst (ps.map fun q => .bl (decide (p < q)))) := by
        rw [upd_same]
        congr 2
        simp [nv, ltV, Function.comp_def]
      generalize upd H3 D2 (.lst ((ps.map nv).map (ltV p))) = H4 at k4 e4 ⊢
      dsimp only
      refine rTupleU_lst e4 fun b hb => ?_
      have hE4 := k4.old _ _ hE3 List.not_mem_nil
      have nEb : E2 ≠ b := ne_of_none hE4 hb
      have hE5 : upd H4 b (.tup (ps.map fun q => .bl (decide (p < q)))) E2 = some (.lst us) := by rw [upd_ne nEb]; exact hE4
      refine ⟨us, by rw [hE5]; rfl, by omega, ?_⟩
      have k5 : Kp [E2] H3 (upd (upd H4 b (.tup (ps.map fun q => .bl (decide (p < q))))) E2 (.lst (us ++ [.ref b]))) := ((k4.mono (by simp)).new hb).set hE5 (.inl (.head _))
      refine ⟨?_, (((k3.trans k4).new hb).set hE5 (.inr hE))⟩
      rw [take_snoc hpi]
      exact Paired.snoc (Paired.mapP pr fun _ _ ⟨b', e, h⟩ => ⟨b', e, k5.tup _ _ h⟩) ⟨b, rfl, by rw [upd_ne nEb.symm, upd_same]⟩
    · rintro σ H3 ⟨v, us, rfl, hE3, pr, k3⟩
      rw [List.length_map, List.take_length] at pr
      dsimp only
      refine rTupleU_lst hE3 fun b hb => ⟨by omega, fun m hm => ?_⟩
      have kb : Kp [] H3 (upd H3 b (.tup us)) := (Kp.refl [] H3).new hb
      have eb : upd H3 b (.tup us) b = some (.tup us) := upd_same
      generalize upd H3 b (.tup us) = H5 at kb eb hm ⊢
      have k6 : Kp [] H5 (upd H5 m (.tup [.ref a, .ref b])) := (Kp.refl [] H5).new hm
      refine q m _ ⟨m, _, _, rfl, upd_same, ⟨a, _, rfl, k6.tup _ _ (kb.tup _ _ (k3.tup _ _ ea)), ?_⟩, ⟨b, _, rfl, k6.tup _ _ eb, ?_⟩⟩ (((k2.trans k3).trans kb).trans k6)
      · show Paired _ ((mk0 (cf z ps)).1.map cc) ((mk0 (cf z ps)).1.map fun c => V.str ⟨#[c]⟩)
        generalize (mk0 (cf z ps)).1 = l
        induction l with
        | nil => exact .nil
        | cons x l ih => exact .cons rfl ih
      · show Paired _ (ps.map fun p => ps.map fun q => decide (p < q)) us
        have bl : ∀ l : List Bool, Paired (fun k x => x = V.bl k) l (l.map V.bl) := fun l => by
          induction l with
          | nil => exact .nil
          | cons x l ih => exact .cons rfl ih
        have bl' : ∀ p : Nat, Paired (fun k x => x = V.bl k) (ps.map fun q => decide (p < q)) (ps.map fun q => V.bl (decide (p < q))) := fun p => by
          have := bl (ps.map fun q => decide (p < q))
          rw [List.map_map] at this
          exact this
        have gen : ∀ (l : List Nat) (us : List V), Paired (fun v p => ∃ b, v = .ref b ∧ H3 b = some (.tup (ps.map fun q => .bl (decide (p < q))))) us l → Paired (fun k x => ∃ t xs, x = V.ref t ∧ upd H5 m (.tup [.ref a, .ref b]) t = some (.tup xs) ∧ Paired (fun k x => x = V.bl k) k xs) (l.map fun p => ps.map fun q => decide (p < q)) us := fun l us h => by
          induction h with
          | nil => exact .nil
          | cons h _ ih =>
            obtain ⟨b', e, hb'⟩ := h
            exact .cons ⟨b', _, e, k6.tup _ _ (kb.tup _ _ hb'), bl' _⟩ ih
        exact gen ps us pr
end
def RF (sh pk pi : Addr) : List (Str × V) := [("sheet", .ref sh), ("known", .ref pk), ("kinds", .ref pi)]
structure RK (K : PySem.W.Frag) (C : Addr) : Prop where
  cls : Cls K C
  sheet : NoAttr K C "sheet"
  known : NoAttr K C "known"
  kinds : NoAttr K C "kinds"
structure RI (P : Program) (w : World) (C : Addr) (H : Hp) (x dx sh pk pi : Addr) (G : K1 → Option V) (J : K2 → Option V) (n m : Nat) : Prop where
  hx : H x = some (.ins C dx (RF sh pk pi))
  dk : DN (kKn P w) H pk G n
  di : DX (kKi P w) H pi J m
  kg : KG G J m
  np : pi ≠ pk
theorem RI.ne {P : Program} {w : World} {C : Addr} {H : Hp} {x dx sh pk pi : Addr} {G : K1 → Option V} {J : K2 → Option V} {n m : Nat} (I : RI P w C H x dx sh pk pi G J n m) : x ≠ pk ∧ x ≠ pi := by
  obtain ⟨φ, e⟩ := I.dk.ext
  obtain ⟨ψ, e'⟩ := I.di.ext
  exact ⟨fun z => (by have := I.hx; rw [z, e] at this; cases this), fun z => (by have := I.hx; rw [z, e'] at this; cases this)⟩
theorem RI.keep {P : Program} {w : World} {C : Addr} {H H' : Hp} {x dx sh pk pi : Addr} {G : K1 → Option V} {J : K2 → Option V} {n m : Nat} (I : RI P w C H x dx sh pk pi G J n m) (k : Kp [] H H') : RI P w C H' x dx sh pk pi G J n m := ⟨k.old _ _ I.hx (by simp), I.dk.keep k (by simp) (by simp), I.di.keep k (by simp) (by simp), I.kg, I.np⟩
def spRInit (P : Program) (w : World) (C : Addr) : Sp := fun vs H Q _ => ∃ (x dx : Addr), vs = [.ref x] ∧ H x = some (.ins C dx []) ∧ ∀ H' sh pk pi, RI P w C H' x dx sh pk pi (fun _ => none) (fun _ => none) 0 0 → H pk = none → H pi = none → Kp [x] H H' → Q .non H'
structure TRInit (K : PySem.W.Frag) (mg : Str → Option Value) (C CS fs : Addr) : Prop where
  rk : RK K C
  mkS : Mk K CS fs
  m_SaySheet : mg "SaySheet" = some (.ref CS)
section
variable {P : Program} {w : World} {K : PySem.W.Frag} {mg : Str → Option Value} {base : Heap}
abbrev s_Rd_init : Stmt := methN (top 6) 0
theorem sc_Rd_init : FnScope ["self"] ["self"] (defScope s_Rd_init) := ⟨rfl, rfl, rfl, by decide +kernel, rfl, by decide +kernel, by decide +kernel⟩
theorem ok_init {f C CS fs : Addr} {fd fds : FuncData} (F : Fun K "__init__" "Rounds.__init__" s_Rd_init f fd) (T : TRInit K mg C CS fs) (b_sinit : Binds K fds ["self"] []) (G_sinit : FnOk P w K mg base CX0 2 fs fds ["self"] (spSInit CS)) : FnOk P w K mg base CX0 4 f fd ["self"] (spRInit P w C) := by
  refine F.ok sc_Rd_init (fun vs H Q E h => ?_) (fun cdv A outer s H vs Q E hr h => ?_)
  · obtain ⟨x, dx, rfl, _⟩ := h
    rfl
  · obtain ⟨x, dx, rfl, hx, q⟩ := h
    have hu := hr.units
    have hsz : sizeLine = 16777216 := PySem.sizeLine_eq
    have rk := T.rk
    refine exQ (qpss_cons (qps_fld (K := K) rfl (qpv 0) (qpe_make0 T.mkS G_sinit (hr.mono (by decide)) rfl T.m_SaySheet b_sinit .nil pass0))
    (qpss_cons (qps_fld (K := K) rfl (qpv 0) (qpe_nnew (κ := kKn P w) rfl rfl))
    (qpss_one (qps_fld (K := K) rfl (qpv 0) (qpe_xnew (κ := kKi P w) rfl rfl))))) ?_
    simp!
    intro y dy hy hdy ne
    have k1 : Kp [] H (upd (upd H dy (.own y)) y (.ins CS dy [])) := ((Kp.refl [] H).new hdy).new (by rw [upd_ne ne.symm]; exact hy)
    have e1 : upd (upd H dy (.own y)) y (.ins CS dy []) y = _ := upd_same
    generalize upd (upd H dy (.own y)) y (.ins CS dy []) = H1 at k1 e1 ⊢
    refine ⟨y, dy, rfl, e1, fun H2 pr pn us kvs I2 _ _ hpr hpn k2 => ⟨rfl, ?_⟩⟩
    have k02 : Kp [] H H2 := kp_drop k1 k2 fun b hb => by rw [List.mem_singleton.mp hb]; exact hy
    have hx2 := k02.old _ _ hx List.not_mem_nil
    refine ⟨.ref x, rfl, x, C, dx, [], rfl, hx2, rk.cls, rk.sheet, by simp, ?_⟩
    have k3 : Kp [x] H (upd H2 x (.ins C dx (putF "sheet" (.ref y) []))) := (k02.mono (by simp)).trans (set_kp hx2 (.head _))
    have x3 : upd H2 x (.ins C dx (putF "sheet" (.ref y) [])) x = _ := upd_same
    generalize upd H2 x (.ins C dx (putF "sheet" (.ref y) [])) = H3 at k3 x3 ⊢
    simp!
    intro pk φ hpk dk
    have nxk : x ≠ pk := ne_of_none x3 hpk
    have k4 : Kp [x] H (upd H3 pk (.ext φ)) := k3.new hpk
    have x4 : upd H3 pk (.ext φ) x = _ := (upd_ne nxk).trans x3
    generalize upd H3 pk (.ext φ) = H4 at k4 x4 dk ⊢
    refine ⟨.ref x, rfl, x, C, dx, _, rfl, x4, rk.cls, rk.known, Nat.lt_of_le_of_lt (Nat.le_of_eq (rfl : List.length _ = 1)) (by decide), ?_⟩
    have k45 : Kp [x] H4 (upd H4 x (.ins C dx (putF "known" (.ref pk) (putF "sheet" (.ref y) [])))) := set_kp x4 (.head _)
    have x5 : upd H4 x (.ins C dx (putF "known" (.ref pk) (putF "sheet" (.ref y) []))) x = _ := upd_same
    have nS4 : ∀ b ∈ [x], ∃ o, H4 b = some o ∧ ∀ ob u, o ≠ .frz ob u := fun b hb => by rw [List.mem_singleton.mp hb]; exact ⟨_, x4, fun _ _ z => by cases z⟩
    have dk5 := dk.keep k45 (by simpa using nxk.symm) nS4
    generalize upd H4 x (.ins C dx (putF "known" (.ref pk) (putF "sheet" (.ref y) []))) = H5 at k45 x5 dk5 ⊢
    intro pi ψ hpi di
    have nxi : x ≠ pi := ne_of_none x5 hpi
    have npk : pi ≠ pk := by
      obtain ⟨φ5, e5⟩ := dk5.ext
      exact (ne_of_none e5 hpi).symm
    have k56 : Kp [] H5 (upd H5 pi (.ext ψ)) := (Kp.refl _ H5).new hpi
    have x6 : upd H5 pi (.ext ψ) x = _ := (upd_ne nxi).trans x5
    have dk6 := dk5.keep k56 (by simp) (by simp)
    generalize upd H5 pi (.ext ψ) = H6 at k56 x6 dk6 di ⊢
    refine ⟨.ref x, rfl, x, C, dx, _, rfl, x6, rk.cls, rk.kinds, Nat.lt_of_le_of_lt (Nat.le_of_eq (rfl : List.length _ = 2)) (by decide), ?_⟩
    have k67 : Kp [x] H6 (upd H6 x (.ins C dx (RF y pk pi))) := set_kp x6 (.head _)
    have nS6 : ∀ b ∈ [x], ∃ o, H6 b = some o ∧ ∀ ob u, o ≠ .frz ob u := fun b hb => by rw [List.mem_singleton.mp hb]; exact ⟨_, x6, fun _ _ z => by cases z⟩
    have k07 : Kp [x] H (upd H6 x (.ins C dx (RF y pk pi))) := (((k4.trans k45).trans (k56.mono (by simp))).trans k67)
    exact q _ y pk pi ⟨upd_same, dk6.keep k67 (by simpa using nxk.symm) nS6, di.keep k67 (by simpa using nxi.symm) nS6, ⟨fun _ _ e => by (cases e), fun _ _ _ e => by (cases e), fun _ _ e => by (cases e)⟩, npk⟩ (k3.free hpk) ((k4.trans k45).free hpi) k07
end
def cost (L : Nat) : Nat → Nat
  | 0 => 1
  | d + 1 => 1 + L * cost L d
def spKO (P : Program) (w : World) (C : Addr) (k : Nat) : Sp := fun vs H Q _ => ∃ (x dx sh pk pi c : Addr) (z : Str) (ps : List Nat) (d : Nat) (G : K1 → Option V) (J : K2 → Option V) (n m : Nat), vs = [.ref x, .ref c, .int (d : Int)] ∧ RI P w C H x dx sh pk pi G J n m ∧ CfgAt H c z ps ∧ (∀ p ∈ ps, p < z.length) ∧ d < k ∧ z.length ≤ 20 ∧ ps.length + d ≤ 20 ∧
  n + cost z.length d ≤ 1000000 ∧ m + cost z.length d ≤ 1000000 ∧ ∀ H' G' J' n' m' (i : Nat), RI P w C H' x dx sh pk pi G' J' n' m' → (∀ k v, G k = some v → G' k = some v) → (∀ k v, J k = some v → J' k = some v) → (∀ z' ps' e, d < e → G' (kk z' ps' e) = G (kk z' ps' e)) → G' (kk z ps d) = some (.int (i : Int)) → n' ≤ n + cost z.length d → m' ≤ m + cost z.length d → Kp [pk, pi] H H' → Q (.int (i : Int)) H'
def spFK (P : Program) (w : World) (C : Addr) (k : Nat) : Sp := fun vs H Q _ => ∃ (x dx sh pk pi c : Addr) (z : Str) (ps : List Nat) (d : Nat) (G : K1 → Option V) (J : K2 → Option V) (n m : Nat), vs = [.ref x, .ref c, .int ((d + 1 : Nat) : Int)] ∧ RI P w C H x dx sh pk pi G J n m ∧ CfgAt H c z ps ∧ (∀ p ∈ ps, p < z.length) ∧ d < k ∧ z.length ≤ 20 ∧ ps.length + (d + 1) ≤ 20 ∧
  n + z.length * cost z.length d ≤ 1000000 ∧ m + z.length * cost z.length d ≤ 1000000 ∧ ∀ H' G' J' n' m' p (is : List Nat), RI P w C H' x dx sh pk pi G' J' n' m' → (∀ k v, G k = some v → G' k = some v) → (∀ k v, J k = some v → J' k = some v) → (∀ z' ps' e, d < e → G' (kk z' ps' e) = G (kk z' ps' e)) → H p = none → H' p = some (.lst (is.map nv)) → is.length = z.length → (∀ q, q < z.length → G' (kk z (ps ++ [q]) d) = some (.int (is.getD q 0 : Nat))) → n' ≤ n + z.length * cost z.length d → m' ≤ m + z.length * cost z.length d → Kp [pk, pi] H H' → Q (.ref p) H'
theorem key_at {P : Program} {w : World} {H : Hp} {c b : Addr} {z : Str} {ps : List Nat} {d : Nat} (h : CfgAt H c z ps) (hb : H b = some (.tup [.ref c, .int (d : Int)])) : KN (kKn P w) H (kk z ps d) b := by
  obtain ⟨t, h1, h2⟩ := h
  have gen : ∀ l : List Nat, Paired (fun k x => x = kV k) (l.map ik) (l.map nv) := fun l => by
    induction l with
    | nil => exact .nil
    | cons p l ih => exact .cons rfl ih
  exact ⟨b, _, _, rfl, hb, ⟨c, _, _, rfl, h1, rfl, t, _, rfl, h2, gen ps⟩, rfl⟩
theorem cost_pos (L d : Nat) : 1 ≤ cost L d := by cases d <;> simp [cost]
structure TFK (K : PySem.W.Frag) (mg : Str → Option Value) (C fk fo : Addr) : Prop where
  cls : Cls K C
  d_kind_of : Meth K C "kind_of" fk
  m_one_place_more : mg "one_place_more" = some (.ref fo)
structure TKO (K : PySem.W.Frag) (mg : Str → Option Value) (C ff fp : Addr) : Prop where
  n_len : mg "len" = none
  n_tuple : mg "tuple" = none
  n_sorted : mg "sorted" = none
  n_set : mg "set" = none
  rk : RK K C
  cls : Cls K C
  d_further_kinds : Meth K C "further_kinds" ff
  m_plain_marks : mg "plain_marks" = some (.ref fp)
section
variable {P : Program} {w : World} {K : PySem.W.Frag} {mg : Str → Option Value} {base : Heap}
abbrev s_Rd_kind_of : Stmt := methN (top 6) 1
abbrev s_Rd_further_kinds : Stmt := methN (top 6) 2
theorem sc_Rd_kind_of : FnScope ["self", "chosen", "depth", "marks"] ["self", "chosen", "depth"] (defScope s_Rd_kind_of) := ⟨rfl, rfl, rfl, by decide +kernel, rfl, by decide +kernel, by decide +kernel⟩
theorem sc_Rd_further_kinds : FnScope ["self", "chosen", "depth"] ["self", "chosen", "depth"] (defScope s_Rd_further_kinds) := ⟨rfl, rfl, rfl, by decide +kernel, rfl, by decide +kernel, by decide +kernel⟩
theorem ok_further_kinds {k : Nat} {f C fk fo : Addr} {fd fdk fdo : FuncData} (F : Fun K "further_kinds" "Rounds.further_kinds" s_Rd_further_kinds f fd) (T : TFK K mg C fk fo) (b_kind_of : Binds K fdk ["self", "chosen", "depth"] []) (G_kind_of : FnOk P w K mg base CX0 (2 * k + 3) fk fdk ["self", "chosen", "depth"] (spKO P w C k))
    (F_one_place_more : Fun K "one_place_more" "one_place_more" s_one_place_more fo fdo) (b_one_place_more : Binds K fdo ["chosen"] []) (G_one_place_more : FnOk P w K mg base CX0 1 fo fdo ["chosen"] spOne) : FnOk P w K mg base CX0 (2 * k + 3 + 1) f fd ["self", "chosen", "depth"] (spFK P w C k) := by
  refine F.ok sc_Rd_further_kinds (fun vs H Q E h => ?_) (fun cdv A outer s H vs Q E hr h => ?_)
  · obtain ⟨x, dx, sh, pk, pi, c, z, ps, d, G, J, n, m, rfl, _⟩ := h
    rfl
  · obtain ⟨x, dx, sh, pk, pi, c, z, ps, d, G, J, n, m, rfl, I, ca, hp, dk, zl, pl, hn, hm, q⟩ := h
    have hu := hr.units
    have hsz : sizeLine = 16777216 := PySem.sizeLine_eq
    refine exQ (qpss_one (qps_ret (qpe_comp rfl (compOk_of (sc := defScope s_Rd_further_kinds) (N := ["self", "chosen", "depth"]) (Nc := ["further", "self", "depth"]) (js := [none, some 0, some 2]) (by decide +kernel)) (qpi_any (K := K) (qpe_call G_one_place_more (hr.mono (by omega)) rfl T.m_one_place_more F_one_place_more.kp b_one_place_more .nil pass0 (qpa_cons (qpv 1) qpa_nil)) rfl) (fun _ _ _ _ => (qpg_name (i := 0) (show List.Nodup [("further" : Str), ("self" : Str), ("depth" : Str)] from by decide +kernel) rfl (by first | exact Or.inl rfl | exact Or.inr rfl))) (fun _ _ _ _ => (qpe_meth (qpv 1) T.cls T.d_kind_of G_kind_of (hr.mono (by omega)) b_kind_of .nil pass0 (qpa_cons (qpv 0) (qpa_cons (qpe_op op_sub (qpv 2) qpe_int) qpa_nil))))))) ?_
    simp!
    refine ⟨c, z, ps, rfl, ca, by omega, by omega, fun l us H1 hl0 hl1 pr k1 => ?_⟩
    simp! [hl1]
    intro D hD
    have I1 := I.keep k1
    have k2 : Kp [] H1 (upd H1 D (.lst [])) := (Kp.refl [] H1).new hD
    have I2 := I1.keep k2
    obtain ⟨φ, ek⟩ := I1.dk.ext
    obtain ⟨ψ, ei⟩ := I1.di.ext
    have nDk : D ≠ pk := (ne_of_none ek hD).symm
    have nDi : D ≠ pi := (ne_of_none ei hD).symm
    have nlk : l ≠ pk := fun e => by rw [e, ek] at hl1; cases hl1
    have nli : l ≠ pi := fun e => by rw [e, ei] at hl1; cases hl1
    have nDl : D ≠ l := (ne_of_none hl1 hD).symm
    have ul : us.length = z.length := by have := Paired.length pr; rw [List.length_range] at this; exact this
    have hD0 : H D = none := k1.free hD
    obtain ⟨J0, hJ0⟩ : ∃ J0 : Nat → L2.St → Hp → Prop, ∀ i σ H', J0 i σ H' ↔ (∃ (v : Option V) (is : List Nat) (G1 : K1 → Option V) (J1 : K2 → Option V) (n1 m1 : Nat), σ = [v, some (.ref x), some (.int ((d + 1 : Nat) : Int))] ∧ RI P w C H' x dx sh pk pi G1 J1 n1 m1 ∧ (∀ k v, G k = some v → G1 k = some v) ∧ (∀ k v, J k = some v → J1 k = some v) ∧ (∀ z' ps' e, d < e → G1 (kk z' ps' e) = G (kk z' ps' e)) ∧ H' D = some (.lst (is.map nv)) ∧ is.length = i ∧ (∀ q, q < i → G1 (kk z (ps ++ [q]) d) = some (.int (is.getD q 0 : Nat))) ∧ n1 ≤ n + i * cost z.length d ∧ m1 ≤ m + i * cost z.length d ∧ H' l = some (.lst us) ∧ Kp [pk, pi] H1 H' ∧ Kp [pk, pi] H H') := ⟨_, fun _ _ _ => Iff.rfl⟩
    refine loop_list (xs := us) J0 ?_ ?_ ?_ ?_
    · exact (hJ0 _ _ _).mpr ⟨none, [], G, J, n, m, rfl, I2, fun _ _ h => h, fun _ _ h => h, fun _ _ _ _ => rfl, upd_same, rfl, fun q hq => absurd hq (Nat.not_lt_zero _), by omega, by omega, k2.old _ _ hl1 List.not_mem_nil, k2.mono (by simp), (k1.trans k2).mono (by simp)⟩
    · intro i σ H' _ h
      obtain ⟨_, _, _, _, _, _, _, _, _, _, _, _, _, _, _, _, h, _⟩ := (hJ0 _ _ _).mp h
      exact h
    · intro i u σ H3 hu' hj
      obtain ⟨v, is, G1, J1, n1, m1, rfl, I3, g1, j1, fr1, hD3, isl, gq, hn1, hm1, hl3, k13, k03⟩ := (hJ0 _ _ _).mp hj
      have hi : i < z.length := by have := (List.getElem?_eq_some_iff.mp hu').1; omega
      obtain ⟨a, rfl, ca3⟩ : ∃ a, u = .ref a ∧ CfgAt H3 a z (ps ++ [i]) := by
        have gen : ∀ {us : List V} {l : List Nat} {i : Nat} {u : V} {q : Nat}, Paired (fun v q => ∃ a, v = .ref a ∧ CfgAt H1 a z (ps ++ [q])) us l → us[i]? = some u → l[i]? = some q → ∃ a, u = .ref a ∧ CfgAt H1 a z (ps ++ [q]) := fun {us l i u q} h => by
          induction h generalizing i with
          | nil => intro e; simp at e
          | cons h _ ih =>
            intro e1 e2
            cases i with
            | zero => simp at e1 e2; subst e1; subst e2; exact h
            | succ i => exact ih (by simpa using e1) (by simpa using e2)
        obtain ⟨a, e, h⟩ := gen pr hu' (q := i) (by rw [List.getElem?_range hi])
        exact ⟨a, e, h.kp k13⟩
      have hc := Nat.mul_le_mul_right (cost z.length d) (show i + 1 ≤ z.length by omega)
      rw [Nat.add_mul, Nat.one_mul] at hc
      unfold tEmit
      simp!
      refine ⟨dx, _, I3.hx, rfl, x, dx, sh, pk, pi, a, z, ps ++ [i], d, G1, J1, n1, m1, by rw [show (((d + 1 : Nat) : Int) - 1) = (d : Int) by omega], I3, ca3, fun p hp' => ?_, dk, zl, by simp; omega, by omega, by omega, fun H4 G2 J2 n2 m2 j I4 g2 j2 fr2 gk hn2 hm2 k34 => ?_⟩
      · rcases List.mem_append.mp hp' with h | h
        · exact hp p h
        · rw [List.mem_singleton.mp h]; exact hi
      have hD4 := k34.old _ _ hD3 (by simp [nDk, nDi])
      have hl4 := k34.old _ _ hl3 (by simp [nlk, nli])
      have kD : Kp [D] H4 (upd H4 D (.lst (is.map nv ++ [.int (j : Int)]))) := (Kp.refl _ H4).set hD4 (.inl (.head _))
      have eD : upd H4 D (.lst (is.map nv ++ [.int (j : Int)])) D = some (.lst ((is ++ [j]).map nv)) := by rw [upd_same, List.map_append]; rfl
      have nS : ∀ b ∈ [D], ∃ o, H4 b = some o ∧ ∀ ob u, o ≠ .frz ob u := fun b hb => by rw [List.mem_singleton.mp hb]; exact ⟨_, hD4, fun _ _ z => by cases z⟩
      have nxD : x ≠ D := fun e => by have := I4.hx; rw [e, hD4] at this; cases this
      have I5 : RI P w C (upd H4 D (.lst (is.map nv ++ [.int (j : Int)]))) x dx sh pk pi G2 J2 n2 m2 := ⟨kD.old _ _ I4.hx (by simpa using nxD), I4.dk.keep kD (by simpa using nDk.symm) nS, I4.di.keep kD (by simpa using nDi.symm) nS, I4.kg, I4.np⟩
      refine ⟨_, by rw [hD4]; rfl, by rw [List.length_map]; omega, (hJ0 _ _ _).mpr ⟨_, is ++ [j], G2, J2, n2, m2, rfl, I5, fun k v h => g2 _ _ (g1 _ _ h), fun k v h => j2 _ _ (j1 _ _ h), fun z' ps' e he => (fr2 z' ps' e he).trans (fr1 z' ps' e he), eD, by simp [isl], fun q0 hq => ?_, by rw [Nat.add_mul, Nat.one_mul]; omega, by rw [Nat.add_mul, Nat.one_mul]; omega, kD.old _ _ hl4 (by simpa using nDl.symm), ?_, ?_⟩⟩
      · by_cases e : q0 < i
        · have : (is ++ [j]).getD q0 0 = is.getD q0 0 := by rw [List.getD_eq_getElem?_getD, List.getD_eq_getElem?_getD, List.getElem?_append_left (by omega)]
          rw [this]; exact g2 _ _ (gq q0 e)
        · have : q0 = i := by omega
          rw [this, show (is ++ [j]).getD i 0 = j by rw [← isl, List.getD_eq_getElem?_getD, List.getElem?_append_right (Nat.le_refl _)]; simp]
          exact gk
      · exact kpPut (k13.trans k34) hD4 (fun _ z => by cases z) (.inr hD)
      · exact kpPut (k03.trans k34) hD4 (fun _ z => by cases z) (.inr hD0)
    · intro σ H3 hj
      obtain ⟨v, is, G1, J1, n1, m1, rfl, I3, g1, j1, fr1, hD3, isl, gq, hn1, hm1, hl3, k13, k03⟩ := (hJ0 _ _ _).mp hj
      rw [ul] at isl gq hn1 hm1
      exact q H3 G1 J1 n1 m1 D is I3 g1 j1 fr1 hD0 hD3 isl gq hn1 hm1 k03
theorem ok_kind_of {k : Nat} {f C ff fp : Addr} {fd fdf fdp : FuncData} (F : Fun K "kind_of" "Rounds.kind_of" s_Rd_kind_of f fd) (T : TKO K mg C ff fp) (b_further_kinds : Binds K fdf ["self", "chosen", "depth"] []) (G_further_kinds : FnOk P w K mg base CX0 (2 * k + 3 + 1) ff fdf ["self", "chosen", "depth"] (spFK P w C k))
    (F_plain_marks : Fun K "plain_marks" "plain_marks" s_plain_marks fp fdp) (b_plain_marks : Binds K fdp ["chosen"] []) (G_plain_marks : FnOk P w K mg base CX0 1 fp fdp ["chosen"] (spPM P w)) : FnOk P w K mg base CX0 (2 * k + 3 + 1 + 1) f fd ["self", "chosen", "depth"] (spKO P w C (k + 1)) := by
  refine F.ok sc_Rd_kind_of (fun vs H Q E h => ?_) (fun cdv A outer s H vs Q E hr h => ?_)
  · obtain ⟨x, dx, sh, pk, pi, c, z, ps, d, G, J, n, m, rfl, _⟩ := h
    rfl
  · obtain ⟨x, dx, sh, pk, pi, c, z, ps, d, G, J, n, m, rfl, I, ca, hp, dk, zl, pl, hn, hm, q⟩ := h
    have hu := hr.units
    have hu8 : (A.deeper (PyProof.Rows.envOfC (Str.ofString "Rounds.kind_of") (defScope s_Rd_kind_of) s.heap.objs.size f cdv)).units + 1 + (kKn P w).I.lv < cLine := by
      show _ + 1 + 3 < _
      omega
    have hu9 : (A.deeper (PyProof.Rows.envOfC (Str.ofString "Rounds.kind_of") (defScope s_Rd_kind_of) s.heap.objs.size f cdv)).units + 1 + (kKi P w).I.lv < cLine := by
      show _ + 1 + 4 < _
      omega
    have hsz : sizeLine = 16777216 := PySem.sizeLine_eq
    have rk := T.rk
    refine exQ (qpss_mid (qps_if (qpt_cmp (qpc_nnotin (κ := kKn P w) rfl rfl hu8 (qpe_tup (qpa_cons (qpv 1) (qpa_cons (qpv 2) qpa_nil))) (qpe_fldK (K := K) rfl (qpv 0))) (by with_unfolding_all rfl)) (qpss_cons (qps_set (i := 3) sc_Rd_kind_of.nd rfl (by first | exact Or.inl rfl | exact Or.inr rfl) (qpe_ifExp (qpt_cmpR (op_eqU hu) (qpv 2) qpe_int (nomark _)) (qpe_call G_plain_marks (hr.mono (by omega)) rfl T.m_plain_marks F_plain_marks.kp b_plain_marks .nil pass0 (qpa_cons (qpv 1) qpa_nil)) (qpe_callTy call_tupleU (by rfl) T.n_tuple bt_tuple (qpa_cons (qpe_sortedSetI rfl hu rfl T.n_sorted rfl T.n_set (qpe_meth (qpv 0) T.cls T.d_further_kinds G_further_kinds (hr.mono (by omega)) b_further_kinds .nil pass0 (qpa_cons (qpv 1) (qpa_cons (qpv 2) qpa_nil)))) qpa_nil))))
    (qpss_one (qps_nput (κ := kKn P w) rfl rfl hu8 (qpe_fldK (K := K) rfl (qpv 0)) (qpe_tup (qpa_cons (qpv 1) (qpa_cons (qpv 2) qpa_nil))) (qpe_xset (κ := kKi P w) rfl rfl hu9 (qpe_fldK (K := K) rfl (qpv 0)) (qpe_tup (qpa_cons (qpv 2) (qpa_cons (qpv 3) qpa_nil))) (qpe_callB (call_lenX (κ := kKi P w) rfl rfl) (by rfl) T.n_len bt_len (qpa_cons (qpe_fldK (K := K) rfl (qpv 0)) qpa_nil)) ⟨rfl, rfl, rfl, rfl⟩) rfl))) qpss_nil)
    (qpss_one (qps_ret (qpe_nget (κ := kKn P w) rfl rfl hu8 (qpe_fldK (K := K) rfl (qpv 0)) (qpe_tup (qpa_cons (qpv 1) (qpa_cons (qpv 2) qpa_nil))) (fun _ _ => rfl))))) ?_
    have c1 := cost_pos z.length d
    obtain ⟨Jm, hJm⟩ : ∃ Jm : L2.St → Hp → Prop, ∀ σ H', Jm σ H' ↔ (∃ (v : Option V) (G' : K1 → Option V) (J' : K2 → Option V) (n' m' i : Nat), σ = [some (.ref x), some (.ref c), some (.int (d : Int)), v] ∧ RI P w C H' x dx sh pk pi G' J' n' m' ∧ (∀ k v, G k = some v → G' k = some v) ∧ (∀ k v, J k = some v → J' k = some v) ∧ (∀ z' ps' e, d < e → G' (kk z' ps' e) = G (kk z' ps' e)) ∧ G' (kk z ps d) = some (.int (i : Int)) ∧ n' ≤ n + cost z.length d ∧ m' ≤ m + cost z.length d ∧ Kp [pk, pi] H H') := ⟨_, fun _ _ => Iff.rfl⟩
    have fin : ∀ (H2 : Hp) (G2 : K1 → Option V) (J2 : K2 → Option V) (n2 m2 : Nat) (m0 : Addr) (kq : K2) (R : VK), RI P w C H2 x dx sh pk pi G2 J2 n2 m2 → (∀ k v, G k = some v → G2 k = some v) → (∀ k v, J k = some v → J2 k = some v) → (∀ z' ps' e, d < e → G2 (kk z' ps' e) = G (kk z' ps' e)) → G2 (kk z ps d) = none → n2 + 1 ≤ n + cost z.length d → m2 + 1 ≤ m + cost z.length d → Kp [pk, pi] H H2 →
        (∀ H3 b, Kp [] H2 H3 → H3 b = some (.tup [.int (d : Int), .ref m0]) → KN (kKi P w) H3 kq b) → (∀ (J' : K2 → Option V) (i : Nat), (∀ k v, J2 k = some v → J' k = some v) → J' kq = some (.int (i : Int)) → Kd G2 J' z ps d i) →
        sNPut (kKn P w) (tFld K (tVar 0) (Str.ofString "known")) (tTup (tCons (tVar 1) (tCons (tVar 2) tNil))) (tXSet (kKi P w) (tFld K (tVar 0) (Str.ofString "kinds")) (tTup (tCons (tVar 2) (tCons (tVar 3) tNil))) (tCB (rLenX (kKi P w)) (tCons (tFld K (tVar 0) (Str.ofString "kinds")) tNil))) { nx := Jm, rt := R } [some (.ref x), some (.ref c), some (.int (d : Int)), some (.ref m0)] H2 := by
      intro H2 G2 J2 n2 m2 m0 kq R I2 g2 j2 fr2 hno hn2 hm2 k02 hkq hkd
      have n2z : n2 < sizeLine := by omega
      have both : ∀ (H5 : Hp) (J4 : K2 → Option V) (m4 i : Nat) (ψ : Heap → Prop), H5 x = some (.ins C dx (RF sh pk pi)) → DX (kKi P w) H5 pi J4 m4 → (∃ φ, H5 pk = some (.ext φ)) → pi ≠ pk → x ≠ pk → Kp [pk, pi] H H5 → m4 ≤ m2 + 1 → (∀ k v, J2 k = some v → J4 k = some v) → KG (fun j => if j = kk z ps d then some (.int (i : Int)) else G2 j) J4 m4 → DN (kKn P w) (upd H5 pk (.ext ψ)) pk (fun j => if j = kk z ps d then some (.int (i : Int)) else G2 j) (n2 + 1) →
          Jm [some (.ref x), some (.ref c), some (.int (d : Int)), some (.ref m0)] (upd H5 pk (.ext ψ)) := by
        intro H5 J4 m4 i ψ hx5 di5 hpk5 npi nx k05 hm4 j4 kg dn
        obtain ⟨φ5, e5⟩ := hpk5
        have kp5 : Kp [pk] H5 (upd H5 pk (.ext ψ)) := kpPut (Kp.refl _ H5) e5 (fun _ z => by cases z) (.inl (by simp))
        have nS : ∀ b ∈ [pk], ∃ o, H5 b = some o ∧ ∀ ob u, o ≠ .frz ob u := fun b hb => by rw [List.mem_singleton.mp hb]; exact ⟨_, e5, fun _ _ z => by cases z⟩
        exact (hJm _ _).mpr ⟨_, _, J4, n2 + 1, m4, i, rfl, ⟨kp5.old _ _ hx5 (by simpa using nx), dn, di5.keep kp5 (by simpa using npi) nS, kg, npi⟩, fun k v h => by
          show (if k = kk z ps d then _ else G2 k) = some v
          rw [if_neg fun e => by rw [e] at h; rw [g2 _ _ h] at hno; cases hno]; exact g2 _ _ h, fun k v h => j4 _ _ (j2 _ _ h), fun z' ps' e he => (if_neg fun q => (by have := (kk_inj q).2.2; omega)).trans (fr2 z' ps' e he), if_pos rfl, by omega, by omega, k05.trans (kp5.mono (by simp))⟩
      have npi := I2.np
      have nxk := I2.ne.1
      simp!
      refine fld0 rfl I2.hx rk.cls rk.kinds rfl ⟨pi, rfl, _, _, I2.di, by omega, fun b hb => ?_⟩
      have kb : Kp [] H2 (upd H2 b (.tup [.int (d : Int), .ref m0])) := (Kp.refl [] H2).new hb
      have eb : upd H2 b (.tup [.int (d : Int), .ref m0]) b = some (.tup [.int (d : Int), .ref m0]) := upd_same
      have I3 := I2.keep kb
      generalize upd H2 b (.tup [.int (d : Int), .ref m0]) = H3 at kb eb I3 ⊢
      have k03 : Kp [pk, pi] H H3 := k02.trans (kb.mono (by simp))
      have ca3 := ca.kp k03
      refine fld0 rfl I3.hx rk.cls rk.kinds rfl ⟨pi, _, _, rfl, I3.di, by omega, ?_⟩
      refine ⟨_, _, I3.di, by omega, kq, hkq _ b kb eb, fun v hv => ?_, fun hv φ dx' => ?_⟩
      · obtain ⟨i, hi, rfl⟩ := I2.kg.ki _ _ hv
        refine fld0 rfl I3.hx rk.cls rk.known rfl ⟨by omega, fun b2 hb2 => ?_⟩
        have kb2 : Kp [] H3 (upd H3 b2 (.tup [.ref c, .int (d : Int)])) := (Kp.refl [] H3).new hb2
        have I4 := I3.keep kb2
        exact ⟨pk, rfl, G2, n2, I4.dk, n2z, kk z ps d, key_at (ca3.kp kb2) upd_same, fun ψ dn => both _ J2 m2 i ψ I4.hx I4.di I4.dk.ext npi nxk (k03.trans (kb2.mono (by simp))) (by omega) (fun _ _ h => h) (I2.kg.put hno (Nat.le_refl _) hi (fun j => by
          by_cases e : j = kq
          · rw [if_pos e, e, hv]
          · rw [if_neg e]) (.inl hv) (hkd J2 i (fun _ _ h => h) hv)) dn⟩
      · obtain ⟨ψ3, e3⟩ := I3.di.ext
        have kp4 : Kp [pi] H3 (upd H3 pi (.ext φ)) := kpPut (Kp.refl _ H3) e3 (fun _ z => by cases z) (.inl (by simp))
        have nS : ∀ b ∈ [pi], ∃ o, H3 b = some o ∧ ∀ ob u, o ≠ .frz ob u := fun b hb => by rw [List.mem_singleton.mp hb]; exact ⟨_, e3, fun _ _ z => by cases z⟩
        have x4 := kp4.old _ _ I3.hx (by simpa using I3.ne.2)
        have dk4 := I3.dk.keep kp4 (by simpa using npi.symm) nS
        generalize upd H3 pi (.ext φ) = H4 at kp4 dx' x4 dk4 ⊢
        have k04 : Kp [pk, pi] H H4 := k03.trans (kp4.mono (by simp))
        refine fld0 rfl x4 rk.cls rk.known rfl ⟨by omega, fun b2 hb2 => ?_⟩
        have kb2 : Kp [] H4 (upd H4 b2 (.tup [.ref c, .int (d : Int)])) := (Kp.refl [] H4).new hb2
        have dk5 := dk4.keep kb2 (by simp) (by simp)
        exact ⟨pk, rfl, G2, n2, dk5, n2z, kk z ps d, key_at ((ca.kp k04).kp kb2) upd_same, fun ψ dn => both _ _ (m2 + 1) m2 ψ (kb2.old _ _ x4 List.not_mem_nil) (dx'.keep kb2 (by simp) (by simp)) dk5.ext npi nxk (k04.trans (kb2.mono (by simp))) (Nat.le_refl _) (fun k v h => by
          show (if k = kq then _ else J2 k) = some v
          rw [if_neg fun e => by rw [e, hv] at h; cases h]; exact h) (I2.kg.put hno (by omega) (by omega) (fun _ => rfl) (.inr ⟨hv, rfl⟩) (hkd _ m2 (fun k v h => by
          show (if k = kq then _ else J2 k) = some v
          rw [if_neg fun e => by rw [e, hv] at h; cases h]; exact h) (if_pos rfl))) dn⟩
    refine ⟨Jm, ?_, ?_⟩
    · simp!
      refine ⟨by omega, fun b hb => ?_⟩
      have kb : Kp [] H (upd H b (.tup [.ref c, .int (d : Int)])) := (Kp.refl [] H).new hb
      have eb : upd H b (.tup [.ref c, .int (d : Int)]) b = some (.tup [.ref c, .int (d : Int)]) := upd_same
      have Ib := I.keep kb
      generalize upd H b (.tup [.ref c, .int (d : Int)]) = H1 at kb eb Ib ⊢
      have ca1 := ca.kp kb
      have k01 : Kp [pk, pi] H H1 := kb.mono (by simp)
      refine fld0 rfl Ib.hx rk.cls rk.known rfl ⟨pk, rfl, G, n, Ib.dk, kk z ps d, key_at ca1 eb, ite2 (fun e => ?_) (fun e => ?_)⟩
      · have hno : G (kk z ps d) = none := by
          cases h : G (kk z ps d) with
          | none => rfl
          | some v => rw [h] at e; cases e
        refine ite2 (fun hd => ?_) (fun hd => ?_)
        · have hd : d = 0 := by omega
          subst hd
          refine ⟨c, z, ps, rfl, ca1, by omega, by omega, hp, fun m0 H2 ab k2 => ?_⟩
          have this := fin H2 G J n m m0 (kM0 z ps) Q (Ib.keep k2) (fun _ _ h => h) (fun _ _ h => h) (fun _ _ _ _ => rfl) hno (by simp [cost]) (by simp [cost]) (k01.trans (k2.mono (by simp))) (fun H3 b3 k3 hb3 => by
            unfold kM0
            exact ⟨rfl, b3, _, _, rfl, hb3, rfl, (aMk P w).keep (TKp.of k3 (by simp)) ab⟩) (fun J' i hJ hi => hi)
          revert this
          simp!
          exact fun h => h
        · obtain ⟨d, rfl⟩ : ∃ e, d = e + 1 := ⟨d - 1, by omega⟩
          have hc : cost z.length (d + 1) = 1 + z.length * cost z.length d := rfl
          refine ⟨dx, _, Ib.hx, rfl, x, dx, sh, pk, pi, c, z, ps, d, G, J, n, m, rfl, Ib, ca1, hp, by omega, zl, pl, by omega, by omega, fun H2 G2 J2 n2 m2 l is I2 g2 j2 fr2 hl0 hl2 isl gq hn2 hm2 k2 => ?_⟩
          have hl2' : H2 l = some (.lst ((is.map fun n : Nat => (n : Int)).map V.int)) := by rw [hl2, List.map_map]; rfl
          refine ⟨_, hl2', by rw [List.length_map]; omega, fun p ms hp0 nd me pw => ?_⟩
          have k3 : Kp [] H2 (upd H2 p (.lst (ms.map V.int))) := (Kp.refl [] H2).new hp0
          have e3 : upd H2 p (.lst (ms.map V.int)) p = some (.lst (ms.map V.int)) := upd_same
          generalize upd H2 p (.lst (ms.map V.int)) = H3 at k3 e3 ⊢
          refine rTupleU_lst e3 fun m0 hm0 => ?_
          have k4 : Kp [] H3 (upd H3 m0 (.tup (ms.map V.int))) := (Kp.refl [] H3).new hm0
          have e4 : upd H3 m0 (.tup (ms.map V.int)) m0 = some (.tup (ms.map V.int)) := upd_same
          generalize upd H3 m0 (.tup (ms.map V.int)) = H4 at k4 e4 ⊢
          have k24 := k3.trans k4
          have me' : ∀ y, y ∈ ms ↔ ∃ q0, q0 < z.length ∧ y = (is.getD q0 0 : Nat) := fun y => by
            rw [me, List.mem_map]
            constructor
            · rintro ⟨a, ha, rfl⟩
              obtain ⟨i, hi, e⟩ := List.mem_iff_getElem.mp ha
              exact ⟨i, by omega, by rw [List.getD_eq_getElem?_getD, List.getElem?_eq_getElem hi]; simp [e]⟩
            · rintro ⟨q0, hq, rfl⟩
              exact ⟨is.getD q0 0, by rw [List.getD_eq_getElem?_getD, List.getElem?_eq_getElem (by omega)]; exact List.getElem_mem _, rfl⟩
          have this := fin H4 G2 J2 n2 m2 m0 (kMs d ms) Q (I2.keep k24) g2 j2 (fun z' ps' e he => fr2 z' ps' e (by omega)) ((fr2 z ps (d + 1) (by omega)).trans hno) (by omega) (by omega) ((k01.trans k2).trans (k24.mono (by simp))) (fun H5 b5 k5 hb5 => by
            unfold kMs
            have gen : ∀ l : List Int, Paired (fun k x => x = kV k) (l.map (Sum.inl : Int → L2.Key)) (l.map V.int) := fun l => by
              induction l with
              | nil => exact .nil
              | cons p l ih => exact .cons rfl ih
            exact ⟨decide_eq_false fun z => (by injection z with z; omega), b5, _, _, rfl, hb5, rfl, m0, _, rfl, k5.tup _ _ e4, gen ms⟩) (fun J' i hJ hi => ⟨ms, nd, pw, hi, fun p0 hp0 => ⟨is.getD p0 0, gq p0 hp0, (me' _).mpr ⟨p0, hp0, rfl⟩⟩, fun y hy => by
            obtain ⟨q0, hq, rfl⟩ := (me' y).mp hy
            exact ⟨q0, hq, gq q0 hq⟩⟩)
          revert this
          simp!
          exact fun h => h
      · obtain ⟨v, hv⟩ : ∃ v, G (kk z ps d) = some v := by
          cases h : G (kk z ps d) with
          | none => rw [h] at e; exact absurd rfl e
          | some v => exact ⟨v, rfl⟩
        obtain ⟨_, _, _, i, _, rfl, _⟩ := I.kg.kn _ _ hv
        exact (hJm _ _).mpr ⟨none, G, J, n, m, i, rfl, Ib, fun _ _ h => h, fun _ _ h => h, fun _ _ _ _ => rfl, hv, by omega, by omega, k01⟩
    · intro σ H' hj
      obtain ⟨v, G', J', n', m', i, rfl, I', g', j', fr', gk, hn', hm', k'⟩ := (hJm _ _).mp hj
      simp!
      refine fld0 rfl I'.hx rk.cls rk.known rfl ⟨by omega, fun b hb => ?_⟩
      have kb : Kp [] H' (upd H' b (.tup [.ref c, .int (d : Int)])) := (Kp.refl [] H').new hb
      have Ib := I'.keep kb
      exact ⟨pk, rfl, G', n', Ib.dk, kk z ps d, key_at ((ca.kp k').kp kb) upd_same, _, gk, q _ G' J' n' m' i Ib g' j' fr' gk hn' hm' (k'.trans (kb.mono (by simp)))⟩
end
section
variable {P : Program} {w : World} {K : PySem.W.Frag} {mg : Str → Option Value} {base : Heap}
theorem ok_kinds {C fk ff fp fo : Addr} {fdk fdf fdp fdo : FuncData} (F_kind_of : Fun K "kind_of" "Rounds.kind_of" s_Rd_kind_of fk fdk) (F_further_kinds : Fun K "further_kinds" "Rounds.further_kinds" s_Rd_further_kinds ff fdf) (b_kind_of : Binds K fdk ["self", "chosen", "depth"] []) (b_further_kinds : Binds K fdf ["self", "chosen", "depth"] []) (Tk : TKO K mg C ff fp) (Tf : TFK K mg C fk fo)
    (F_plain_marks : Fun K "plain_marks" "plain_marks" s_plain_marks fp fdp) (b_plain_marks : Binds K fdp ["chosen"] []) (G_plain_marks : FnOk P w K mg base CX0 1 fp fdp ["chosen"] (spPM P w)) (F_one_place_more : Fun K "one_place_more" "one_place_more" s_one_place_more fo fdo) (b_one_place_more : Binds K fdo ["chosen"] []) (G_one_place_more : FnOk P w K mg base CX0 1 fo fdo ["chosen"] spOne) :
    ∀ k : Nat, FnOk P w K mg base CX0 (2 * k + 3) fk fdk ["self", "chosen", "depth"] (spKO P w C k)
  | 0 => F_kind_of.ok (k := 2) sc_Rd_kind_of (fun vs H Q E h => by obtain ⟨_, _, _, _, _, _, _, _, _, _, _, _, _, _, _, _, _, h, _⟩ := h; exact absurd h (Nat.not_lt_zero _)) (fun cdv A outer s H vs Q E hr h => by obtain ⟨_, _, _, _, _, _, _, _, _, _, _, _, _, _, _, _, _, h, _⟩ := h; exact absurd h (Nat.not_lt_zero _))
  | k + 1 => ok_kind_of F_kind_of Tk b_further_kinds (ok_further_kinds F_further_kinds Tf b_kind_of (ok_kinds F_kind_of F_further_kinds b_kind_of b_further_kinds Tk Tf F_plain_marks b_plain_marks G_plain_marks F_one_place_more b_one_place_more G_one_place_more k) F_one_place_more b_one_place_more G_one_place_more) F_plain_marks b_plain_marks G_plain_marks
end
def Al (d : Nat) (a b : Str) : Prop := Eqv d (cf a []) (cf b [])
def spAl : Sp := fun vs H Q _ => ∃ (a b : Str) (d : Nat), vs = [.str a, .str b, .int (d : Int)] ∧ a.length ≤ 20 ∧ b.length ≤ 20 ∧ d ≤ 3 ∧ ∀ (c : Bool) H', (c = true ↔ Al d a b) → Kp [] H H' → Q (.bl c) H'
structure TAl (K : PySem.W.Frag) (mg : Str → Option Value) (C fi fk : Addr) : Prop where
  mkR : Mk K C fi
  m_Rounds : mg "Rounds" = some (.ref C)
  cls : Cls K C
  d_kind_of : Meth K C "kind_of" fk
theorem cost3 {L d : Nat} (hL : L ≤ 20) (hd : d ≤ 3) : cost L d ≤ 10000 := by
  have h1 : cost L 1 ≤ 21 := by simp only [cost]; omega
  have h2 : cost L 2 ≤ 421 := by
    have : L * cost L 1 ≤ 20 * 21 := Nat.mul_le_mul hL h1
    show 1 + L * cost L 1 ≤ 421
    omega
  have h3 : cost L 3 ≤ 8421 := by
    have : L * cost L 2 ≤ 20 * 421 := Nat.mul_le_mul hL h2
    show 1 + L * cost L 2 ≤ 8421
    omega
  rcases (by omega : d = 0 ∨ d = 1 ∨ d = 2 ∨ d = 3) with rfl | rfl | rfl | rfl
  · simp [cost]
  · omega
  · omega
  · omega
section
variable {P : Program} {w : World} {K : PySem.W.Frag} {mg : Str → Option Value} {base : Heap}
abbrev s_alike_up_to : Stmt := top 5
theorem sc_alike_up_to : FnScope ["one", "other", "depth", "rounds"] ["one", "other", "depth"] (defScope s_alike_up_to) := ⟨rfl, rfl, rfl, by decide +kernel, rfl, by decide +kernel, by decide +kernel⟩
theorem ok_alike_up_to {f C fi fk : Addr} {fd fdi fdk : FuncData} (F : Fun K "alike_up_to" "alike_up_to" s_alike_up_to f fd) (T : TAl K mg C fi fk) (b_init : Binds K fdi ["self"] []) (G_init : FnOk P w K mg base CX0 4 fi fdi ["self"] (spRInit P w C)) (b_kind_of : Binds K fdk ["self", "chosen", "depth"] []) (G_kind_of : FnOk P w K mg base CX0 11 fk fdk ["self", "chosen", "depth"] (spKO P w C 4)) : FnOk P w K mg base CX0 12 f fd ["one", "other", "depth"] spAl := by
  refine F.ok sc_alike_up_to (fun vs H Q E h => ?_) (fun cdv A outer s H vs Q E hr h => ?_)
  · obtain ⟨a, b, d, rfl, _⟩ := h
    rfl
  · obtain ⟨a, b, d, rfl, al, bl, hd, q⟩ := h
    have hu := hr.units
    have hsz : sizeLine = 16777216 := PySem.sizeLine_eq
    have ca := cost3 al hd
    have cb := cost3 bl hd
    refine exQ (qpss_cons (qps_set (i := 3) sc_alike_up_to.nd rfl (by first | exact Or.inl rfl | exact Or.inr rfl) (qpe_make0 T.mkR G_init (hr.mono (by omega)) rfl T.m_Rounds b_init .nil pass0))
    (qpss_one (qps_ret (qpe_cmpR (op_eqU hu) (qpe_meth (qpv 3) T.cls T.d_kind_of G_kind_of (hr.mono (by omega)) b_kind_of .nil pass0 (qpa_cons (qpe_tup (qpa_cons (qpv 0) (qpa_cons (qpe_tup qpa_nil) qpa_nil))) (qpa_cons (qpv 2) qpa_nil))) (qpe_meth (qpv 3) T.cls T.d_kind_of G_kind_of (hr.mono (by omega)) b_kind_of .nil pass0 (qpa_cons (qpe_tup (qpa_cons (qpv 1) (qpa_cons (qpe_tup qpa_nil) qpa_nil))) (qpa_cons (qpv 2) qpa_nil))) (nomark _))))) ?_
    simp!
    intro x dx hx hdx ne
    have k1 : Kp [] H (upd (upd H dx (.own x)) x (.ins C dx [])) := ((Kp.refl [] H).new hdx).new (by rw [upd_ne ne.symm]; exact hx)
    have e1 : upd (upd H dx (.own x)) x (.ins C dx []) x = _ := upd_same
    generalize upd (upd H dx (.own x)) x (.ins C dx []) = H1 at k1 e1 ⊢
    refine ⟨x, dx, rfl, e1, fun H2 sh pk pi I2 hpk hpi k2 => ⟨rfl, ?_⟩⟩
    have k02 : Kp [] H H2 := kp_drop k1 k2 fun b hb => by rw [List.mem_singleton.mp hb]; exact hx
    have pk0 : H pk = none := k1.free hpk
    have pi0 : H pi = none := k1.free hpi
    refine ⟨dx, _, I2.hx, rfl, by rw [hsz]; decide, fun t ht => ⟨by omega, fun c hc => ?_⟩⟩
    have k3 : Kp [] H2 (upd (upd H2 t (.tup [])) c (.tup [.str a, .ref t])) := ((Kp.refl [] H2).new ht).new hc
    have ca3 : CfgAt (upd (upd H2 t (.tup [])) c (.tup [.str a, .ref t])) c a [] := ⟨t, upd_same, by rw [upd_ne (ne_of_none upd_same hc), upd_same]; rfl⟩
    have I3 := I2.keep k3
    generalize upd (upd H2 t (.tup [])) c (.tup [.str a, .ref t]) = H3 at k3 ca3 I3 ⊢
    refine ⟨x, dx, sh, pk, pi, c, a, [], d, _, _, 0, 0, rfl, I3, ca3, by simp, by omega, al, by simp; omega, by omega, by omega, fun H4 G4 J4 n4 m4 i I4 g4 j4 fr4 gk4 hn4 hm4 k4 => ?_⟩
    refine ⟨dx, _, I4.hx, rfl, by rw [hsz]; decide, fun t2 ht2 => ⟨by omega, fun c2 hc2 => ?_⟩⟩
    have k5 : Kp [] H4 (upd (upd H4 t2 (.tup [])) c2 (.tup [.str b, .ref t2])) := ((Kp.refl [] H4).new ht2).new hc2
    have ca5 : CfgAt (upd (upd H4 t2 (.tup [])) c2 (.tup [.str b, .ref t2])) c2 b [] := ⟨t2, upd_same, by rw [upd_ne (ne_of_none upd_same hc2), upd_same]; rfl⟩
    have I5 := I4.keep k5
    generalize upd (upd H4 t2 (.tup [])) c2 (.tup [.str b, .ref t2]) = H5 at k5 ca5 I5 ⊢
    refine ⟨x, dx, sh, pk, pi, c2, b, [], d, G4, J4, n4, m4, rfl, I5, ca5, by simp, by omega, bl, by simp; omega, by omega, by omega, fun H6 G6 J6 n6 m6 j I6 g6 j6 fr6 gk6 hn6 hm6 k6 => ?_⟩
    have k26 : Kp [pk, pi] H2 H6 := ((k3.mono (by simp)).trans k4).trans ((k5.mono (by simp)).trans k6)
    have k06 : Kp [] H H6 := kp_drop k02 k26 fun b hb => by
      rcases List.mem_cons.mp hb with h | h
      · rw [h]; exact pk0
      · rw [List.mem_singleton.mp h]; exact pi0
    have key := I6.kg.eqv (g6 _ _ gk4) gk6
    refine q (decide ((i : Int) = (j : Int))) H6 ?_ k06
    rw [decide_eq_true_eq]
    exact ⟨fun h => key.mp (Int.ofNat.inj h), fun h => congrArg _ (key.mpr h)⟩
end
structure SB (H : Hp) (b : Addr) (H' : Hp) : Prop where
  kp : Kp [b] H H'
  bx : ∃ o, H' b = some o ∧ BoxO o
theorem SB.take {H H' : Hp} {b : Addr} {o1 : HO} (h : SB H b H') (ho1 : BoxO o1) : SB H b (upd H' b o1) := by
  obtain ⟨kp, o, hb, ho⟩ := h
  obtain ⟨xs, rfl⟩ := ho.lst
  exact ⟨kp.set hb (.inl (.head _)), o1, upd_same, ho1⟩
theorem SB.new {H H' : Hp} {b p : Addr} {x : HO} (h : SB H b H') (hp : H' p = none) : SB H b (upd H' p x) := by
  obtain ⟨kp, o, hb, ho⟩ := h
  exact ⟨kp.new hp, o, by rw [upd_ne (ne_of_none hb hp)]; exact hb, ho⟩
theorem SB.keep {H H' H2 : Hp} {b : Addr} (h : SB H b H') (k : Kp [] H' H2) : SB H b H2 := by
  obtain ⟨kp, o, hb, ho⟩ := h
  exact ⟨kp.trans (k.mono (by simp)), o, k.old _ _ hb List.not_mem_nil, ho⟩
theorem SB.trans {H H' H2 : Hp} {b : Addr} (h : SB H b H') (k : SB H' b H2) : SB H b H2 := ⟨h.kp.trans k.kp, k.bx⟩
theorem SB.tq {H H' : Hp} {b : Addr} (h : SB H b H') {w : Int} (w0 : 0 < w) (w1 : w < 1073741824) {Q : VK} {E : XK} (q : ∀ d H2, 0 ≤ d → d < w → SB H b H2 → Kp [b] H' H2 → Q (.int d) H2) : spTake [.ref b, .int w] H' Q E := by
  obtain ⟨o, hb, ho⟩ := h.bx
  refine ⟨b, w, o, rfl, hb, ho, w0, w1, fun d o' d0 d1 ho' => q d _ d0 d1 (h.take ho') ?_⟩
  obtain ⟨xs, rfl⟩ := ho.lst
  exact (Kp.refl [b] H').set hb (.inl (.head _))
theorem SB.ne {H H' : Hp} {b p : Addr} (h : SB H b H') (hp : H' p = none) : p ≠ b := by
  obtain ⟨o, hb, _⟩ := h.bx
  exact (ne_of_none hb hp).symm
def spText : Sp := fun vs H Q _ => ∃ (b : Addr) (z : Str) (m : Nat) (o : HO), vs = [.ref b, .str z, .int (m : Int)] ∧ H b = some o ∧ BoxO o ∧ 1 ≤ z.length ∧ z.length ≤ 1000 ∧ m ≤ 1000 ∧
  ∀ u o' H', u.length ≤ m → (∀ c ∈ sg u, c ∈ sg z) → BoxO o' → H' b = some o' → Kp [b] H H' → Q (.str u) H'
theorem ones_in {z : Str} : ∀ {xs : List V}, (∀ x ∈ xs, ∃ c : Nat, x = .str ⟨#[c]⟩ ∧ c ∈ sg z) → ∃ ys : List Str, xs = ys.map V.str ∧ (∀ y ∈ ys, y.length = 1) ∧ (∀ c ∈ (ys.map sg).flatten, c ∈ sg z)
  | [], _ => ⟨[], rfl, (fun _ h => nomatch h), by simp⟩
  | x :: xs, h => by
    obtain ⟨c, rfl, hc⟩ := h x (.head _)
    obtain ⟨ys, rfl, h1, h2⟩ := ones_in fun y hy => h y (.tail _ hy)
    refine ⟨⟨#[c]⟩ :: ys, rfl, fun y hy => ?_, fun d hd => ?_⟩
    · rcases List.mem_cons.mp hy with rfl | hy
      · rfl
      · exact h1 y hy
    · rw [List.map_cons, List.flatten_cons, List.mem_append] at hd
      rcases hd with hd | hd
      · have : d = c := by simpa [sg] using hd
        rw [this]; exact hc
      · exact h2 d hd
structure TTx (mg : Str → Option Value) (ft : Addr) : Prop where
  n_len : mg "len" = none
  n_range : mg "range" = none
  m__law_take : mg "_law_take" = some (.ref ft)
theorem BoxO.lst7 {o : HO} (h : BoxO o) : ∃ xs, o = .lst xs := by obtain ⟨c, s, e, _⟩ := h; exact ⟨_, e⟩
section
variable {P : Program} {w : World} {K : PySem.W.Frag} {mg : Str → Option Value} {base : Heap}
abbrev s__law_text : Stmt := top 13
theorem sc__law_text : FnScope ["_law_box_here", "_law_letters_here", "_law_most"] ["_law_box_here", "_law_letters_here", "_law_most"] (defScope s__law_text) := ⟨rfl, rfl, rfl, by decide +kernel, rfl, by decide +kernel, by decide +kernel⟩
theorem ok__law_text {f ft : Addr} {fd fdt : FuncData} (F : Fun K "_law_text" "_law_text" s__law_text f fd) (T : TTx mg ft) (F__law_take : Fun K "_law_take" "_law_take" s__law_take ft fdt) (b__law_take : Binds K fdt ["_law_box_here", "_law_wide"] [])
    (G__law_take : FnOk P w K mg base CX0 1 ft fdt ["_law_box_here", "_law_wide"] spTake) : FnOk P w K mg base CX0 2 f fd ["_law_box_here", "_law_letters_here", "_law_most"] spText := by
  refine F.ok sc__law_text (fun vs H Q E h => ?_) (fun cdv A outer s H vs Q E hr h => ?_)
  · obtain ⟨b, z, m, o, rfl, _⟩ := h
    rfl
  · obtain ⟨b, z, m, o, rfl, hb, ho, z1, z2, hm, k⟩ := h
    have hu := hr.units
    refine ⟨_, (QSs.h (qpss_one (qps_ret (qpe_bmS PySem.F.slot_str_join PySem.F.type_str_join mt_joinU qpe_str (qpa_cons (qpe_comp rfl (compOk_of (sc := defScope s__law_text) (N := ["_law_box_here", "_law_letters_here", "_law_most"]) (Nc := ["_law_k", "_law_letters_here", "_law_box_here"]) (js := [none, some 1, some 0]) (by decide +kernel)) (qpi_range1 rfl T.n_range (qpa_cons (qpe_call G__law_take (hr.mono (by decide)) rfl T.m__law_take F__law_take.kp b__law_take .nil pass0 (qpa_cons (qpv 0) (qpa_cons (qpe_op op_addW (qpv 2) qpe_int) qpa_nil))) qpa_nil)) (fun _ _ _ _ => (qpg_name (i := 0) (show List.Nodup [("_law_k" : Str), ("_law_letters_here" : Str), ("_law_box_here" : Str)] from by decide +kernel) rfl (by first | exact Or.inl rfl | exact Or.inr rfl))) (fun _ _ _ _ => (qpe_ix ix_U (qpv 1) (qpe_call G__law_take (hr.mono (by decide)) rfl T.m__law_take F__law_take.kp b__law_take .nil pass0 (qpa_cons (qpv 2) (qpa_cons (qpe_callB call_lenU (by rfl) T.n_len bt_len (qpa_cons (qpv 1) qpa_nil)) qpa_nil))) (fun _ _ => rfl)))) qpa_nil) mono_c)))), ?_⟩
    have hsz : sizeLine = 16777216 := PySem.sizeLine_eq
    have hzl : z.cps.toList.length = z.length := by simp [Str.length]
    simp!
    refine ⟨b, _, o, rfl, hb, ho, by omega, by omega, fun d o1 d0 d1 ho1 => ?_⟩
    obtain ⟨n, rfl⟩ : ∃ n : Nat, d = (n : Int) := ⟨d.toNat, by omega⟩
    obtain ⟨xs0, rfl⟩ := ho.lst7
    refine ⟨_, rfl, by omega, by omega, fun D hD => ?_⟩
    rw [Int.toNat_natCast]
    refine comp_box (fun x => ∃ c : Nat, x = .str ⟨#[c]⟩ ∧ c ∈ sg z) upd_same ho1 hD (by omega) (fun x H' o' Q' hb' ho' hq => ?_) fun v xs o' hl hP ho' => ?_
    · simp!
      refine ⟨by omega, b, z.length, _, rfl, hb', ho', by omega, by omega, fun e o5 e0 e1 ho5 => ?_⟩
      simp!
      exact ⟨by omega, z.cps.toList[e.toNat]'(by omega), atI_of e0 (by simp), hq _ _ ⟨_, rfl, List.getElem_mem _⟩ ho5⟩
    · obtain ⟨ys, rfl, hy2, hy3⟩ := ones_in hP
      rw [List.length_map] at hl
      have ns : (ys.map (·.length)).sum = ys.length := by
        clear hl hP hy3
        induction ys with
        | nil => rfl
        | cons y ys ih => simp [hy2 y (.head _), ih fun z hz => hy2 z (.tail _ hz)]; omega
      refine ⟨ys, upd_same, by rw [ns]; show ys.length + ys.length * 0 ≤ _; omega, ?_⟩
      have lj := PySem.W.KT.join_ones ys hy2
      have nbD : b ≠ D := ne_of_none upd_same hD
      obtain ⟨xs1, rfl⟩ := id ho1.lst7
      refine k _ o' _ (by rw [lj]; omega) (fun c hc => ?_) ho' (by rw [upd_ne nbD, upd_same]) ((((Kp.refl [b] H).set hb (.inl (.head _))).set upd_same (.inl (.head _))).new (by rw [upd_ne nbD.symm]; exact hD))
      rw [joinT] at hc
      exact hy3 c hc
end
theorem cut_pre (z : Str) {a : Int} (h : 0 ≤ a) : (cutS z none (some a)).length = min a.toNat z.length := by
  have e : HT.sIx z.length z.length (some a) = min a.toNat z.length := by simp only [HT.sIx]; split <;> omega
  have e0 : HT.sIx z.length 0 none = 0 := rfl
  unfold cutS
  rw [e, e0]
  simp [Str.length]
theorem cut_suf (z : Str) {a : Int} (h : 0 ≤ a) : (cutS z (some a) none).length = z.length - a.toNat := by
  have e : HT.sIx z.length 0 (some a) = min a.toNat z.length := by simp only [HT.sIx]; split <;> omega
  have e0 : HT.sIx z.length z.length none = z.length := rfl
  unfold cutS
  rw [e, e0]
  simp [Str.length]
  omega
theorem cut_mid (z : Str) {a b : Int} (h : 0 ≤ a) (hb : a ≤ b) : (cutS z (some a) (some b)).length = min b.toNat z.length - min a.toNat z.length := by
  have e : HT.sIx z.length 0 (some a) = min a.toNat z.length := by simp only [HT.sIx]; split <;> omega
  have e1 : HT.sIx z.length z.length (some b) = min b.toNat z.length := by simp only [HT.sIx]; split <;> omega
  unfold cutS
  rw [e, e1]
  simp [Str.length]
  omega
theorem ite_or {c1 c2 A B : Prop} [Decidable c1] [Decidable c2] (h1 : c1 ∨ c2 → A) (h2 : ¬ c1 → ¬ c2 → B) : if c1 then A else if c2 then A else B := by
  by_cases a : c1
  · rw [if_pos a]; exact h1 (.inl a)
  · rw [if_neg a]
    by_cases b : c2
    · rw [if_pos b]; exact h1 (.inr b)
    · rw [if_neg b]; exact h2 a b
theorem sap_len (x y : Str) : (x ++ y).length = x.length + y.length := by simp [Str.length, Str.cps_append]
def spTwo : Sp := fun vs H Q _ => ∃ (b : Addr) (z : Str) (m : Nat) (o : HO), vs = [.ref b, .str z, .int (m : Int)] ∧ H b = some o ∧ BoxO o ∧ 1 ≤ z.length ∧ z.length ≤ 1000 ∧ 2 ≤ m ∧ m ≤ 10 ∧ ∀ p u v H', SB H b H' → H p = none → H' p = some (.lst [.str u, .str v]) → u.length ≤ m → v.length ≤ m → Q (.ref p) H'
structure TTwo (mg : Str → Option Value) (ft fx : Addr) : Prop where
  n_len : mg "len" = none
  n_max : mg "max" = none
  m__law_take : mg "_law_take" = some (.ref ft)
  m__law_text : mg "_law_text" = some (.ref fx)
section
variable {P : Program} {w : World} {K : PySem.W.Frag} {mg : Str → Option Value} {base : Heap}
abbrev s__law_two : Stmt := top 14
theorem sc__law_two : FnScope ["_law_box_here", "_law_letters_here", "_law_most", "_law_one", "_law_kind_here", "_law_at", "_law_sign", "_law_head", "_law_tail", "_law_first", "_law_short", "_law_new", "_law_both"] ["_law_box_here", "_law_letters_here", "_law_most"] (defScope s__law_two) := ⟨rfl, rfl, rfl, by decide +kernel, rfl, by decide +kernel, by decide +kernel⟩
theorem ok__law_two {f ft fx : Addr} {fd fdt fdx : FuncData} (F : Fun K "_law_two" "_law_two" s__law_two f fd) (T : TTwo mg ft fx) (F__law_take : Fun K "_law_take" "_law_take" s__law_take ft fdt) (b__law_take : Binds K fdt ["_law_box_here", "_law_wide"] []) (G__law_take : FnOk P w K mg base CX0 1 ft fdt ["_law_box_here", "_law_wide"] spTake)
    (F__law_text : Fun K "_law_text" "_law_text" s__law_text fx fdx) (b__law_text : Binds K fdx ["_law_box_here", "_law_letters_here", "_law_most"] []) (G__law_text : FnOk P w K mg base CX0 2 fx fdx ["_law_box_here", "_law_letters_here", "_law_most"] spText) : FnOk P w K mg base CX0 3 f fd ["_law_box_here", "_law_letters_here", "_law_most"] spTwo := by
  refine F.ok sc__law_two (fun vs H Q E h => ?_) (fun cdv A outer s H vs Q E hr h => ?_)
  · obtain ⟨b, z, m, o, rfl, _⟩ := h
    rfl
  · obtain ⟨b, z, m, o, rfl, hb, ho, z1, z2, m1, m2, q⟩ := h
    have hu := hr.units
    have hsz : sizeLine = 16777216 := PySem.sizeLine_eq
    have sb0 : SB H b H := ⟨Kp.refl _ _, o, hb, ho⟩
    have txt : ∀ {Ha : Hp} {k : Int} {Q' : VK}, SB H b Ha → 0 ≤ k → k ≤ 1000 → (∀ u Hb, SB H b Hb → (u.length : Int) ≤ k → Q' (.str u) Hb) → spText [.ref b, .str z, .int k] Ha Q' E0 := fun {Ha k Q'} sb hk0 hk q' => by
      obtain ⟨o, hb, ho⟩ := sb.bx
      obtain ⟨k, rfl⟩ : ∃ n : Nat, k = (n : Int) := ⟨k.toNat, by omega⟩
      exact ⟨b, z, k, o, rfl, hb, ho, z1, z2, by omega, fun u o' Hb hul _ ho' hb' kb => q' u Hb (sb.trans ⟨kb, o', hb', ho'⟩) (by omega)⟩
    have fin : ∀ {Ha : Hp} {u v : Str}, SB H b Ha → u.length ≤ m → v.length ≤ m → 2 ≤ sizeLine ∧ ∀ p, Ha p = none → Q (.ref p) (upd Ha p (.lst [.str u, .str v])) := fun {Ha u v} sb h1 h2 => ⟨by omega, fun p hp => q p u v _ (sb.new hp) (sb.kp.free hp) upd_same h1 h2⟩
    refine exQ (qpss_cons (qps_set (i := 3) sc__law_two.nd rfl (by first | exact Or.inl rfl | exact Or.inr rfl) (qpe_call G__law_text (hr.mono (by decide)) rfl T.m__law_text F__law_text.kp b__law_text .nil pass0 (qpa_cons (qpv 0) (qpa_cons (qpv 1) (qpa_cons (qpv 2) qpa_nil)))))
    (qpss_cons (qps_set (i := 4) sc__law_two.nd rfl (by first | exact Or.inl rfl | exact Or.inr rfl) (qpe_call G__law_take (hr.mono (by decide)) rfl T.m__law_take F__law_take.kp b__law_take .nil pass0 (qpa_cons (qpv 0) (qpa_cons qpe_int qpa_nil))))
    (qpss_cons (qps_set (i := 5) sc__law_two.nd rfl (by first | exact Or.inl rfl | exact Or.inr rfl) (qpe_call G__law_take (hr.mono (by decide)) rfl T.m__law_take F__law_take.kp b__law_take .nil pass0 (qpa_cons (qpv 0) (qpa_cons (qpe_callB (call_maxU rfl) (by rfl) T.n_max bt_max (qpa_cons qpe_int (qpa_cons (qpe_callB call_lenU (by rfl) T.n_len bt_len (qpa_cons (qpv 3) qpa_nil)) qpa_nil))) qpa_nil))))
    (qpss_cons (qps_set (i := 6) sc__law_two.nd rfl (by first | exact Or.inl rfl | exact Or.inr rfl) (qpe_ix ix_U (qpv 1) (qpe_call G__law_take (hr.mono (by decide)) rfl T.m__law_take F__law_take.kp b__law_take .nil pass0 (qpa_cons (qpv 0) (qpa_cons (qpe_callB call_lenU (by rfl) T.n_len bt_len (qpa_cons (qpv 1) qpa_nil)) qpa_nil))) (fun _ _ => rfl)))
    (qpss_mid (qps_if (qpt_cmpR (op_eqU hu) (qpv 4) qpe_int (nomark _)) (qpss_one (qps_ret (qpe_lst (qpa_cons (qpv 3) (qpa_cons (qpe_call G__law_text (hr.mono (by decide)) rfl T.m__law_text F__law_text.kp b__law_text .nil pass0 (qpa_cons (qpv 0) (qpa_cons (qpv 1) (qpa_cons (qpv 2) qpa_nil)))) qpa_nil))))) qpss_nil)
    (qpss_mid (qps_if (QW.pt (qpw_or (qpt_cmpR (op_eqU hu) (qpv 4) qpe_int (nomark _)) (qpw_or1 (qpt_cmpR (op_eqU hu) (qpv 4) qpe_int (nomark _))))) (qpss_cons (qps_set (i := 7) sc__law_two.nd rfl (by first | exact Or.inl rfl | exact Or.inr rfl) (qpe_call G__law_text (hr.mono (by decide)) rfl T.m__law_text F__law_text.kp b__law_text .nil pass0 (qpa_cons (qpv 0) (qpa_cons (qpv 1) (qpa_cons qpe_int qpa_nil)))))
    (qpss_cons (qps_set (i := 8) sc__law_two.nd rfl (by first | exact Or.inl rfl | exact Or.inr rfl) (qpe_call G__law_text (hr.mono (by decide)) rfl T.m__law_text F__law_text.kp b__law_text .nil pass0 (qpa_cons (qpv 0) (qpa_cons (qpv 1) (qpa_cons qpe_int qpa_nil)))))
    (qpss_cons (qps_set (i := 9) sc__law_two.nd rfl (by first | exact Or.inl rfl | exact Or.inr rfl) (qpe_call G__law_take (hr.mono (by decide)) rfl T.m__law_take F__law_take.kp b__law_take .nil pass0 (qpa_cons (qpv 0) (qpa_cons (qpe_op op_sub (qpv 2) qpe_int) qpa_nil))))
    (qpss_one (qps_ret (qpe_lst (qpa_cons (qpe_op op_addW (qpe_op op_addW (qpv 7) (qpe_op op_mulC (qpv 6) (qpv 9))) (qpv 8)) (qpa_cons (qpe_op op_addW (qpe_op op_addW (qpv 7) (qpe_op op_mulC (qpv 6) (qpe_call G__law_take (hr.mono (by decide)) rfl T.m__law_take F__law_take.kp b__law_take .nil pass0 (qpa_cons (qpv 0) (qpa_cons (qpe_op op_sub (qpv 2) qpe_int) qpa_nil))))) (qpv 8)) qpa_nil)))))))) qpss_nil)
    (qpss_mid (qps_if (qpt_cmpR (op_eqU hu) (qpv 4) qpe_int (nomark _)) (qpss_cons (qps_set (i := 10) sc__law_two.nd rfl (by first | exact Or.inl rfl | exact Or.inr rfl) (qpe_slice (sl_UK (K := K) rfl) (qpv 3) qpo_none (qpo_some (qpe_op op_sub (qpv 2) qpe_int))))
    (qpss_cons (qps_set (i := 11) sc__law_two.nd rfl (by first | exact Or.inl rfl | exact Or.inr rfl) (qpe_ix ix_U (qpe_lst (qpa_cons (qpe_slice (sl_UK (K := K) rfl) (qpv 3) (qpo_some (qpv 5)) (qpo_some (qpe_op op_addW (qpv 5) qpe_int))) (qpa_cons (qpv 6) qpa_nil))) (qpe_call G__law_take (hr.mono (by decide)) rfl T.m__law_take F__law_take.kp b__law_take .nil pass0 (qpa_cons (qpv 0) (qpa_cons qpe_int qpa_nil))) (fun _ _ => rfl)))
    (qpss_one (qps_ret (qpe_lst (qpa_cons (qpv 10) (qpa_cons (qpe_op op_addW (qpe_op op_addW (qpe_slice (sl_UK (K := K) rfl) (qpv 10) qpo_none (qpo_some (qpv 5))) (qpv 11)) (qpe_slice (sl_UK (K := K) rfl) (qpv 10) (qpo_some (qpe_op op_addW (qpv 5) (qpe_call G__law_take (hr.mono (by decide)) rfl T.m__law_take F__law_take.kp b__law_take .nil pass0 (qpa_cons (qpv 0) (qpa_cons qpe_int qpa_nil))))) qpo_none)) qpa_nil))))))) qpss_nil)
    (qpss_mid (qps_if (qpt_cmpR (op_eqU hu) (qpv 4) qpe_int (nomark _)) (qpss_one (qps_ret (qpe_lst (qpa_cons (qpv 3) (qpa_cons (qpe_op op_addW (qpe_slice (sl_UK (K := K) rfl) (qpv 3) qpo_none (qpo_some (qpv 5))) (qpe_slice (sl_UK (K := K) rfl) (qpv 3) (qpo_some (qpe_op op_addW (qpv 5) qpe_int)) qpo_none)) qpa_nil))))) qpss_nil)
    (qpss_mid (qps_if (qpt_cmpR (op_eqU hu) (qpv 4) qpe_int (nomark _)) (qpss_cons (qps_set (i := 12) sc__law_two.nd rfl (by first | exact Or.inl rfl | exact Or.inr rfl) (qpe_op op_addW (qpe_slice (sl_UK (K := K) rfl) (qpv 3) (qpo_some (qpe_op op_addW (qpv 5) qpe_int)) (qpo_some (qpe_op op_addW (qpv 5) qpe_int))) (qpe_slice (sl_UK (K := K) rfl) (qpv 3) (qpo_some (qpv 5)) (qpo_some (qpe_op op_addW (qpv 5) qpe_int)))))
    (qpss_one (qps_ret (qpe_lst (qpa_cons (qpv 3) (qpa_cons (qpe_op op_addW (qpe_op op_addW (qpe_slice (sl_UK (K := K) rfl) (qpv 3) qpo_none (qpo_some (qpv 5))) (qpv 12)) (qpe_slice (sl_UK (K := K) rfl) (qpv 3) (qpo_some (qpe_op op_addW (qpv 5) qpe_int)) qpo_none)) qpa_nil)))))) qpss_nil)
    (qpss_one (qps_ret (qpe_lst (qpa_cons (qpv 3) (qpa_cons (qpe_rev (qpv 3)) qpa_nil)))))))))))))) ?_
    simp!
    refine txt sb0 (by omega) (by omega) fun u1 H1 sb1 l1 => ?_
    have l1 : u1.length ≤ m := by omega
    refine sb1.tq (by decide) (by decide) fun kd H2 kd0 kd1 sb2 k2 => ?_
    simp!
    refine ⟨by omega, ?_⟩
    obtain ⟨wd, hwd, w1, w2⟩ : ∃ wd : Int, (if (u1.length : Int) > 1 then (u1.length : Int) else 1) = wd ∧ 0 < wd ∧ wd < 1073741824 := ⟨_, rfl, by split <;> omega, by split <;> omega⟩
    rw [hwd]
    refine sb2.tq w1 w2 fun at_ H3 at0 at1 sb3 k3 => ⟨by omega, ?_⟩
    refine sb3.tq (by omega) (by omega) fun g H4 g0 g1 sb4 k4 => ?_
    obtain ⟨c, hc⟩ : ∃ c, atI z.cps.toList g = some c := ⟨z.cps.toList[g.toNat]'(by simp [Str.length] at g1; simp; omega), atI_of g0 (by simp)⟩
    refine ⟨by omega, c, hc, ?_⟩
    obtain ⟨σ0, hσ0⟩ : ∃ σ0 : L2.St, σ0 = [some (.ref b), some (.str z), some (.int (m : Int)), some (.str u1), some (.int kd), some (.int at_), some (.str ⟨#[c]⟩), none, none, none, none, none, none] := ⟨_, rfl⟩
    rw [← hσ0]
    have s1l : (⟨#[c]⟩ : Str).length = 1 := rfl
    have rep : ∀ n : Nat, (repC c n).length = n := fun n => by simp [repC, Str.length]
    have rl : (revS u1).length = u1.length := by simp [revS, Str.length]
    refine ⟨fun σ H' => σ = σ0 ∧ H' = H4, ?_, ?_⟩
    · rw [hσ0]
      simp!
      refine ite2 (fun _ => ?_) (fun _ => trivial)
      exact txt sb4 (by omega) (by omega) fun u2 H5 sb5 l2 => fin sb5 l1 (by omega)
    rintro σ' H' ⟨e1, e2⟩
    rw [e1, e2]
    refine ⟨fun σ H' => σ = σ0 ∧ H' = H4, ?_, ?_⟩
    · rw [hσ0]
      simp!
      refine ite_or (fun _ => ?_) (fun _ _ => trivial)
      refine txt sb4 (by omega) (by omega) fun u2 H5 sb5 l2 => txt sb5 (by omega) (by omega) fun u3 H6 sb6 l3 => ?_
      refine sb6.tq (by omega) (by omega) fun n1 H7 n10 n11 sb7 k7 => ?_
      obtain ⟨n1, rfl⟩ : ∃ n : Nat, n1 = (n : Int) := ⟨n1.toNat, by omega⟩
      have r1 := rep n1
      refine ⟨c, n1, rfl, rfl, by omega, ⟨by omega, by rw [sap_len]; omega, ?_⟩⟩
      refine sb7.tq (by omega) (by omega) fun n2 H8 n20 n21 sb8 k8 => ?_
      obtain ⟨n2, rfl⟩ : ∃ n : Nat, n2 = (n : Int) := ⟨n2.toNat, by omega⟩
      have r2 := rep n2
      exact ⟨c, n2, rfl, rfl, by omega, ⟨by omega, by rw [sap_len]; omega, fin sb8 (by rw [sap_len, sap_len]; omega) (by rw [sap_len, sap_len]; omega)⟩⟩
    rintro σ' H' ⟨e1, e2⟩
    rw [e1, e2]
    refine ⟨fun σ H' => σ = σ0 ∧ H' = H4, ?_, ?_⟩
    · rw [hσ0]
      simp!
      refine ite2 (fun _ => ?_) (fun _ => trivial)
      have p0 := cut_pre u1 (a := (m : Int) - 1) (by omega)
      have pn := cut_mid u1 (a := at_) (b := at_ + 1) at0 (by omega)
      generalize cutS u1 none (some ((m : Int) - 1)) = S at p0 ⊢
      refine ⟨by omega, by omega, by omega, fun p hp => ?_⟩
      have np : p ≠ b := sb4.ne hp
      refine (sb4.new hp).tq (by decide) (by decide) fun g2 H5 g20 g21 sb5 k5 => ?_
      have ep := k5.old p _ upd_same (by simpa using np)
      obtain ⟨x, hx, xl⟩ : ∃ x : Str, atI [V.str (cutS u1 (some at_) (some (at_ + 1))), V.str ⟨#[c]⟩] g2 = some (.str x) ∧ x.length ≤ 1 := by
        rcases (by omega : g2 = 0 ∨ g2 = 1) with rfl | rfl
        · exact ⟨_, rfl, by omega⟩
        · exact ⟨_, rfl, by omega⟩
      have p1 := cut_pre S at0
      refine ⟨_, by rw [ep]; rfl, _, hx, by omega, by omega, ?_⟩
      refine sb5.tq (by decide) (by decide) fun t H6 t0 t1 sb6 k6 => ?_
      have p2 := cut_suf S (a := at_ + t) (by omega)
      exact ⟨_, rfl, by omega, by rw [sap_len]; omega, fin sb6 (by omega) (by rw [sap_len, sap_len]; omega)⟩
    rintro σ' H' ⟨e1, e2⟩
    rw [e1, e2]
    refine ⟨fun σ H' => σ = σ0 ∧ H' = H4, ?_, ?_⟩
    · rw [hσ0]
      simp!
      have p1 := cut_pre u1 at0
      have p2 := cut_suf u1 (a := at_ + 1) (by omega)
      exact ite2 (fun _ => ⟨by omega, by omega, by omega, fin sb4 l1 (by rw [sap_len]; omega)⟩) (fun _ => trivial)
    rintro σ' H' ⟨e1, e2⟩
    rw [e1, e2]
    refine ⟨fun σ H' => σ = σ0 ∧ H' = H4, ?_, ?_⟩
    · rw [hσ0]
      simp!
      have p1 := cut_pre u1 at0
      have p2 := cut_mid u1 (a := at_ + 1) (b := at_ + 2) (by omega) (by omega)
      have p3 := cut_mid u1 (a := at_) (b := at_ + 1) (by omega) (by omega)
      have p4 := cut_suf u1 (a := at_ + 2) (by omega)
      exact ite2 (fun _ => ⟨by omega, by omega, by omega, by omega, by rw [sap_len]; omega, by omega, by rw [sap_len, sap_len]; omega, fin sb4 l1 (by rw [sap_len, sap_len, sap_len]; omega)⟩) (fun _ => trivial)
    rintro σ' H' ⟨e1, e2⟩
    rw [e1, e2]
    rw [hσ0]
    simp!
    exact ⟨by omega, fin sb4 l1 (by omega)⟩
end
def ordK (p : Nat) : V → V
  | .int q => .str (boolT (decide ((p : Int) < q)))
  | v => v
def spKd (P : Program) (w : World) (d : Nat) : Sp := fun vs H Q _ => ∃ (z : Str) (t : Addr) (ps : List Nat), vs = [.str z, .ref t, .int (d : Int)] ∧ H t = some (.tup (ps.map nv)) ∧ z.length ≤ 20 ∧ ps.length + d ≤ 3 ∧ (∀ p ∈ ps, p < z.length) ∧
  ∀ (r : Addr) (k : List (Kt d)) (H' : Hp), Kp [] H H' → (aK P w d).list.ab H' k (.ref r) → KindOf d z ps k → Q (.ref r) H'
theorem aK_inj {P : Program} {w : World} {H : Hp} : ∀ {d : Nat} {k k' : Kt d} {x : V}, (aK P w d).ab H k x → (aK P w d).ab H k' x → k = k'
  | 0, k, k', x, h1, h2 => by
    have h1 : x = V.str k := h1
    have h2 : x = V.str k' := h2
    rw [h1] at h2
    exact V.str.inj h2
  | d + 1, k, k', x, ⟨t, xs, e, h, p⟩, ⟨t', xs', e', h', p'⟩ => by
    rw [e] at e'
    cases e'
    rw [h] at h'
    cases h'
    have gen : ∀ {k k' : List (Kt d)} {xs : List V}, Paired ((aK P w d).ab H) k xs → Paired ((aK P w d).ab H) k' xs → k = k' := fun {k k' xs} p => by
      induction p generalizing k' with
      | nil => intro q; cases q; rfl
      | cons a r ih =>
        intro q
        cases q with
        | cons b s => rw [aK_inj a b, ih s]
    exact gen p p'
theorem aKl_inj {P : Program} {w : World} {H : Hp} {d : Nat} {k k' : List (Kt d)} {x : V} (h1 : (aK P w d).list.ab H k x) (h2 : (aK P w d).list.ab H k' x) : k = k' := aK_inj (d := d + 1) h1 h2
theorem kind_ne : ∀ {d : Nat} {z : Str} {ps : List Nat} {k : List (Kt d)}, ps ≠ [] → 0 < z.length → KindOf d z ps k → k ≠ []
  | 0, z, ps, k, hp, hz, h => by
    have h : k = kd0 z ps := h
    rw [h]
    cases ps with
    | nil => exact absurd rfl hp
    | cons p ps => exact fun e => by simp [kd0] at e
  | d + 1, z, ps, k, hp, hz, ⟨f, _, _, _, f4⟩ => fun e => by
    have := (f4 (f 0)).mpr ⟨0, hz, rfl⟩
    rw [e] at this
    cases this
theorem strs_paired (H : Hp) (P : Program) (w : World) : ∀ l : List Str, Paired ((aK P w 0).ab H) l (l.map V.str)
  | [] => .nil
  | _ :: l => .cons rfl (strs_paired H P w l)
structure TKd (mg : Str → Option Value) (f : Addr) : Prop where
  n_sorted : mg "sorted" = none
  n_set : mg "set" = none
  n_tuple : mg "tuple" = none
  n_range : mg "range" = none
  n_len : mg "len" = none
  n_str : mg "str" = none
  m__law_kind : mg "_law_kind" = some (.ref f)
section
variable {P : Program} {w : World} {K : PySem.W.Frag} {mg : Str → Option Value} {base : Heap}
abbrev s__law_kind : Stmt := top 15
theorem sc__law_kind : FnScope ["_law_text_here", "_law_places", "_law_depth", "_law_some", "_law_found", "_law_one"] ["_law_text_here", "_law_places", "_law_depth"] (defScope s__law_kind) := ⟨rfl, rfl, rfl, by decide +kernel, rfl, by decide +kernel, by decide +kernel⟩
theorem ok__law_kind {f : Addr} {fd : FuncData} (F : Fun K "_law_kind" "_law_kind" s__law_kind f fd) (T : TKd mg f) (b__law_kind : Binds K fd ["_law_text_here", "_law_places", "_law_depth"] []) : ∀ d, FnOk P w K mg base CX0 (d + 1) f fd ["_law_text_here", "_law_places", "_law_depth"] (spKd P w d) := by
  intro d
  induction d with
  | zero =>
    refine F.ok sc__law_kind (fun vs H Q E h => ?_) (fun cdv A outer s H vs Q E hr h => ?_)
    · obtain ⟨z, t, ps, rfl, _⟩ := h
      rfl
    · obtain ⟨z, t, ps, rfl, ht, hz, hpd, hps, q⟩ := h
      have hu := hr.units
      have hu1 := hu_of hr
      have hsz : sizeLine = 16777216 := PySem.sizeLine_eq
      have F__law_kind := F
      have G__law_kind : FnOk P w K mg base CX0 0 f fd ["_law_text_here", "_law_places", "_law_depth"] (fun _ _ _ _ => False) := ⟨fun _ _ _ _ h => h.elim, fun _ _ _ _ _ _ _ _ _ _ _ _ _ h => h.elim⟩
      refine exQ (qpss_cons (qps_if (qpt_cmpR op_gt (qpv 2) qpe_int (nomark _)) (qpss_cons (qps_setc (i := 3) sc__law_kind.nd rfl (by first | exact Or.inl rfl | exact Or.inr rfl) rfl (compOk_of (sc := defScope s__law_kind) (N := ["_law_text_here", "_law_places", "_law_depth", "_law_some", "_law_found", "_law_one"]) (Nc := ["_law_place", "_law_text_here", "_law_places", "_law_depth"]) (js := [none, some 0, some 1, some 2]) (by decide +kernel)) (qpi_range1 rfl T.n_range (qpa_cons (qpe_callB call_lenU (by rfl) T.n_len bt_len (qpa_cons (qpv 0) qpa_nil)) qpa_nil)) (fun _ _ _ _ => (qpg_name (i := 0) (show List.Nodup [("_law_place" : Str), ("_law_text_here" : Str), ("_law_places" : Str), ("_law_depth" : Str)] from by decide +kernel) rfl (by first | exact Or.inl rfl | exact Or.inr rfl))) (fun _ _ _ _ => (qpe_call G__law_kind hr rfl T.m__law_kind F__law_kind.kp b__law_kind .nil pass0 (qpa_cons (qpv 1) (qpa_cons (qpe_op op_addX (qpv 2) (qpe_tup (qpa_cons (qpv 0) qpa_nil))) (qpa_cons (qpe_op op_sub (qpv 3) qpe_int) qpa_nil))))))
    (qpss_one (qps_ret (qpe_callTy call_tupleU (by rfl) T.n_tuple bt_tuple (qpa_cons (qpe_sortedSetN rfl hu rfl T.n_sorted rfl T.n_set (qpv 3)) qpa_nil))))) qpss_nil)
    (qpss_cons (qps_setc (i := 4) sc__law_kind.nd rfl (by first | exact Or.inl rfl | exact Or.inr rfl) rfl (compOk_of (sc := defScope s__law_kind) (N := ["_law_text_here", "_law_places", "_law_depth", "_law_some", "_law_found", "_law_one"]) (Nc := ["_law_place", "_law_text_here"]) (js := [none, some 0]) (by decide +kernel)) (qpi_any (K := K) (qpv 1) rfl) (fun _ _ _ _ => (qpg_name (i := 0) (show List.Nodup [("_law_place" : Str), ("_law_text_here" : Str)] from by decide +kernel) rfl (by first | exact Or.inl rfl | exact Or.inr rfl))) (fun _ _ _ _ => (qpe_ix ix_U (qpv 1) (qpv 0) (fun _ _ => rfl))))
    (qpss_cons (qps_for PassesOwn.never rfl (qpi_any (K := K) (qpv 1) rfl) (qpg_name (i := 5) sc__law_kind.nd rfl (by first | exact Or.inl rfl | exact Or.inr rfl)) (qpss_one (qps_expr (qpe_bmL PySem.F.slot_list_extend PySem.F.type_list_extend mt_extendU (qpv 4) (qpa_cons (qpe_comp rfl (compOk_of (sc := defScope s__law_kind) (N := ["_law_text_here", "_law_places", "_law_depth", "_law_some", "_law_found", "_law_one"]) (Nc := ["_law_other", "_law_one"]) (js := [none, some 5]) (by decide +kernel)) (qpi_any (K := K) (qpv 1) rfl) (fun _ _ _ _ => (qpg_name (i := 0) (show List.Nodup [("_law_other" : Str), ("_law_one" : Str)] from by decide +kernel) rfl (by first | exact Or.inl rfl | exact Or.inr rfl))) (fun _ _ _ _ => (qpe_callTy call_strL (by rfl) T.n_str bt_str (qpa_cons (qpe_cmpR op_ltU (qpv 1) (qpv 0) (nomark _)) qpa_nil)))) qpa_nil) mono_var))))
    (qpss_one (qps_ret (qpe_callTy call_tupleU (by rfl) T.n_tuple bt_tuple (qpa_cons (qpv 4) qpa_nil))))))) ?_
      simp!
      rw [if_neg (by decide)]
      simp only [ht]
      intro D hD
      have tD : t ≠ D := ne_of_none ht hD
      refine comp_tup (ltrV z) ht hD (by rw [List.length_map]; omega) (fun u hu' l Q' q' => ?_) fun v' => ?_
      · obtain ⟨p, hp', rfl⟩ := List.mem_map.mp hu'
        have zn : z.cps.toList.length = z.length := by simp [Str.length]
        simp! [nv]
        refine ⟨by omega, z.cps.toList.getD p 0, atI_nat (by rw [List.getD_eq_getElem?_getD, List.getElem?_eq_getElem (by have := hps p hp'; omega)]; rfl), ?_⟩
        have : z.cps.toList.getD (p : Int).toNat 0 = z.cps.toList.getD p 0 := rfl
        rw [← this]; exact q'
      have k1 : Kp [] H (upd H D (.lst ((ps.map nv).map (ltrV z)))) := (Kp.refl [] H).new hD
      have e1 : upd H D (.lst ((ps.map nv).map (ltrV z))) D = some (.lst ((ps.map fun p => sgK (z.cps.toList.getD p 0)).map V.str)) := by
        rw [upd_same]
        congr 2
        simp [nv, ltrV, sgK, Function.comp_def]
      generalize upd H D (.lst ((ps.map nv).map (ltrV z))) = H1 at k1 e1 ⊢
      have ht1 := k1.tup _ _ ht
      dsimp only
      simp only [ht1]
      refine loop_tup (xs := ps.map nv) (fun i σ H' => ∃ v : Option V, σ = [some (.str z), some (.ref t), some (.int ((0 : Nat) : Int)), none, some (.ref D), v] ∧ H' D = some (.lst (((ps.map fun p => sgK (z.cps.toList.getD p 0)) ++ (ps.take i).flatMap fun p => ps.map fun q => boolT (decide (p < q))).map V.str)) ∧ Kp [D] H1 H') ?_ ?_ ?_ ?_
      · exact ⟨none, rfl, by simpa using e1, Kp.refl _ _⟩
      · rintro i σ H' _ ⟨_, rfl, _, k⟩
        exact k.tup _ _ ht1
      · rintro i x σ H3 hx ⟨v, rfl, hD3, k3⟩
        rw [List.getElem?_map] at hx
        obtain ⟨p, hpi, rfl⟩ := Option.map_eq_some_iff.mp hx
        have hi : i < ps.length := (List.getElem?_eq_some_iff.mp hpi).1
        have ht3 := k3.tup _ _ ht1
        simp! [ht3]
        refine ⟨by rw [hD3]; rfl, fun D2 hD2 => ?_⟩
        refine comp_tup (ordK p) ht3 hD2 (by rw [List.length_map]; omega) (fun u hu' l Q' q' => ?_) fun v' => ?_
        · obtain ⟨q0, hq', rfl⟩ := List.mem_map.mp hu'
          have eo : ordK p (nv q0) = V.str (if (p : Int) < (q0 : Int) then Str.ofString "True" else Str.ofString "False") := by
            show V.str (boolT (decide ((p : Int) < (q0 : Int)))) = _
            by_cases h : (p : Int) < (q0 : Int)
            · rw [decide_eq_true h, if_pos h]; rfl
            · rw [decide_eq_false h, if_neg h]; rfl
          rw [eo] at q'
          simp! [nv]
          exact q'
        have k4 : Kp [] H3 (upd H3 D2 (.lst ((ps.map nv).map (ordK p)))) := (Kp.refl [] H3).new hD2
        have e4 : upd H3 D2 (.lst ((ps.map nv).map (ordK p))) D2 = some (.lst ((ps.map fun q => boolT (decide (p < q))).map V.str)) := by
          rw [upd_same]
          congr 2
          simp [nv, ordK, Function.comp_def]
        generalize upd H3 D2 (.lst ((ps.map nv).map (ordK p))) = H4 at k4 e4 ⊢
        have hD4 := k4.old _ _ hD3 List.not_mem_nil
        have fl : ∀ l : List Nat, (l.flatMap fun p => ps.map fun q => boolT (decide (p < q))).length = l.length * ps.length := fun l => by
          induction l with
          | nil => simp
          | cons x l ih => rw [List.flatMap_cons, List.length_append, ih, List.length_map, List.length_cons, Nat.succ_mul]; omega
        dsimp only
        refine ⟨_, by rw [hD4]; rfl, _, by rw [e4]; rfl, ?_, ?_, ?_⟩
        · have h1 := Nat.mul_le_mul (show (ps.take i).length ≤ 3 by rw [List.length_take]; omega) (show ps.length ≤ 3 by omega)
          simp only [List.length_map, List.length_append, fl]
          omega
        · rw [take_snoc hpi, List.flatMap_append, ← List.map_append, List.append_assoc]
          simp
        · exact (k3.trans (k4.mono (by simp))).set hD4 (.inl (.head _))
      · rintro σ H3 ⟨v, rfl, hD3, k3⟩
        rw [List.length_map, List.take_length] at hD3
        simp!
        refine rTupleU_lst hD3 fun b hb => ?_
        have k5 : Kp [] H (upd H3 b (.tup ((kd0 z ps).map V.str))) := (kp_drop k1 k3 fun c hc => by rw [List.mem_singleton.mp hc]; exact hD).new hb
        exact q b (kd0 z ps) _ k5 ⟨b, _, rfl, upd_same, strs_paired _ P w _⟩ rfl
  | succ d ih =>
    refine F.ok sc__law_kind (fun vs H Q E h => ?_) (fun cdv A outer s H vs Q E hr h => ?_)
    · obtain ⟨z, t, ps, rfl, _⟩ := h
      rfl
    · obtain ⟨z, t, ps, rfl, ht, hz, hpd, hps, q⟩ := h
      have hu := hr.units
      have hu1 := hu_of hr
      have hsz : sizeLine = 16777216 := PySem.sizeLine_eq
      have F__law_kind := F
      have G__law_kind := ih
      refine exQ (qpss_cons (qps_if (qpt_cmpR op_gt (qpv 2) qpe_int (nomark _)) (qpss_cons (qps_setc (i := 3) sc__law_kind.nd rfl (by first | exact Or.inl rfl | exact Or.inr rfl) rfl (compOk_of (sc := defScope s__law_kind) (N := ["_law_text_here", "_law_places", "_law_depth", "_law_some", "_law_found", "_law_one"]) (Nc := ["_law_place", "_law_text_here", "_law_places", "_law_depth"]) (js := [none, some 0, some 1, some 2]) (by decide +kernel)) (qpi_range1 rfl T.n_range (qpa_cons (qpe_callB call_lenU (by rfl) T.n_len bt_len (qpa_cons (qpv 0) qpa_nil)) qpa_nil)) (fun _ _ _ _ => (qpg_name (i := 0) (show List.Nodup [("_law_place" : Str), ("_law_text_here" : Str), ("_law_places" : Str), ("_law_depth" : Str)] from by decide +kernel) rfl (by first | exact Or.inl rfl | exact Or.inr rfl))) (fun _ _ _ _ => (qpe_call G__law_kind hr rfl T.m__law_kind F__law_kind.kp b__law_kind .nil pass0 (qpa_cons (qpv 1) (qpa_cons (qpe_op op_addX (qpv 2) (qpe_tup (qpa_cons (qpv 0) qpa_nil))) (qpa_cons (qpe_op op_sub (qpv 3) qpe_int) qpa_nil))))))
    (qpss_one (qps_ret (qpe_callTy call_tupleU (by rfl) T.n_tuple bt_tuple (qpa_cons (qpe_sortedSetN rfl hu rfl T.n_sorted rfl T.n_set (qpv 3)) qpa_nil))))) qpss_nil)
    (qpss_cons (qps_setc (i := 4) sc__law_kind.nd rfl (by first | exact Or.inl rfl | exact Or.inr rfl) rfl (compOk_of (sc := defScope s__law_kind) (N := ["_law_text_here", "_law_places", "_law_depth", "_law_some", "_law_found", "_law_one"]) (Nc := ["_law_place", "_law_text_here"]) (js := [none, some 0]) (by decide +kernel)) (qpi_any (K := K) (qpv 1) rfl) (fun _ _ _ _ => (qpg_name (i := 0) (show List.Nodup [("_law_place" : Str), ("_law_text_here" : Str)] from by decide +kernel) rfl (by first | exact Or.inl rfl | exact Or.inr rfl))) (fun _ _ _ _ => (qpe_ix ix_U (qpv 1) (qpv 0) (fun _ _ => rfl))))
    (qpss_cons (qps_for PassesOwn.never rfl (qpi_any (K := K) (qpv 1) rfl) (qpg_name (i := 5) sc__law_kind.nd rfl (by first | exact Or.inl rfl | exact Or.inr rfl)) (qpss_one (qps_expr (qpe_bmL PySem.F.slot_list_extend PySem.F.type_list_extend mt_extendU (qpv 4) (qpa_cons (qpe_comp rfl (compOk_of (sc := defScope s__law_kind) (N := ["_law_text_here", "_law_places", "_law_depth", "_law_some", "_law_found", "_law_one"]) (Nc := ["_law_other", "_law_one"]) (js := [none, some 5]) (by decide +kernel)) (qpi_any (K := K) (qpv 1) rfl) (fun _ _ _ _ => (qpg_name (i := 0) (show List.Nodup [("_law_other" : Str), ("_law_one" : Str)] from by decide +kernel) rfl (by first | exact Or.inl rfl | exact Or.inr rfl))) (fun _ _ _ _ => (qpe_callTy call_strL (by rfl) T.n_str bt_str (qpa_cons (qpe_cmpR op_ltU (qpv 1) (qpv 0) (nomark _)) qpa_nil)))) qpa_nil) mono_var))))
    (qpss_one (qps_ret (qpe_callTy call_tupleU (by rfl) T.n_tuple bt_tuple (qpa_cons (qpv 4) qpa_nil))))))) ?_
      simp!
      rw [if_pos (by omega)]
      refine ⟨by omega, by omega, by omega, fun D hD => ?_⟩
      rw [show ((z.length : Int)).toNat = z.length from rfl]
      refine loop_range (fun i σ H' => ∃ (v : Option V) (bs : List Addr) (fk : Nat → List (Kt d)), σ = [v, some (.str z), some (.ref t), some (.int ((d + 1 : Nat) : Int))] ∧ H' D = some (.lst (bs.map V.ref)) ∧ bs.length = i ∧ (∀ j b, bs[j]? = some b → (aK P w d).list.ab H' (fk j) (.ref b) ∧ KindOf d z (ps ++ [j]) (fk j)) ∧ Kp [] H H') ?_ ?_ ?_
      · exact ⟨none, [], fun _ => [], rfl, upd_same, rfl, by simp, (Kp.refl [] H).new hD⟩
      · rintro i σ H1 hi ⟨v, bs, fk, rfl, hD1, bl, hb, k1⟩
        have ht1 := k1.tup _ _ ht
        unfold tEmit
        simp!
        refine ⟨by omega, fun s1 hs1 => ⟨t, s1, _, _, rfl, rfl, by rw [upd_ne (ne_of_none ht1 hs1)]; exact ht1, upd_same, by simp; omega, fun u H2 k2 hu2 => ?_⟩⟩
        have k12 : Kp [] H1 H2 := ((Kp.refl [] H1).new hs1).trans k2
        refine ⟨z, u, ps ++ [i], by rw [show (((d + 1 : Nat) : Int) - 1) = (d : Int) by omega], ?_, hz, by simp; omega, fun p hp' => ?_, fun r k H3 k23 hab hkd => ?_⟩
        · rw [List.map_append, Int.zero_add] at *
          exact hu2
        · rcases List.mem_append.mp hp' with h | h
          · exact hps p h
          · rw [List.mem_singleton.mp h]; exact hi
        have hD3 := (k12.trans k23).old _ _ hD1 List.not_mem_nil
        have kD : Kp [D] H3 (upd H3 D (.lst (bs.map V.ref ++ [.ref r]))) := (Kp.refl _ H3).set hD3 (.inl (.head _))
        have nS : ∀ b ∈ [D], ∃ o, H3 b = some o ∧ ∀ ob u, o ≠ .frz ob u := fun b hb => by rw [List.mem_singleton.mp hb]; exact ⟨_, hD3, fun _ _ z => by cases z⟩
        have tD := TKp.of kD nS
        have t13 := TKp.of (k12.trans k23) (by simp)
        refine ⟨_, by rw [hD3]; rfl, by rw [List.length_map]; omega, bs ++ [r], by rw [List.map_append]; rfl, by simp [bl], fun j => if j < i then fk j else k, fun j b hj => ?_, ((k1.trans (k12.trans k23)).set hD3 (.inr hD))⟩
        dsimp only
        by_cases c : j < i
        · rw [if_pos c]
          rw [List.getElem?_append_left (by omega)] at hj
          exact ⟨(aK P w d).list.keep tD ((aK P w d).list.keep t13 (hb j b hj).1), (hb j b hj).2⟩
        · have hj' := (List.getElem?_eq_some_iff.mp hj).1
          rw [List.length_append, List.length_singleton] at hj'
          obtain rfl : j = i := by omega
          rw [if_neg c]
          rw [List.getElem?_append_right (by omega), bl, Nat.sub_self] at hj
          obtain rfl : r = b := by simpa using hj
          exact ⟨(aK P w d).list.keep tD hab, hkd⟩
      · rintro σ H1 ⟨v, bs, fk, rfl, hD1, bl, hb, k1⟩
        dsimp only
        show rSortedSetN P w [V.ref D] H1 fun x H1 => rTupleU [x] H1 Q
        rw [rSortedSetN_ref]
        have memj : ∀ b ∈ bs, ∃ j, j < z.length ∧ bs[j]? = some b := fun b hm => by
          obtain ⟨j, hj, e⟩ := List.getElem_of_mem hm
          exact ⟨j, by omega, by rw [List.getElem?_eq_getElem hj, e]⟩
        have hex : ∀ b, ∃ k : List (Kt d), b ∈ bs → (aK P w d).list.ab H1 k (.ref b) := fun b => by
          by_cases hm : b ∈ bs
          · obtain ⟨j, _, hj⟩ := memj b hm
            exact ⟨fk j, fun _ => (hb j b hj).1⟩
          · exact ⟨[], fun h => absurd h hm⟩
        obtain ⟨kf, hkf⟩ : ∃ kf : Addr → List (Kt d), ∀ b, b ∈ bs → (aK P w d).list.ab H1 (kf b) (.ref b) := ⟨fun b => Classical.choose (hex b), fun b => Classical.choose_spec (hex b)⟩
        have kfj : ∀ j b, bs[j]? = some b → kf b = fk j := fun j b hj => aKl_inj (hkf b (List.mem_of_getElem? hj)) (hb j b hj).1
        have mm : ∀ x, x ∈ bs.map kf ↔ ∃ p, p < z.length ∧ fk p = x := fun x => by
          constructor
          · intro hx
            obtain ⟨b, hm, rfl⟩ := List.mem_map.mp hx
            obtain ⟨j, hj, e⟩ := memj b hm
            exact ⟨j, hj, (kfj j b e).symm⟩
          · rintro ⟨p, hp, rfl⟩
            have hp' : p < bs.length := by omega
            exact List.mem_map.mpr ⟨bs[p], List.getElem_mem hp', kfj p _ (List.getElem?_eq_getElem hp')⟩
        have fkk : ∀ p, p < z.length → KindOf d z (ps ++ [p]) (fk p) := fun p hp => by
          have hp' : p < bs.length := by omega
          exact (hb p _ (List.getElem?_eq_getElem hp')).2
        refine ⟨Kt d, instKt d, IO P w d, aK P w d, bs, kf, by rw [IO_lv]; omega, hD1, fun b hm => ⟨hkf b hm, ?_⟩, by omega, fun p bs' hp inb nd mem ord => ?_⟩
        · obtain ⟨j, hj, e⟩ := memj b hm
          rw [kfj j b e]
          exact kind_ne (by simp) (by omega) (fkk j hj)
        refine rTupleU_lst upd_same fun a ha => ?_
        have k2 : Kp [] H1 (upd (upd H1 p (.lst (bs'.map V.ref))) a (.tup (bs'.map V.ref))) := ((Kp.refl [] H1).new hp).new ha
        have t2 := TKp.of k2 (by simp)
        refine q a (bs'.map kf) _ (k1.trans k2) ⟨a, _, rfl, upd_same, ?_⟩ ⟨fk, fkk, ?_, nd, fun x => (mem x).trans (mm x)⟩
        · have gen : ∀ l : List Addr, (∀ b ∈ l, b ∈ bs) → Paired ((aK P w (d + 1)).ab (upd (upd H1 p (.lst (bs'.map V.ref))) a (.tup (bs'.map V.ref)))) (l.map kf) (l.map V.ref) := fun l => by
            induction l with
            | nil => intro _; exact .nil
            | cons b l ih => intro hl; exact .cons ((aK P w d).list.keep t2 (hkf b (hl b (.head _)))) (ih fun c hc => hl c (.tail _ hc))
          exact gen bs' inb
        · have ord : List.Pairwise (fun x y => lexlt (IO P w d).lt y x = false) (bs'.map kf) := ord
          rw [IO_lt] at ord
          exact ord
end
def Ask (H : Hp) (u : V) : Prop := ∃ (t : Addr) (x y : Str) (d : Nat) (c : Bool), u = .ref t ∧ H t = some (.tup [.str x, .str y, .int (d : Int), .bl c]) ∧ x.length ≤ 20 ∧ y.length ≤ 20 ∧ d ≤ 3 ∧ (c = true ↔ Al d x y)
theorem Ask.kp {S : List Addr} {H H' : Hp} {u : V} (k : Kp S H H') (h : Ask H u) : Ask H' u := let ⟨t, x, y, d, c, e, ht, r⟩ := h; ⟨t, x, y, d, c, e, k.tup _ _ ht, r⟩
def spKA (P : Program) (w : World) : Sp := fun vs H Q E => ∃ d, d ≤ 3 ∧ spKd P w d vs H Q E
theorem kinds_eq {P : Program} {w : World} {Ha : Hp} {x y : Str} {d : Nat} {Q : VK} (hd : d ≤ 3) (hx : x.length ≤ 20) (hy : y.length ≤ 20) (q : ∀ (c : Bool) Hb, Kp [] Ha Hb → (c = true ↔ Al d x y) → Q (.bl c) Hb) :
    0 ≤ sizeLine ∧ ∀ p, Ha p = none → spKA P w [.str x, .ref p, .int (d : Int)] (upd Ha p (.tup [])) (fun v H1 => 0 ≤ sizeLine ∧ ∀ p, H1 p = none → spKA P w [.str y, .ref p, .int (d : Int)] (upd H1 p (.tup [])) (fun v2 H2 => rEqN P w v v2 H2 Q) E0) E0 := by
  refine ⟨by omega, fun p hp => ⟨d, hd, x, p, [], rfl, upd_same, hx, by simp; omega, by simp, fun r k H1 k1 ab1 kd1 => ⟨by omega, fun p2 hp2 => ⟨d, hd, y, p2, [], rfl, upd_same, hy, by simp; omega, by simp, fun r2 k2 H2 kk2 ab2 kd2 => ?_⟩⟩⟩⟩
  have k12 : Kp [] H1 H2 := ((Kp.refl [] H1).new hp2).trans kk2
  refine ⟨Kt d, instKt d, (IO P w d).toItN, aK P w d, k, k2, by rw [IO_lv]; omega, (aK P w d).list.keep (TKp.of k12 (by simp)) ab1, ab2, q _ _ ((((Kp.refl [] Ha).new hp).trans k1).trans k12) ?_⟩
  rw [decide_eq_true_iff]
  exact kind_eqv rfl kd1 kd2
structure TLw (K : PySem.W.Frag) (mg : Str → Option Value) (fb fl ft f2 fk fa : Addr) : Prop where
  isb : PySem.W.kitOne K (.type "bool") (.type "bool") = some true
  n_range : mg "range" = none
  n_max : mg "max" = none
  n_min : mg "min" = none
  n_len : mg "len" = none
  n_int : mg "int" = none
  n_isinstance : mg "isinstance" = none
  n_bool : mg "bool" = none
  m__law_box : mg "_law_box" = some (.ref fb)
  m__law_letters : mg "_law_letters" = some (.ref fl)
  m__law_take : mg "_law_take" = some (.ref ft)
  m__law_two : mg "_law_two" = some (.ref f2)
  m__law_kind : mg "_law_kind" = some (.ref fk)
  m_alike_up_to : mg "alike_up_to" = some (.ref fa)
section
variable {P : Program} {w : World} {K : PySem.W.Frag} {mg : Str → Option Value} {base : Heap}
theorem kinds_all {f : Addr} {fd : FuncData} (h : ∀ d, FnOk P w K mg base CX0 (d + 1) f fd ["_law_text_here", "_law_places", "_law_depth"] (spKd P w d)) : FnOk P w K mg base CX0 4 f fd ["_law_text_here", "_law_places", "_law_depth"] (spKA P w) :=
  ⟨fun vs H Q E ⟨m, _, h'⟩ => (h m).len _ _ _ _ h', fun A outer s H args us vs Q E hr he hb hv ⟨m, hm, h'⟩ => ((h m).mono (by omega : m + 1 ≤ 4)).run A outer s H args us vs Q E hr he hb hv h'⟩
abbrev s_law : Stmt := top 16
theorem sc_law : FnScope ["_law_script", "_law_box_here", "_law_letters_here", "_law_asked", "_law_k", "_law_depth", "_law_one", "_law_other", "_law_turn", "_law_due", "_law_heard"] ["_law_script"] (defScope s_law) := ⟨rfl, rfl, rfl, by decide +kernel, rfl, by decide +kernel, by decide +kernel⟩
theorem ok_law {f fb fl ft f2 fk fa : Addr} {fd fdb fdl fdt fd2 fdk fda : FuncData} (F : Fun K "law" "law" s_law f fd) (T : TLw K mg fb fl ft f2 fk fa)
    (F__law_box : Fun K "_law_box" "_law_box" s__law_box fb fdb) (b__law_box : Binds K fdb ["_law_script", "_law_k"] []) (G__law_box : FnOk P w K mg base CX0 1 fb fdb ["_law_script", "_law_k"] (spBox K))
    (F__law_letters : Fun K "_law_letters" "_law_letters" s__law_letters fl fdl) (b__law_letters : Binds K fdl ["_law_box_here", "_law_most"] []) (G__law_letters : FnOk P w K mg base CX0 2 fl fdl ["_law_box_here", "_law_most"] spLetters)
    (F__law_take : Fun K "_law_take" "_law_take" s__law_take ft fdt) (b__law_take : Binds K fdt ["_law_box_here", "_law_wide"] []) (G__law_take : FnOk P w K mg base CX0 1 ft fdt ["_law_box_here", "_law_wide"] spTake)
    (F__law_two : Fun K "_law_two" "_law_two" s__law_two f2 fd2) (b__law_two : Binds K fd2 ["_law_box_here", "_law_letters_here", "_law_most"] []) (G__law_two : FnOk P w K mg base CX0 3 f2 fd2 ["_law_box_here", "_law_letters_here", "_law_most"] spTwo)
    (F__law_kind : Fun K "_law_kind" "_law_kind" s__law_kind fk fdk) (b__law_kind : Binds K fdk ["_law_text_here", "_law_places", "_law_depth"] []) (G__law_kind : FnOk P w K mg base CX0 4 fk fdk ["_law_text_here", "_law_places", "_law_depth"] (spKA P w))
    (F_alike_up_to : Fun K "alike_up_to" "alike_up_to" s_alike_up_to fa fda) (b_alike_up_to : Binds K fda ["one", "other", "depth"] []) (G_alike_up_to : FnOk P w K mg base CX0 12 fa fda ["one", "other", "depth"] spAl) : FnOk P w K mg base CX0 13 f fd ["_law_script"] (spLaw K) := by
  refine F.ok sc_law (fun vs H Q E h => ?_) (fun cdv A outer s H vs Q E hr h => ?_)
  · obtain ⟨a, is, rfl, _⟩ := h
    rfl
  · obtain ⟨a, is, rfl, ha, hil, kQ⟩ := h
    have hu := hr.units
    have hu0 : (A.deeper (PyProof.Rows.envOfC (Str.ofString "law") (defScope s_law) s.heap.objs.size f cdv)).units < cLine := by omega
    have hsz : sizeLine = 16777216 := PySem.sizeLine_eq
    refine exQ (qpss_cons (qps_set (i := 1) sc_law.nd rfl (by first | exact Or.inl rfl | exact Or.inr rfl) (qpe_call G__law_box (hr.mono (by decide)) rfl T.m__law_box F__law_box.kp b__law_box .nil pass0 (qpa_cons (qpv 0) (qpa_cons qpe_int qpa_nil))))
    (qpss_cons (qps_set (i := 2) sc_law.nd rfl (by first | exact Or.inl rfl | exact Or.inr rfl) (qpe_call G__law_letters (hr.mono (by decide)) rfl T.m__law_letters F__law_letters.kp b__law_letters .nil pass0 (qpa_cons (qpv 1) (qpa_cons (qpe_ix ix_U (qpe_lst (qpa_cons qpe_int (qpa_cons qpe_int (qpa_cons qpe_int qpa_nil)))) (qpe_call G__law_take (hr.mono (by decide)) rfl T.m__law_take F__law_take.kp b__law_take .nil pass0 (qpa_cons (qpv 1) (qpa_cons qpe_int qpa_nil))) (fun _ _ => rfl)) qpa_nil))))
    (qpss_cons (qps_set (i := 3) sc_law.nd rfl (by first | exact Or.inl rfl | exact Or.inr rfl) (qpe_lst qpa_nil))
    (qpss_cons (qps_for PassesOwn.never rfl (qpi_range2 rfl T.n_range (qpa_cons qpe_int (qpa_cons (qpe_callB (call_maxU rfl) (by rfl) T.n_max bt_max (qpa_cons qpe_int (qpa_cons (qpe_callB (call_minU rfl) (by rfl) T.n_min bt_min (qpa_cons (qpe_callB call_len_seq (by rfl) T.n_len bt_len (qpa_cons (qpv 0) qpa_nil)) (qpa_cons qpe_int qpa_nil))) qpa_nil))) qpa_nil))) (qpg_name (i := 4) sc_law.nd rfl (by first | exact Or.inl rfl | exact Or.inr rfl)) (qpss_cons (qps_set (i := 1) sc_law.nd rfl (by first | exact Or.inl rfl | exact Or.inr rfl) (qpe_call G__law_box (hr.mono (by decide)) rfl T.m__law_box F__law_box.kp b__law_box .nil pass0 (qpa_cons (qpv 0) (qpa_cons (qpv 4) qpa_nil))))
    (qpss_cons (qps_set (i := 5) sc_law.nd rfl (by first | exact Or.inl rfl | exact Or.inr rfl) (qpe_call G__law_take (hr.mono (by decide)) rfl T.m__law_take F__law_take.kp b__law_take .nil pass0 (qpa_cons (qpv 1) (qpa_cons (qpe_ix ix_U (qpe_lst (qpa_cons qpe_int (qpa_cons qpe_int qpa_nil))) (qpe_callTy call_intU (by rfl) T.n_int bt_int (qpa_cons (qpe_cmpR (op_eqU hu) (qpv 4) qpe_int (nomark _)) qpa_nil)) (fun _ _ => rfl)) qpa_nil))))
    (qpss_cons (qps_asg (qpe_call G__law_two (hr.mono (by decide)) rfl T.m__law_two F__law_two.kp b__law_two .nil pass0 (qpa_cons (qpv 1) (qpa_cons (qpv 2) (qpa_cons (qpe_ix ix_U (qpe_lst (qpa_cons qpe_int (qpa_cons qpe_int (qpa_cons qpe_int (qpa_cons qpe_int qpa_nil))))) (qpv 5) (fun _ _ => rfl)) qpa_nil)))) (qpg_lst2 rfl (qpgs_cons (qpg_name (i := 6) sc_law.nd rfl (by first | exact Or.inl rfl | exact Or.inr rfl)) (qpgs_cons (qpg_name (i := 7) sc_law.nd rfl (by first | exact Or.inl rfl | exact Or.inr rfl)) qpgs_nil)) (K := K) rfl))
    (qpss_one (qps_expr (qpe_bmL PySem.F.slot_list_append PySem.F.type_list_append mt_appendU (qpv 3) (qpa_cons (qpe_tup (qpa_cons (qpv 6) (qpa_cons (qpv 7) (qpa_cons (qpv 5) (qpa_cons (qpe_cmpR (op_eqN hu) (qpe_call G__law_kind (hr.mono (by decide)) rfl T.m__law_kind F__law_kind.kp b__law_kind .nil pass0 (qpa_cons (qpv 6) (qpa_cons (qpe_tup qpa_nil) (qpa_cons (qpv 5) qpa_nil)))) (qpe_call G__law_kind (hr.mono (by decide)) rfl T.m__law_kind F__law_kind.kp b__law_kind .nil pass0 (qpa_cons (qpv 7) (qpa_cons (qpe_tup qpa_nil) (qpa_cons (qpv 5) qpa_nil)))) (nomark _)) qpa_nil))))) qpa_nil) mono_var)))))))
    (qpss_cons (qps_for PassesOwn.never rfl (qpi_range1 rfl T.n_range (qpa_cons qpe_int qpa_nil)) (qpg_name (i := 8) sc_law.nd rfl (by first | exact Or.inl rfl | exact Or.inr rfl)) (qpss_one (qps_for PassesOwn.never rfl (qpi_any (K := K) (qpv 3) rfl) (qpg_tup (n := 4) rfl (qpgs_cons (qpg_name (i := 6) sc_law.nd rfl (by first | exact Or.inl rfl | exact Or.inr rfl)) (qpgs_cons (qpg_name (i := 7) sc_law.nd rfl (by first | exact Or.inl rfl | exact Or.inr rfl)) (qpgs_cons (qpg_name (i := 5) sc_law.nd rfl (by first | exact Or.inl rfl | exact Or.inr rfl)) (qpgs_cons (qpg_name (i := 9) sc_law.nd rfl (by first | exact Or.inl rfl | exact Or.inr rfl)) qpgs_nil)))) (K := K) rfl) (qpss_cons (qps_set (i := 10) sc_law.nd rfl (by first | exact Or.inl rfl | exact Or.inr rfl) (qpe_call G_alike_up_to (hr.mono (by decide)) rfl T.m_alike_up_to F_alike_up_to.kp b_alike_up_to .nil pass0 (qpa_cons (qpv 6) (qpa_cons (qpv 7) (qpa_cons (qpv 5) qpa_nil)))))
    (qpss_one (qps_if (QW.pt (qpw_or (qpt_not (qpt_val (qpe_callB (call_isinstanceK (K := K) rfl) (by rfl) T.n_isinstance bt_isinstance (qpa_cons (qpv 10) (qpa_cons (qpe_bltn (v := .ty "bool") rfl T.n_bool bt_bool rfl) qpa_nil))))) (qpw_or (qpt_cmpR (op_neU hu) (qpv 10) (qpv 9) (nomark _)) (qpw_or1 (qpt_cmpR (op_neU hu) (qpe_call G_alike_up_to (hr.mono (by decide)) rfl T.m_alike_up_to F_alike_up_to.kp b_alike_up_to .nil pass0 (qpa_cons (qpv 7) (qpa_cons (qpv 6) (qpa_cons (qpv 5) qpa_nil)))) (qpv 9) (nomark _)))))) (qpss_one (qps_ret qpe_bl)) qpss_nil))))))
    (qpss_cons (qps_asg (qpe_call G__law_two (hr.mono (by decide)) rfl T.m__law_two F__law_two.kp b__law_two .nil pass0 (qpa_cons (qpv 1) (qpa_cons (qpv 2) (qpa_cons (qpe_ix ix_U (qpe_lst (qpa_cons qpe_int (qpa_cons qpe_int qpa_nil))) (qpe_callTy call_intU (by rfl) T.n_int bt_int (qpa_cons (qpe_cmpR (op_eqU hu) (qpe_call G__law_take (hr.mono (by decide)) rfl T.m__law_take F__law_take.kp b__law_take .nil pass0 (qpa_cons (qpv 1) (qpa_cons qpe_int qpa_nil))) qpe_int (nomark _)) qpa_nil)) (fun _ _ => rfl)) qpa_nil)))) (qpg_lst2 rfl (qpgs_cons (qpg_name (i := 6) sc_law.nd rfl (by first | exact Or.inl rfl | exact Or.inr rfl)) (qpgs_cons (qpg_name (i := 7) sc_law.nd rfl (by first | exact Or.inl rfl | exact Or.inr rfl)) qpgs_nil)) (K := K) rfl))
    (qpss_cons (qps_set (i := 9) sc_law.nd rfl (by first | exact Or.inl rfl | exact Or.inr rfl) (qpe_cmpR (op_eqN hu) (qpe_call G__law_kind (hr.mono (by decide)) rfl T.m__law_kind F__law_kind.kp b__law_kind .nil pass0 (qpa_cons (qpv 6) (qpa_cons (qpe_tup qpa_nil) (qpa_cons qpe_int qpa_nil)))) (qpe_call G__law_kind (hr.mono (by decide)) rfl T.m__law_kind F__law_kind.kp b__law_kind .nil pass0 (qpa_cons (qpv 7) (qpa_cons (qpe_tup qpa_nil) (qpa_cons qpe_int qpa_nil)))) (nomark _)))
    (qpss_cons (qps_set (i := 10) sc_law.nd rfl (by first | exact Or.inl rfl | exact Or.inr rfl) (qpe_call G_alike_up_to (hr.mono (by decide)) rfl T.m_alike_up_to F_alike_up_to.kp b_alike_up_to .nil pass0 (qpa_cons (qpv 6) (qpa_cons (qpv 7) (qpa_cons qpe_int qpa_nil)))))
    (qpss_one (qps_ret (qpe_and (qpe_callB (call_isinstanceK (K := K) rfl) (by rfl) T.n_isinstance bt_isinstance (qpa_cons (qpv 10) (qpa_cons (qpe_bltn (v := .ty "bool") rfl T.n_bool bt_bool rfl) qpa_nil))) (qpe_one (qpe_cmpR (op_eqU hu) (qpv 10) (qpv 9) (nomark _)))))))))))))) ?_
    simp!
    refine ⟨a, 0, is, rfl, ha, by omega, by omega, fun b0 o0 hb0 ho0 => ?_⟩
    refine ⟨by omega, fun l hl => ?_⟩
    have q1 : Kp [] (upd H b0 o0) (upd (upd H b0 o0) l (.lst [.int 3, .int 3, .int 7])) := (Kp.refl [] _).new hl
    have e1 : upd (upd H b0 o0) l (.lst [.int 3, .int 3, .int 7]) l = some (.lst [.int 3, .int 3, .int 7]) := upd_same
    have sb0 : SB (upd H b0 o0) b0 (upd H b0 o0) := ⟨Kp.refl _ _, o0, upd_same, ho0⟩
    have sb1 := sb0.keep q1
    have nl : l ≠ b0 := sb0.ne hl
    generalize upd (upd H b0 o0) l (.lst [.int 3, .int 3, .int 7]) = H1 at q1 e1 sb1 ⊢
    refine sb1.tq (by decide) (by decide) fun g H2 g0 g1 sb2 k2 => ?_
    have e2 := k2.old _ _ e1 (by simpa using nl)
    obtain ⟨m, hm, m1, m7⟩ : ∃ m : Nat, atI [V.int 3, V.int 3, V.int 7] g = some (.int (m : Int)) ∧ 1 ≤ m ∧ m ≤ 7 := by
      rcases (by omega : g = 0 ∨ g = 1 ∨ g = 2) with rfl | rfl | rfl
      · exact ⟨3, rfl, by omega, by omega⟩
      · exact ⟨3, rfl, by omega, by omega⟩
      · exact ⟨7, rfl, by omega, by omega⟩
    obtain ⟨o2, hb2, ho2⟩ := sb2.bx
    refine ⟨_, by rw [e2]; rfl, _, hm, b0, m, o2, rfl, hb2, ho2, m1, m7, fun zl o3 H3 hz ho3 hb3 k3 => ?_⟩
    have zlo := hz.lo
    have zhi := hz.hi
    have sb3 : SB (upd H b0 o0) b0 H3 := sb2.trans ⟨k3, o3, hb3, ho3⟩
    have k03 : Kp [] H H3 := kp_drop ((Kp.refl [] H).new hb0) sb3.kp fun b hb => by rw [List.mem_singleton.mp hb]; exact hb0
    dsimp only
    refine ⟨by omega, fun pa hpa => ?_⟩
    have nbp : b0 ≠ pa := ne_of_none hb3 hpa
    have hb4 : upd H3 pa (.lst []) b0 = some o3 := by rw [upd_ne nbp]; exact hb3
    have k04 : Kp [] H (upd H3 pa (.lst [])) := k03.new hpa
    have pa0 : H pa = none := k03.free hpa
    have ep : upd H3 pa (.lst []) pa = some (.lst []) := upd_same
    generalize upd H3 pa (.lst []) = H4 at hb4 k04 ep ⊢
    refine ⟨is.map V.int, .inl (k04.seq (by simp) ha), 1, _, ⟨rfl, rfl⟩, ?_⟩
    obtain ⟨N, hN, N4⟩ : ∃ N : Nat, (if (if (7 : Int) < ((is.map V.int).length : Int) then (7 : Int) else ((is.map V.int).length : Int)) > 3 then if (7 : Int) < ((is.map V.int).length : Int) then (7 : Int) else ((is.map V.int).length : Int) else 3) = ((N + 1 : Nat) : Int) ∧ N ≤ 6 := by
      generalize ((is.map V.int).length : Int) = x
      by_cases c1 : (7 : Int) < x
      · rw [if_pos c1, if_pos (by decide)]; exact ⟨6, rfl, by omega⟩
      · rw [if_neg c1]
        by_cases c2 : x > 3
        · rw [if_pos c2]; exact ⟨x.toNat - 1, by omega, by omega⟩
        · rw [if_neg c2]; exact ⟨2, rfl, by omega⟩
    rw [hN]
    refine ⟨⟨by omega, by omega, by omega, by omega⟩, ?_⟩
    rw [show (((N + 1 : Nat) : Int) - 1).toNat = N by omega]
    obtain ⟨J0, hJ0⟩ : ∃ J0 : Nat → L2.St → Hp → Prop, ∀ i σ H', J0 i σ H' ↔ (∃ (b : Addr) (o : HO) (v4 v5 v6 v7 : Option V) (us : List V), σ = [some (.ref a), some (.ref b), some (.str zl), some (.ref pa), v4, v5, v6, v7, none, none, none] ∧ H' b = some o ∧ BoxO o ∧ b ≠ pa ∧ H' pa = some (.lst us) ∧ us.length = i ∧ (∀ u ∈ us, Ask H' u) ∧ Kp [] H H') := ⟨_, fun _ _ _ => Iff.rfl⟩
    refine loop_range J0 ?_ ?_ ?_
    · exact (hJ0 _ _ _).mpr ⟨b0, o3, _, _, _, _, [], rfl, hb4, ho3, nbp, ep, rfl, by simp, k04⟩
    · intro i σ Ha hi hj
      obtain ⟨b, o, v4, v5, v6, v7, us, rfl, hb, ho, nbpa, hpaa, ul, hus, ka⟩ := (hJ0 _ _ _).mp hj
      simp!
      refine ⟨a, 1 + (i : Int), is, rfl, ka.seq (by simp) ha, by omega, by omega, fun b1 o1 hb1 ho1 => ⟨by omega, fun l2 hl2 => ?_⟩⟩
      have kb : Kp [] Ha (upd Ha b1 o1) := (Kp.refl [] Ha).new hb1
      have sbb : SB (upd Ha b1 o1) b1 (upd Ha b1 o1) := ⟨Kp.refl _ _, o1, upd_same, ho1⟩
      have sbc := sbb.new (x := .lst [.int 3, .int 4]) hl2
      have k0b := ka.trans kb
      have hb1H : H b1 = none := ka.free hb1
      have npb : pa ≠ b1 := ne_of_none hpaa hb1
      have hpb := kb.old _ _ hpaa List.not_mem_nil
      generalize upd Ha b1 o1 = Hb at kb sbb sbc k0b hl2 hpb ⊢
      have done : ∀ {Hx : Hp}, SB Hb b1 Hx → Kp [] H Hx := fun sb => kp_drop ka ((kb.mono (by simp)).trans sb.kp) fun b hb => by rw [List.mem_singleton.mp hb]; exact hb1H
      generalize upd Hb l2 (.lst [.int 3, .int 4]) = Hc at sbc ⊢
      obtain ⟨wd, hwd, wd3, wd4⟩ : ∃ wd : Nat, atI [V.int 3, V.int 4] (if 1 + (i : Int) = 1 then 1 else 0) = some (.int (wd : Int)) ∧ 3 ≤ wd ∧ wd ≤ 4 := by
        split
        · exact ⟨4, rfl, by omega, by omega⟩
        · exact ⟨3, rfl, by omega, by omega⟩
      refine ⟨_, hwd, sbc.tq (by omega) (by omega) fun g Hd g0 g1 sbd kd => ⟨by omega, fun l3 hl3 => ?_⟩⟩
      obtain ⟨dd, rfl⟩ : ∃ n : Nat, g = (n : Int) := ⟨g.toNat, by omega⟩
      have dd3 : dd ≤ 3 := by omega
      have sbe := sbd.new (x := .lst [.int 7, .int 7, .int 7, .int 4]) hl3
      have el3 : upd Hd l3 (.lst [.int 7, .int 7, .int 7, .int 4]) l3 = some (.lst [.int 7, .int 7, .int 7, .int 4]) := upd_same
      generalize upd Hd l3 (.lst [.int 7, .int 7, .int 7, .int 4]) = He at sbe el3 ⊢
      obtain ⟨mm, hmm, mm4, mm7⟩ : ∃ mm : Nat, atI [V.int 7, V.int 7, V.int 7, V.int 4] (dd : Int) = some (.int (mm : Int)) ∧ 4 ≤ mm ∧ mm ≤ 7 := by
        rcases (by omega : dd = 0 ∨ dd = 1 ∨ dd = 2 ∨ dd = 3) with rfl | rfl | rfl | rfl
        · exact ⟨7, rfl, by omega, by omega⟩
        · exact ⟨7, rfl, by omega, by omega⟩
        · exact ⟨7, rfl, by omega, by omega⟩
        · exact ⟨4, rfl, by omega, by omega⟩
      obtain ⟨oe, hbe, hoe⟩ := sbe.bx
      simp!
      refine ⟨_, by rw [el3]; rfl, _, hmm, b1, zl, mm, oe, rfl, hbe, hoe, zlo, by omega, by omega, by omega, fun pd u v Hf sbf hpd0 hpd lu lv => ?_⟩
      refine ⟨pd, _, _, rfl, SqL.of hpd, _, _, rfl, _, _, rfl, rfl, ?_⟩
      have sbf' := sbe.trans sbf
      simp!
      have hpf := sbf'.kp.old _ _ hpb (by simpa using npb)
      refine ⟨by rw [hpf]; rfl, kinds_eq dd3 (by omega) (by omega) fun c Hg kg hc => ⟨by omega, fun p hp => ?_⟩⟩
      have hpg := kg.old _ _ hpf List.not_mem_nil
      have npp : pa ≠ p := ne_of_none hpg hp
      have sbg := sbf'.keep kg
      obtain ⟨ob, hbg, hob⟩ := sbg.bx
      have hph : upd Hg p (.tup [.str u, .str v, .int (dd : Int), .bl c]) pa = some (.lst us) := by rw [upd_ne npp]; exact hpg
      have kf : Kp [pa, b1] Ha (upd (upd Hg p (.tup [.str u, .str v, .int (dd : Int), .bl c])) pa (.lst (us ++ [.ref p]))) := (((kb.mono (by simp)).trans (sbg.kp.mono (by simp))).new hp).set hph (.inl (.head _))
      refine ⟨us, by rw [hph]; rfl, by omega, (hJ0 _ _ _).mpr ⟨b1, ob, _, _, _, _, us ++ [.ref p], rfl, by rw [upd_ne npb.symm, upd_ne (ne_of_none hbg hp)]; exact hbg, hob, npb.symm, upd_same, by simp [ul], fun x hx => ?_, ((done sbg).new hp).set hph (.inr pa0)⟩⟩
      rcases List.mem_append.mp hx with h | h
      · exact (hus x h).kp kf
      · rw [List.mem_singleton.mp h]
        exact ⟨p, u, v, dd, c, rfl, by rw [upd_ne npp.symm, upd_same], by omega, by omega, dd3, hc⟩
    · intro σ Ha hj
      obtain ⟨b, o, v4, v5, v6, v7, us, rfl, hb, ho, nbpa, hpaa, ul, hus, ka⟩ := (hJ0 _ _ _).mp hj
      simp!
      obtain ⟨J1, hJ1⟩ : ∃ J1 : Nat → L2.St → Hp → Prop, ∀ i σ H', J1 i σ H' ↔ (∃ (o : HO) (v4 v5 v6 v7 v8 v9 v10 : Option V), σ = [some (.ref a), some (.ref b), some (.str zl), some (.ref pa), v4, v5, v6, v7, v8, v9, v10] ∧ H' b = some o ∧ BoxO o ∧ H' pa = some (.lst us) ∧ (∀ u ∈ us, Ask H' u) ∧ Kp [] H H') := ⟨_, fun _ _ _ => Iff.rfl⟩
      refine ⟨by decide, by decide, loop_range J1 ?_ ?_ ?_⟩
      · exact (hJ1 _ _ _).mpr ⟨o, _, _, _, _, _, _, _, rfl, hb, ho, hpaa, hus, ka⟩
      · intro i1 σ Hb hi1 hj1
        obtain ⟨o1, v4, v5, v6, v7, v8, v9, v10, rfl, hb1, ho1, hp1, hus1, kb⟩ := (hJ1 _ _ _).mp hj1
        simp! [hp1]
        refine loop_list (xs := us) (fun _ σ H' => J1 0 σ H') ?_ ?_ ?_ ?_
        · exact (hJ1 _ _ _).mpr ⟨o1, _, _, _, _, _, _, _, rfl, hb1, ho1, hp1, hus1, kb⟩
        · intro j σ H' _ hj
          obtain ⟨_, _, _, _, _, _, _, _, _, _, _, h, _⟩ := (hJ1 _ _ _).mp hj
          exact h
        · intro j u σ Hc hju hj
          obtain ⟨o2, w4, w5, w6, w7, w8, w9, w10, rfl, hb2, ho2, hp2, hus2, kc⟩ := (hJ1 _ _ _).mp hj
          obtain ⟨t, x, y, d, c, rfl, ht, xl, yl, d3, hc⟩ := hus2 u (List.mem_of_getElem? hju)
          simp!
          refine ⟨t, _, rfl, SqT.of ht, rfl, _, _, rfl, _, _, rfl, _, _, rfl, _, _, rfl, rfl, ?_⟩
          simp!
          refine ⟨x, y, d, rfl, xl, yl, d3, fun c1 Hd hc1 kd => ?_⟩
          obtain rfl : c1 = c := Bool.eq_iff_iff.mpr (hc1.trans hc.symm)
          refine ⟨_, .bl _, _, T.isb, ?_⟩
          rw [if_neg (by decide)]
          simp!
          rw [if_neg (by simp)]
          refine ⟨y, x, d, rfl, yl, xl, d3, fun c2 He hc2 ke => ?_⟩
          obtain rfl : c2 = c1 := Bool.eq_iff_iff.mpr (hc2.trans ⟨fun h => hc1.mpr (Eqv.symm h), fun h => Eqv.symm (hc1.mp h)⟩)
          rw [rNeU_bl]
          refine ⟨_, rfl, ?_⟩
          rw [if_neg (by simp)]
          have kce := kd.trans ke
          exact (hJ1 _ _ _).mpr ⟨o2, _, _, _, _, _, _, _, rfl, kce.old _ _ hb2 List.not_mem_nil, ho2, kce.old _ _ hp2 List.not_mem_nil, fun u hu' => (hus2 u hu').kp kce, kc.trans kce⟩
        · intro σ Hc hj
          exact (hJ1 _ _ _).mpr ((hJ1 _ _ _).mp hj)
      · intro σ Hb hj1
        obtain ⟨o1, v4, v5, v6, v7, v8, v9, v10, rfl, hb1, ho1, hp1, hus1, kb⟩ := (hJ1 _ _ _).mp hj1
        simp!
        refine ⟨by omega, fun l4 hl4 => ?_⟩
        have sb1 : SB Hb b Hb := ⟨Kp.refl _ _, o1, hb1, ho1⟩
        have n4 := sb1.ne hl4
        have sb2 := sb1.new (x := .lst [.int 5, .int 7]) hl4
        have el4 : upd Hb l4 (.lst [.int 5, .int 7]) l4 = some (.lst [.int 5, .int 7]) := upd_same
        generalize upd Hb l4 (.lst [.int 5, .int 7]) = Hb2 at sb2 el4 ⊢
        refine sb2.tq (by decide) (by decide) fun g Hc g0 g1 sbc kc => ?_
        have el4c := kc.old _ _ el4 (by simpa using n4)
        obtain ⟨oc, hbc, hoc⟩ := sbc.bx
        simp!
        obtain ⟨mm, hmm, mm5, mm7⟩ : ∃ mm : Nat, atI [V.int 5, V.int 7] (if g = 0 then 1 else 0) = some (.int (mm : Int)) ∧ 5 ≤ mm ∧ mm ≤ 7 := by
          split
          · exact ⟨7, rfl, by omega, by omega⟩
          · exact ⟨5, rfl, by omega, by omega⟩
        refine ⟨_, by rw [el4c]; rfl, _, hmm, b, zl, mm, oc, rfl, hbc, hoc, zlo, by omega, by omega, by omega, fun pd u v Hf sbf hpd0 hpd lu lv => ⟨pd, _, _, rfl, SqL.of hpd, _, _, rfl, _, _, rfl, rfl, ?_⟩⟩
        simp!
        refine kinds_eq (d := 3) (by omega) (by omega) (by omega) fun c Hg kg hc => ?_
        refine ⟨u, v, 3, rfl, by omega, by omega, by omega, fun c1 Hh hc1 kh => ?_⟩
        obtain rfl : c1 = c := Bool.eq_iff_iff.mpr (hc1.trans hc.symm)
        refine ⟨_, .bl _, _, T.isb, ?_⟩
        rw [if_pos rfl]
        show Q (.bl (decide (c1 = c1))) Hh
        rw [decide_eq_true rfl]
        exact kQ _
end
theorem us1 {C : List Value → Prop} (h : ∀ v0 : Value, C [v0]) (us : List Value) (e : us.length = 1) : C us := by
  cases us with
  | nil => exact absurd e.symm (Nat.succ_ne_zero _)
  | cons v0 us =>
    cases us with
    | nil => exact h v0
    | cons _ _ => exact absurd (Nat.succ.inj (e)) (Nat.succ_ne_zero _)
theorem us2 {C : List Value → Prop} (h : ∀ v0 v1 : Value, C [v0, v1]) (us : List Value) (e : us.length = 2) : C us := by
  cases us with
  | nil => exact absurd e.symm (Nat.succ_ne_zero _)
  | cons v0 us =>
    cases us with
    | nil => exact absurd (Nat.succ.inj (e.symm)) (Nat.succ_ne_zero _)
    | cons v1 us =>
      cases us with
      | nil => exact h v0 v1
      | cons _ _ => exact absurd (Nat.succ.inj (Nat.succ.inj (e))) (Nat.succ_ne_zero _)
theorem us3 {C : List Value → Prop} (h : ∀ v0 v1 v2 : Value, C [v0, v1, v2]) (us : List Value) (e : us.length = 3) : C us := by
  cases us with
  | nil => exact absurd e.symm (Nat.succ_ne_zero _)
  | cons v0 us =>
    cases us with
    | nil => exact absurd (Nat.succ.inj (e.symm)) (Nat.succ_ne_zero _)
    | cons v1 us =>
      cases us with
      | nil => exact absurd (Nat.succ.inj (Nat.succ.inj (e.symm))) (Nat.succ_ne_zero _)
      | cons v2 us =>
        cases us with
        | nil => exact h v0 v1 v2
        | cons _ _ => exact absurd (Nat.succ.inj (Nat.succ.inj (Nat.succ.inj (e)))) (Nat.succ_ne_zero _)
theorem all_mk {l : PySem.W.OpenLaw} {w : World} {K : PySem.W.Frag} {h : Heap} {mg : Str → Option Value} {fa f1 f2 f3 f4 f5 f6 f7 f8 f9 f10 : Addr} (X : K.In h) (G : h.Ns mainGlobals mg) (hfa : mg "law" = some (.ref fa))
    {od1 od2 od3 od4 od5 od6 od7 od8 od9 od10 an1 an2 an3 an4 an5 an6 an7 an8 an9 an10 : Option Addr} {sl1 sl2 sl3 sl4 sl5 sl6 sl7 sl8 sl9 sl10 : Array (Option Value)} {oc1 kV1 dc1 pm1 cd1 ct1 oc2 kV2 dc2 pm2 cd2 ct2 oc3 kV3 dc3 pm3 cd3 ct3 oc4 kV4 dc4 pm4 cd4 ct4 oc5 kV5 dc5 pm5 cd5 ct5 oc6 kV6 dc6 pm6 cd6 ct6 oc7 kV7 dc7 pm7 cd7 ct7 oc8 kV8 dc8 pm8 cd8 ct8 oc9 kV9 dc9 pm9 cd9 ct9 oc10 kV10 dc10 pm10 cd10 ct10 : Value}
    {C CS : Addr} {tkY : Tok} {M0 : Addr} {vd0 va0 : Option Addr} {vs0 : Array (Option Value)} {vo0 vk0 vq0 vp0 vc0 vt0 : Value} {M1 : Addr} {vd1 va1 : Option Addr} {vs1 : Array (Option Value)} {vo1 vk1 vq1 vp1 vc1 vt1 : Value} {M2 : Addr} {vd2 va2 : Option Addr} {vs2 : Array (Option Value)} {vo2 vk2 vq2 vp2 vc2 vt2 : Value} {M3 : Addr} {vd3 va3 : Option Addr} {vs3 : Array (Option Value)} {vo3 vk3 vq3 vp3 vc3 vt3 : Value} {M4 : Addr} {vd4 va4 : Option Addr} {vs4 : Array (Option Value)} {vo4 vk4 vq4 vp4 vc4 vt4 : Value}
    (a1 : PySem.W.nsIn K mainGlobals "alike_up_to" = some (some (.ref f1))) (l1 : K.lookup f1 = some ⟨oc1, od1, .func (PySem.W.fnOf "alike_up_to" "alike_up_to" (defArgs s_alike_up_to) (defBody s_alike_up_to) (defScope s_alike_up_to) .none kV1 dc1 pm1 an1 cd1 ct1), sl1⟩) (c1 : PySem.W.codeIn K cd1 "alike_up_to" = true) (k1 : PySem.W.keepIn K (.ref f1) = true)
    (a2 : PySem.W.nsIn K mainGlobals "one_place_more" = some (some (.ref f2))) (l2 : K.lookup f2 = some ⟨oc2, od2, .func (PySem.W.fnOf "one_place_more" "one_place_more" (defArgs s_one_place_more) (defBody s_one_place_more) (defScope s_one_place_more) .none kV2 dc2 pm2 an2 cd2 ct2), sl2⟩) (c2 : PySem.W.codeIn K cd2 "one_place_more" = true) (k2 : PySem.W.keepIn K (.ref f2) = true)
    (a3 : PySem.W.nsIn K mainGlobals "plain_marks" = some (some (.ref f3))) (l3 : K.lookup f3 = some ⟨oc3, od3, .func (PySem.W.fnOf "plain_marks" "plain_marks" (defArgs s_plain_marks) (defBody s_plain_marks) (defScope s_plain_marks) .none kV3 dc3 pm3 an3 cd3 ct3), sl3⟩) (c3 : PySem.W.codeIn K cd3 "plain_marks" = true) (k3 : PySem.W.keepIn K (.ref f3) = true)
    (a4 : PySem.W.nsIn K mainGlobals "_law_box" = some (some (.ref f4))) (l4 : K.lookup f4 = some ⟨oc4, od4, .func (PySem.W.fnOf "_law_box" "_law_box" (defArgs s__law_box) (defBody s__law_box) (defScope s__law_box) .none kV4 dc4 pm4 an4 cd4 ct4), sl4⟩) (c4 : PySem.W.codeIn K cd4 "_law_box" = true) (k4 : PySem.W.keepIn K (.ref f4) = true)
    (a5 : PySem.W.nsIn K mainGlobals "_law_take" = some (some (.ref f5))) (l5 : K.lookup f5 = some ⟨oc5, od5, .func (PySem.W.fnOf "_law_take" "_law_take" (defArgs s__law_take) (defBody s__law_take) (defScope s__law_take) .none kV5 dc5 pm5 an5 cd5 ct5), sl5⟩) (c5 : PySem.W.codeIn K cd5 "_law_take" = true) (k5 : PySem.W.keepIn K (.ref f5) = true)
    (a6 : PySem.W.nsIn K mainGlobals "_law_letters" = some (some (.ref f6))) (l6 : K.lookup f6 = some ⟨oc6, od6, .func (PySem.W.fnOf "_law_letters" "_law_letters" (defArgs s__law_letters) (defBody s__law_letters) (defScope s__law_letters) .none kV6 dc6 pm6 an6 cd6 ct6), sl6⟩) (c6 : PySem.W.codeIn K cd6 "_law_letters" = true) (k6 : PySem.W.keepIn K (.ref f6) = true)
    (a7 : PySem.W.nsIn K mainGlobals "_law_text" = some (some (.ref f7))) (l7 : K.lookup f7 = some ⟨oc7, od7, .func (PySem.W.fnOf "_law_text" "_law_text" (defArgs s__law_text) (defBody s__law_text) (defScope s__law_text) .none kV7 dc7 pm7 an7 cd7 ct7), sl7⟩) (c7 : PySem.W.codeIn K cd7 "_law_text" = true) (k7 : PySem.W.keepIn K (.ref f7) = true)
    (a8 : PySem.W.nsIn K mainGlobals "_law_two" = some (some (.ref f8))) (l8 : K.lookup f8 = some ⟨oc8, od8, .func (PySem.W.fnOf "_law_two" "_law_two" (defArgs s__law_two) (defBody s__law_two) (defScope s__law_two) .none kV8 dc8 pm8 an8 cd8 ct8), sl8⟩) (c8 : PySem.W.codeIn K cd8 "_law_two" = true) (k8 : PySem.W.keepIn K (.ref f8) = true)
    (a9 : PySem.W.nsIn K mainGlobals "_law_kind" = some (some (.ref f9))) (l9 : K.lookup f9 = some ⟨oc9, od9, .func (PySem.W.fnOf "_law_kind" "_law_kind" (defArgs s__law_kind) (defBody s__law_kind) (defScope s__law_kind) .none kV9 dc9 pm9 an9 cd9 ct9), sl9⟩) (c9 : PySem.W.codeIn K cd9 "_law_kind" = true) (k9 : PySem.W.keepIn K (.ref f9) = true)
    (a10 : PySem.W.nsIn K mainGlobals "law" = some (some (.ref f10))) (l10 : K.lookup f10 = some ⟨oc10, od10, .func (PySem.W.fnOf "law" "law" (defArgs s_law) (defBody s_law) (defScope s_law) .none kV10 dc10 pm10 an10 cd10 ct10), sl10⟩) (c10 : PySem.W.codeIn K cd10 "law" = true) (k10 : PySem.W.keepIn K (.ref f10) = true)
    (z_len : PySem.W.nsIn K mainGlobals "len" = some none)
    (z_int : PySem.W.nsIn K mainGlobals "int" = some none)
    (z_range : PySem.W.nsIn K mainGlobals "range" = some none)
    (z_list : PySem.W.nsIn K mainGlobals "list" = some none)
    (z_tuple : PySem.W.nsIn K mainGlobals "tuple" = some none)
    (z_isinstance : PySem.W.nsIn K mainGlobals "isinstance" = some none)
    (z_bool : PySem.W.nsIn K mainGlobals "bool" = some none)
    (z_sorted : PySem.W.nsIn K mainGlobals "sorted" = some none)
    (z_set : PySem.W.nsIn K mainGlobals "set" = some none)
    (z_max : PySem.W.nsIn K mainGlobals "max" = some none)
    (z_min : PySem.W.nsIn K mainGlobals "min" = some none)
    (z_str : PySem.W.nsIn K mainGlobals "str" = some none)
    (aC : PySem.W.nsIn K mainGlobals "Rounds" = some (some (.ref C)))
    (aCS : PySem.W.nsIn K mainGlobals "SaySheet" = some (some (.ref CS)))
    (aY : PySem.W.nsIn K mainGlobals "YES" = some (some (.int 0 tkY)))
    (Cpg : PySem.W.plainGet K C Str.empty = true)
    (Chd : PySem.W.hasDictIn K C = true)
    (Cpo : PySem.W.plainOver K C = true)
    (Csa : PySem.W.findIn K (.ref C) "__setattr__" = some (some (.builtin "object.__setattr__")))
    (Cmk : PySem.W.makesIn K C = true)
    (Ckp : PySem.W.keepIn K (.ref C) = true)
    (CSpg : PySem.W.plainGet K CS Str.empty = true)
    (CShd : PySem.W.hasDictIn K CS = true)
    (CSpo : PySem.W.plainOver K CS = true)
    (CSsa : PySem.W.findIn K (.ref CS) "__setattr__" = some (some (.builtin "object.__setattr__")))
    (CSmk : PySem.W.makesIn K CS = true)
    (CSkp : PySem.W.keepIn K (.ref CS) = true)
    (Nsheet : PySem.W.findIn K (.ref C) "sheet" = some none)
    (Nknown : PySem.W.findIn K (.ref C) "known" = some none)
    (Nkinds : PySem.W.findIn K (.ref C) "kinds" = some none)
    (Nrows : PySem.W.findIn K (.ref CS) "rows" = some none)
    (Nnumbers : PySem.W.findIn K (.ref CS) "numbers" = some none)
    (fm0 : PySem.W.findIn K (.ref C) "__init__" = some (some (.ref M0)))
    (lm0 : K.lookup M0 = some ⟨vo0, vd0, .func (PySem.W.fnOf "__init__" "Rounds.__init__" (defArgs s_Rd_init) (defBody s_Rd_init) (defScope s_Rd_init) .none vk0 vq0 vp0 va0 vc0 vt0), vs0⟩)
    (cm0 : PySem.W.codeIn K vc0 "Rounds.__init__" = true)
    (km0 : PySem.W.keepIn K (.ref M0) = true)
    (im0 : PySem.W.isFn K (.ref M0) = true)
    (fm1 : PySem.W.findIn K (.ref C) "kind_of" = some (some (.ref M1)))
    (lm1 : K.lookup M1 = some ⟨vo1, vd1, .func (PySem.W.fnOf "kind_of" "Rounds.kind_of" (defArgs s_Rd_kind_of) (defBody s_Rd_kind_of) (defScope s_Rd_kind_of) .none vk1 vq1 vp1 va1 vc1 vt1), vs1⟩)
    (cm1 : PySem.W.codeIn K vc1 "Rounds.kind_of" = true)
    (km1 : PySem.W.keepIn K (.ref M1) = true)
    (im1 : PySem.W.isFn K (.ref M1) = true)
    (fm2 : PySem.W.findIn K (.ref C) "further_kinds" = some (some (.ref M2)))
    (lm2 : K.lookup M2 = some ⟨vo2, vd2, .func (PySem.W.fnOf "further_kinds" "Rounds.further_kinds" (defArgs s_Rd_further_kinds) (defBody s_Rd_further_kinds) (defScope s_Rd_further_kinds) .none vk2 vq2 vp2 va2 vc2 vt2), vs2⟩)
    (cm2 : PySem.W.codeIn K vc2 "Rounds.further_kinds" = true)
    (km2 : PySem.W.keepIn K (.ref M2) = true)
    (im2 : PySem.W.isFn K (.ref M2) = true)
    (fm3 : PySem.W.findIn K (.ref CS) "__init__" = some (some (.ref M3)))
    (lm3 : K.lookup M3 = some ⟨vo3, vd3, .func (PySem.W.fnOf "__init__" "SaySheet.__init__" (defArgs s_Sh_init) (defBody s_Sh_init) (defScope s_Sh_init) .none vk3 vq3 vp3 va3 vc3 vt3), vs3⟩)
    (cm3 : PySem.W.codeIn K vc3 "SaySheet.__init__" = true)
    (km3 : PySem.W.keepIn K (.ref M3) = true)
    (im3 : PySem.W.isFn K (.ref M3) = true)
    (fm4 : PySem.W.findIn K (.ref CS) "put_row" = some (some (.ref M4)))
    (lm4 : K.lookup M4 = some ⟨vo4, vd4, .func (PySem.W.fnOf "put_row" "SaySheet.put_row" (defArgs s_Sh_put_row) (defBody s_Sh_put_row) (defScope s_Sh_put_row) .none vk4 vq4 vp4 va4 vc4 vt4), vs4⟩)
    (cm4 : PySem.W.codeIn K vc4 "SaySheet.put_row" = true)
    (km4 : PySem.W.keepIn K (.ref M4) = true)
    (im4 : PySem.W.isFn K (.ref M4) = true)
    : ∃ fd : FuncData, (∀ (s : Shared) (v : Value), BindsTo s fd ⟨[v], []⟩ [("_law_script", v)]) ∧ ∀ base : Heap, K.In base → base.Ns mainGlobals mg → FnOk l.prog w K mg base CX0 13 fa fd ["_law_script"] (spLaw K) := by
  have e := hfa.symm.trans (PySem.W.mg_of X G a10)
  cases e
  have F_alike_up_to := fun_mk (st := s_alike_up_to) l1 c1 k1
  have m_alike_up_to := PySem.W.mg_of X G a1
  have b_alike_up_to := F_alike_up_to.binds (ps := ["one", "other", "depth"]) fun _ _ _ _ _ _ => us3 fun _ _ _ => rfl
  have F_one_place_more := fun_mk (st := s_one_place_more) l2 c2 k2
  have m_one_place_more := PySem.W.mg_of X G a2
  have b_one_place_more := F_one_place_more.binds (ps := ["chosen"]) fun _ _ _ _ _ _ => us1 fun _ => rfl
  have F_plain_marks := fun_mk (st := s_plain_marks) l3 c3 k3
  have m_plain_marks := PySem.W.mg_of X G a3
  have b_plain_marks := F_plain_marks.binds (ps := ["chosen"]) fun _ _ _ _ _ _ => us1 fun _ => rfl
  have F__law_box := fun_mk (st := s__law_box) l4 c4 k4
  have m__law_box := PySem.W.mg_of X G a4
  have b__law_box := F__law_box.binds (ps := ["_law_script", "_law_k"]) fun _ _ _ _ _ _ => us2 fun _ _ => rfl
  have F__law_take := fun_mk (st := s__law_take) l5 c5 k5
  have m__law_take := PySem.W.mg_of X G a5
  have b__law_take := F__law_take.binds (ps := ["_law_box_here", "_law_wide"]) fun _ _ _ _ _ _ => us2 fun _ _ => rfl
  have F__law_letters := fun_mk (st := s__law_letters) l6 c6 k6
  have m__law_letters := PySem.W.mg_of X G a6
  have b__law_letters := F__law_letters.binds (ps := ["_law_box_here", "_law_most"]) fun _ _ _ _ _ _ => us2 fun _ _ => rfl
  have F__law_text := fun_mk (st := s__law_text) l7 c7 k7
  have m__law_text := PySem.W.mg_of X G a7
  have b__law_text := F__law_text.binds (ps := ["_law_box_here", "_law_letters_here", "_law_most"]) fun _ _ _ _ _ _ => us3 fun _ _ _ => rfl
  have F__law_two := fun_mk (st := s__law_two) l8 c8 k8
  have m__law_two := PySem.W.mg_of X G a8
  have b__law_two := F__law_two.binds (ps := ["_law_box_here", "_law_letters_here", "_law_most"]) fun _ _ _ _ _ _ => us3 fun _ _ _ => rfl
  have F__law_kind := fun_mk (st := s__law_kind) l9 c9 k9
  have m__law_kind := PySem.W.mg_of X G a9
  have b__law_kind := F__law_kind.binds (ps := ["_law_text_here", "_law_places", "_law_depth"]) fun _ _ _ _ _ _ => us3 fun _ _ _ => rfl
  have F_law := fun_mk (st := s_law) l10 c10 k10
  have m_law := PySem.W.mg_of X G a10
  have b_law := F_law.binds (ps := ["_law_script"]) fun _ _ _ _ _ _ => us1 fun _ => rfl
  have n_len := PySem.W.mg_none_of X G z_len
  have n_int := PySem.W.mg_none_of X G z_int
  have n_range := PySem.W.mg_none_of X G z_range
  have n_list := PySem.W.mg_none_of X G z_list
  have n_tuple := PySem.W.mg_none_of X G z_tuple
  have n_isinstance := PySem.W.mg_none_of X G z_isinstance
  have n_bool := PySem.W.mg_none_of X G z_bool
  have n_sorted := PySem.W.mg_none_of X G z_sorted
  have n_set := PySem.W.mg_none_of X G z_set
  have n_max := PySem.W.mg_none_of X G z_max
  have n_min := PySem.W.mg_none_of X G z_min
  have n_str := PySem.W.mg_none_of X G z_str
  refine ⟨PySem.W.fnOf "law" "law" (defArgs s_law) (defBody s_law) (defScope s_law) .none kV10 dc10 pm10 an10 cd10 ct10, fun s v => .of_eq rfl, fun base _ _ => ?_⟩
  have si : PySem.W.kitOne K (.type "str") (.type "int") = some false := by
    unfold PySem.W.kitOne
    rw [if_neg (by decide)]
    unfold PySem.W.kitCls
    first | rfl | decide +kernel | simp
  have bb : PySem.W.kitOne K (.type "bool") (.type "bool") = some true := if_pos (by simp)
  have ii : PySem.W.kitOne K (.type "int") (.type "int") = some true := if_pos (by simp)
  have m_Rounds := PySem.W.mg_of X G aC
  have m_SaySheet := PySem.W.mg_of X G aCS
  have m_YES := PySem.W.mg_of X G aY
  have cls : Cls K C := ⟨Cpg, Chd, Cpo, Csa⟩
  have clsS : Cls K CS := ⟨CSpg, CShd, CSpo, CSsa⟩
  have rk : RK K C := ⟨cls, Nsheet, Nknown, Nkinds⟩
  have sk : SK K CS := ⟨clsS, Nrows, Nnumbers⟩
  have F_init := fun_mk (st := s_Rd_init) lm0 cm0 km0
  have b_init := F_init.binds (ps := ["self"]) fun _ _ _ _ _ _ => us1 fun _ => rfl
  have F_kind_of := fun_mk (st := s_Rd_kind_of) lm1 cm1 km1
  have b_kind_of := F_kind_of.binds (ps := ["self", "chosen", "depth"]) fun _ _ _ _ _ _ => us3 fun _ _ _ => rfl
  have d_kind_of : Meth K C "kind_of" M1 := ⟨fm1, im1, km1⟩
  have F_further_kinds := fun_mk (st := s_Rd_further_kinds) lm2 cm2 km2
  have b_further_kinds := F_further_kinds.binds (ps := ["self", "chosen", "depth"]) fun _ _ _ _ _ _ => us3 fun _ _ _ => rfl
  have d_further_kinds : Meth K C "further_kinds" M2 := ⟨fm2, im2, km2⟩
  have F_sinit := fun_mk (st := s_Sh_init) lm3 cm3 km3
  have b_sinit := F_sinit.binds (ps := ["self"]) fun _ _ _ _ _ _ => us1 fun _ => rfl
  have F_put_row := fun_mk (st := s_Sh_put_row) lm4 cm4 km4
  have b_put_row := F_put_row.binds (ps := ["self", "row"]) fun _ _ _ _ _ _ => us2 fun _ _ => rfl
  have d_put_row : Meth K CS "put_row" M4 := ⟨fm4, im4, km4⟩
  have mkR : Mk K C M0 := ⟨Cmk, fm0, im0, Ckp⟩
  have mkS : Mk K CS M3 := ⟨CSmk, fm3, im3, CSkp⟩
  have g__law_take := ok__law_take (P := l.prog) (w := w) (mg := mg) (base := base) F__law_take
  have g__law_box := ok__law_box (P := l.prog) (w := w) (mg := mg) (base := base) F__law_box ⟨n_len, n_int⟩
  have g__law_letters := ok__law_letters (P := l.prog) (w := w) (mg := mg) (base := base) F__law_letters ⟨n_len, n_list, n_range, m__law_take⟩ F__law_take b__law_take g__law_take
  have g__law_text := ok__law_text (P := l.prog) (w := w) (mg := mg) (base := base) F__law_text ⟨n_len, n_range, m__law_take⟩ F__law_take b__law_take g__law_take
  have g_one_place_more := ok_one_place_more (P := l.prog) (w := w) (mg := mg) (base := base) F_one_place_more ⟨n_range, n_len⟩
  have g_plain_marks := ok_plain_marks (P := l.prog) (w := w) (mg := mg) (base := base) F_plain_marks ⟨n_tuple⟩
  have g_put_row := ok_put_row (P := l.prog) (w := w) (mg := mg) (base := base) F_put_row ⟨n_len, sk⟩
  have g_sinit := ok_sinit (P := l.prog) (w := w) (mg := mg) (base := base) F_sinit ⟨sk, clsS, d_put_row, m_YES⟩ b_put_row g_put_row
  have g_init := ok_init (P := l.prog) (w := w) (mg := mg) (base := base) F_init ⟨rk, mkS, m_SaySheet⟩ b_sinit g_sinit
  have g_kind_of := ok_kinds (P := l.prog) (w := w) (mg := mg) (base := base) F_kind_of F_further_kinds b_kind_of b_further_kinds ⟨n_len, n_tuple, n_sorted, n_set, rk, cls, d_further_kinds, m_plain_marks⟩ ⟨cls, d_kind_of, m_one_place_more⟩ F_plain_marks b_plain_marks g_plain_marks F_one_place_more b_one_place_more g_one_place_more 4
  have g_alike_up_to := ok_alike_up_to (P := l.prog) (w := w) (mg := mg) (base := base) F_alike_up_to ⟨mkR, m_Rounds, cls, d_kind_of⟩ b_init g_init b_kind_of g_kind_of
  have g__law_two := ok__law_two (P := l.prog) (w := w) (mg := mg) (base := base) F__law_two ⟨n_len, n_max, m__law_take, m__law_text⟩ F__law_take b__law_take g__law_take F__law_text b__law_text g__law_text
  have g__law_kind := kinds_all (ok__law_kind (P := l.prog) (w := w) (mg := mg) (base := base) F__law_kind ⟨n_sorted, n_set, n_tuple, n_range, n_len, n_str, m__law_kind⟩ b__law_kind)
  exact ok_law F_law ⟨bb, n_range, n_max, n_min, n_len, n_int, n_isinstance, n_bool, m__law_box, m__law_letters, m__law_take, m__law_two, m__law_kind, m_alike_up_to⟩ F__law_box b__law_box g__law_box F__law_letters b__law_letters g__law_letters F__law_take b__law_take g__law_take F__law_two b__law_two g__law_two F__law_kind b__law_kind g__law_kind F_alike_up_to b_alike_up_to g_alike_up_to
theorem walk {l : PySem.W.OpenLaw} {q : Program} {loose : List Str} {XP : (Str → Option Value) → Heap → Prop} {YP : World → Heap → Prop} {d : DefRec} {K : Params → PySem.W.Frag} (hn : l.most = some 63) (hdf : d.params.defaults = [])
    (hY : ∀ (w : World) (h : Heap), YP w h → (K w.params).In h)
    (F : ∀ (w : World) (mg : Str → Option Value) (fa : Addr) (h : Heap), (K w.params).In h → h.Ns mainGlobals mg → mg d.name = some (.ref fa) →
      ∃ fd : FuncData, (∀ (s : Shared) (u : Value), BindsTo s fd ⟨[u], []⟩ [("_law_script", u)]) ∧ ∀ base : Heap, (K w.params).In base → base.Ns mainGlobals mg → FnOk l.prog w (K w.params) mg base CX0 13 fa fd ["_law_script"] (spLaw (K w.params))) :
    PySem.W.WalkO q loose XP YP l.row.toRowW d [] (fun f vs => PySem.call f vs) :=
  L2.walk_of (n := 63) (k := 13) (x := "_law_script") (CX := fun _ => CX0) (sp := fun w => spLaw (K w.params)) hn (by decide) hdf ⟨rfl, by decide, by decide, rfl⟩ hY F (fun _ _ a ns hl _ hS => ⟨a, ns, rfl, hS, hl, fun _ => rfl⟩) fun _ _ _ _ _ z => z
end My
theorem PySem.W.Fast.tw1778210129004245104 : True := trivial
theorem PySem.W.Fast.tw16876067013601752424 : True := trivial
theorem PySem.W.Fast.tw11904624529183255090 : True := trivial
theorem PySem.W.Fast.tw4925639749600636181 : True := trivial
theorem PySem.W.Fast.tw6574485978645495373 : True := trivial
theorem PySem.W.Fast.tw1565916491822923172 : True := trivial
theorem PySem.W.Fast.tw15012566156753132610 : True := trivial
theorem PySem.W.Fast.tw2279155760869671486 : True := trivial
theorem PySem.W.Fast.tw6509583637972441093 : True := trivial
theorem PySem.W.Fast.tw17777626926048891683 : True := trivial
theorem PySem.W.Fast.tw12938295578307966035 : True := trivial
theorem PySem.W.Fast.tw11370135228619955155 : True := trivial
theorem PySem.W.Fast.tw6992630722322877580 : True := trivial
theorem PySem.W.Fast.tw5530319688264081828 : True := trivial
theorem PySem.W.Fast.tw15700365610238520930 : True := trivial
theorem PySem.W.Fast.tw13120982450970966268 : True := trivial
theorem PySem.W.Fast.tw10724013324002542186 : True := trivial
theorem PySem.W.Fast.tw15915444001969794860 : True := trivial
theorem PySem.W.Fast.tw7786315998372553337 : True := trivial
theorem PySem.W.Fast.tw17840596848890877565 : True := trivial
theorem PySem.W.Fast.tw17759856230266226742 : True := trivial
theorem PySem.W.Fast.tw4987168328352580773 : True := trivial
theorem PySem.W.Fast.tw431028708808713716 : True := trivial
theorem PySem.W.Fast.tw5759471215358242503 : True := trivial
theorem PySem.W.Fast.tw7624948038447504951 : True := trivial
theorem PySem.W.Fast.tw5227411298499649801 : True := trivial
theorem PySem.W.Fast.tw1130181470951227856 : True := trivial
theorem PySem.W.Fast.tw5576796889800313301 : True := trivial
theorem PySem.W.Fast.tw5457577871488917717 : True := trivial
theorem PySem.W.Fast.tw8139247702740239074 : True := trivial
theorem PySem.W.Fast.tw11514067756242325919 : True := trivial
theorem PySem.W.Fast.tw6146463735470759461 : True := trivial
theorem PySem.W.Fast.tw18425507720118360513 : True := trivial
theorem PySem.W.Fast.tw12580631484243207261 : True := trivial
theorem PySem.W.Fast.tw4186229745564018988 : True := trivial
theorem PySem.W.Fast.tw12170123154987352803 : True := trivial
theorem PySem.W.Fast.tw7551887230764490480 : True := trivial
theorem PySem.W.Fast.tw5561984543674129618 : True := trivial
theorem PySem.W.Fast.tw477420172667306722 : True := trivial
theorem PySem.W.Fast.tw4329629345906168450 : True := trivial
theorem PySem.W.Fast.tw2793485345959932747 : True := trivial
theorem PySem.W.Fast.tw8526014848300712570 : True := trivial
theorem PySem.W.Fast.tw16785778176101272564 : True := trivial
theorem PySem.W.Fast.tw7601587847212471013 : True := trivial
theorem PySem.W.Fast.tw439469685801337855 : True := trivial
theorem PySem.W.Fast.tw5610800822424923120 : True := trivial
theorem PySem.W.Fast.tw9834590450912802992 : True := trivial
theorem PySem.W.Fast.tw6136242735030374309 : True := trivial
theorem PySem.W.Fast.tw16429921869977366614 : True := trivial
theorem PySem.W.Fast.tw3250707622528860933 : True := trivial
theorem PySem.W.Fast.tw6913172358608142151 : True := trivial
theorem PySem.W.Fast.tw7144672252499465632 : True := trivial
theorem PySem.W.Fast.tw9668779082954596626 : True := trivial
theorem PySem.W.Fast.tw9594486264381358811 : True := trivial
theorem PySem.W.Fast.tw9174071741087401090 : True := trivial
theorem PySem.W.Fast.tw1076631178643959928 : True := trivial
theorem PySem.W.Fast.tw11172263076270837968 : True := trivial
theorem PySem.W.Fast.tw5039883927600139776 : True := trivial
theorem PySem.W.Fast.tw11252409057816980781 : True := trivial
theorem PySem.W.Fast.tw1125743121463189974 : True := trivial
open PySem PySem.W PyProof.Rows
set_option maxRecDepth 100000 in
set_option maxHeartbeats 0 in
theorem PySem.Challenge.cw_calmword_k48_rounds_holds : PySem.Challenge.rw_calmword_k48_rounds.Holds := by
  w_on; o_law; k_head; (case hw => w_witness2)
  k_fill
  refine My.walk (l := PySem.Challenge.rw_calmword_k48_rounds) rfl rfl (fun w h Y => PySem.W.kIn_of Y) ?F
  case F =>
    intro w mg fa h KX G hmg
    refine' My.all_mk KX G hmg ?a1 ?l1 ?c1 ?k1 ?a2 ?l2 ?c2 ?k2 ?a3 ?l3 ?c3 ?k3 ?a4 ?l4 ?c4 ?k4 ?a5 ?l5 ?c5 ?k5 ?a6 ?l6 ?c6 ?k6 ?a7 ?l7 ?c7 ?k7 ?a8 ?l8 ?c8 ?k8 ?a9 ?l9 ?c9 ?k9 ?a10 ?l10 ?c10 ?k10 ?z_len ?z_int ?z_range ?z_list ?z_tuple ?z_isinstance ?z_bool ?z_sorted ?z_set ?z_max ?z_min ?z_str ?aC ?aCS ?aY ?Cpg ?Chd ?Cpo ?Csa ?Cmk ?Ckp ?CSpg ?CShd ?CSpo ?CSsa ?CSmk ?CSkp ?Nsheet ?Nknown ?Nkinds ?Nrows ?Nnumbers ?fm0 ?lm0 ?cm0 ?km0 ?im0 ?fm1 ?lm1 ?cm1 ?km1 ?im1 ?fm2 ?lm2 ?cm2 ?km2 ?im2 ?fm3 ?lm3 ?cm3 ?km3 ?im3 ?fm4 ?lm4 ?cm4 ?km4 ?im4
    (case a1 => k_is)
    (case l1 => k_is)
    (case c1 => k_is)
    (case k1 => k_is)
    (case a2 => k_is)
    (case l2 => k_is)
    (case c2 => k_is)
    (case k2 => k_is)
    (case a3 => k_is)
    (case l3 => k_is)
    (case c3 => k_is)
    (case k3 => k_is)
    (case a4 => k_is)
    (case l4 => k_is)
    (case c4 => k_is)
    (case k4 => k_is)
    (case a5 => k_is)
    (case l5 => k_is)
    (case c5 => k_is)
    (case k5 => k_is)
    (case a6 => k_is)
    (case l6 => k_is)
    (case c6 => k_is)
    (case k6 => k_is)
    (case a7 => k_is)
    (case l7 => k_is)
    (case c7 => k_is)
    (case k7 => k_is)
    (case a8 => k_is)
    (case l8 => k_is)
    (case c8 => k_is)
    (case k8 => k_is)
    (case a9 => k_is)
    (case l9 => k_is)
    (case c9 => k_is)
    (case k9 => k_is)
    (case a10 => k_is)
    (case l10 => k_is)
    (case c10 => k_is)
    (case k10 => k_is)
    (case z_len => k_is)
    (case z_int => k_is)
    (case z_range => k_is)
    (case z_list => k_is)
    (case z_tuple => k_is)
    (case z_isinstance => k_is)
    (case z_bool => k_is)
    (case z_sorted => k_is)
    (case z_set => k_is)
    (case z_max => k_is)
    (case z_min => k_is)
    (case z_str => k_is)
    (case aC => k_is)
    (case aCS => k_is)
    (case aY => k_is)
    (case Cpg => first | k_is | kernel_rfl)
    (case Chd => first | k_is | kernel_rfl)
    (case Cpo => first | k_is | kernel_rfl)
    (case Csa => first | k_is | kernel_rfl)
    (case Cmk => first | k_is | kernel_rfl)
    (case Ckp => first | k_is | kernel_rfl)
    (case CSpg => first | k_is | kernel_rfl)
    (case CShd => first | k_is | kernel_rfl)
    (case CSpo => first | k_is | kernel_rfl)
    (case CSsa => first | k_is | kernel_rfl)
    (case CSmk => first | k_is | kernel_rfl)
    (case CSkp => first | k_is | kernel_rfl)
    (case Nsheet => first | k_is | kernel_rfl)
    (case Nknown => first | k_is | kernel_rfl)
    (case Nkinds => first | k_is | kernel_rfl)
    (case Nrows => first | k_is | kernel_rfl)
    (case Nnumbers => first | k_is | kernel_rfl)
    (case fm0 => first | k_is | kernel_rfl)
    (case lm0 => k_is)
    (case cm0 => first | k_is | kernel_rfl)
    (case km0 => first | k_is | kernel_rfl)
    (case im0 => first | k_is | kernel_rfl)
    (case fm1 => first | k_is | kernel_rfl)
    (case lm1 => k_is)
    (case cm1 => first | k_is | kernel_rfl)
    (case km1 => first | k_is | kernel_rfl)
    (case im1 => first | k_is | kernel_rfl)
    (case fm2 => first | k_is | kernel_rfl)
    (case lm2 => k_is)
    (case cm2 => first | k_is | kernel_rfl)
    (case km2 => first | k_is | kernel_rfl)
    (case im2 => first | k_is | kernel_rfl)
    (case fm3 => first | k_is | kernel_rfl)
    (case lm3 => k_is)
    (case cm3 => first | k_is | kernel_rfl)
    (case km3 => first | k_is | kernel_rfl)
    (case im3 => first | k_is | kernel_rfl)
    (case fm4 => first | k_is | kernel_rfl)
    (case lm4 => k_is)
    (case cm4 => first | k_is | kernel_rfl)
    (case km4 => first | k_is | kernel_rfl)
    (case im4 => first | k_is | kernel_rfl)
