import PyProof.Rows.All
import Wide.All
import OpenK.AllK
import Wide.FinOn
import Lean
import PyProof.EqAt
import PyProof.EqKinds
import PyProof.TupleCall
import PySem.Challenge.RW_calmword_k33_free_names_and_depths
set_option Elab.async false
set_option linter.all false
set_option maxRecDepth 100000
namespace L2
open PySem PySem.Spec PyProof.Rows
abbrev Key := Sum Int Str
def keyIs : Key → Value → Bool
  | .inl k, v => Value.isInt k v
  | .inr x, v => Value.isStrOf x v
def keyH (w : World) : Key → Int
  | .inl k => hashInt k
  | .inr x => hashStr w x
theorem keyIs_shape : ∀ {k : Key} {v : Value}, keyIs k v = true → (∃ i t, k = Sum.inl i ∧ v = Value.int i t) ∨ (∃ x t, k = Sum.inr x ∧ v = Value.str x t)
  | .inl i, v, h => by
    obtain ⟨t, e⟩ := Value.isInt_shape (k := i) (v := v) h
    exact .inl ⟨i, t, rfl, e⟩
  | .inr x, v, h => by
    obtain ⟨t, e⟩ := Value.isStrOf_shape (x := x) (v := v) h
    exact .inr ⟨x, t, rfl, e⟩
theorem key_ll (a b : Int) : decide ((Sum.inl a : Key) = Sum.inl b) = (a == b) := by
  by_cases e : a = b
  · subst e; simp
  · have h : ¬ (Sum.inl a : Key) = Sum.inl b := fun q => e (Sum.inl.inj q)
    rw [decide_eq_false h]
    exact (beq_eq_false_iff_ne.mpr e).symm
theorem key_rr (a b : Str) : decide ((Sum.inr a : Key) = Sum.inr b) = decide (a = b) := by
  by_cases e : a = b
  · subst e; simp
  · have h : ¬ (Sum.inr a : Key) = Sum.inr b := fun q => e (Sum.inr.inj q)
    rw [decide_eq_false h, decide_eq_false e]
theorem key_lr (a : Int) (b : Str) : decide ((Sum.inl a : Key) = Sum.inr b) = false := decide_eq_false (fun q => nomatch q)
theorem key_rl (a : Str) (b : Int) : decide ((Sum.inr a : Key) = Sum.inl b) = false := decide_eq_false (fun q => nomatch q)
def mixKind (prog : Program) (w : World) : PySem.KeyKind prog w Key where
  is := keyIs
  hash := keyH w
  inj := fun v a b ha hb => by
    rcases keyIs_shape ha with ⟨i, t, rfl, rfl⟩ | ⟨x, t, rfl, rfl⟩
    · rcases keyIs_shape hb with ⟨j, u, rfl, e⟩ | ⟨y, u, rfl, e⟩
      · injection e with e1 _; rw [e1]
      · exact nomatch e
    · rcases keyIs_shape hb with ⟨j, u, rfl, e⟩ | ⟨y, u, rfl, e⟩
      · exact nomatch e
      · injection e with e1 _; rw [e1]
  byValue := fun k v h => by
    rcases keyIs_shape h with ⟨i, t, rfl, rfl⟩ | ⟨x, t, rfl, rfl⟩ <;> rfl
  pyHash := fun hv h => by
    rcases keyIs_shape hv with ⟨i, t, rfl, rfl⟩ | ⟨x, t, rfl, rfl⟩
    · exact wpAny_pyHash_int h
    · exact wpAny_pyHash_str h
  eqBool := fun hu hv h => by
    rcases keyIs_shape hu with ⟨i, t, rfl, rfl⟩ | ⟨x, t, rfl, rfl⟩
    · rcases keyIs_shape hv with ⟨j, u, rfl, rfl⟩ | ⟨y, u, rfl, rfl⟩
      · rw [key_ll] at h; exact wpAny_eqBool_int h
      · rw [key_lr] at h; exact SeqAt.EqAt.int_str i t y u _ _ _ _ h
    · rcases keyIs_shape hv with ⟨j, u, rfl, rfl⟩ | ⟨y, u, rfl, rfl⟩
      · rw [key_rl] at h; exact SeqAt.EqAt.str_int x t j u _ _ _ _ h
      · rw [key_rr] at h; exact wpAny_eqBool_str h
  «strs» := fun k x t v h => by
    rcases keyIs_shape h with ⟨i, u, rfl, e⟩ | ⟨y, u, rfl, e⟩
    · exact nomatch e
    · injection e with e1 _
      subst e1
      cases v <;> rfl
end L2
namespace L2
open PySem PySem.Spec PyProof.Rows
inductive V where
  | non | bl (b : Bool) | int (i : Int) | str (x : Str) | byt (b : Array UInt8) | flt (b : UInt64) | ref (a : Addr) | ty (n : String)
  deriving DecidableEq
def RelV : V → Value → Prop
  | .non, u => u = Value.none
  | .bl b, u => u = Value.bool b
  | .int i, u => ∃ t, u = Value.int i t
  | .str x, u => ∃ t, u = Value.str x t
  | .byt b, u => ∃ t, u = Value.bytes b t
  | .flt b, u => ∃ t, u = Value.float b t
  | .ref a, u => u = Value.ref a
  | .ty n, u => u = Value.type n
abbrev Vals : List V → List Value → Prop := Paired RelV
theorem Vals.length {xs : List V} {us : List Value} (r : Vals xs us) : xs.length = us.length := Paired.length r
theorem Vals.get : ∀ {xs : List V} {us : List Value} {i : Nat} {x : V}, Vals xs us → xs[i]? = some x → ∃ u, us[i]? = some u ∧ RelV x u
  | _, _, _, _, .nil, e => by simp at e
  | _, _, 0, _, .cons r _, e => by simp at e; subst e; exact ⟨_, rfl, r⟩
  | _, _, i + 1, x, .cons _ t, e => by
    obtain ⟨u, h1, h2⟩ := Vals.get (i := i) (x := x) t (by simpa using e)
    exact ⟨u, by simpa using h1, h2⟩
theorem Vals.set {x : V} {u : Value} (r : RelV x u) : ∀ {xs : List V} {us : List Value} (i : Nat), Vals xs us → Vals (xs.set i x) (us.set i u)
  | _, _, _, .nil => .nil
  | _, _, 0, .cons _ t => .cons r t
  | _, _, i + 1, .cons q t => .cons q (Vals.set r i t)
theorem Vals.append : ∀ {xs ys : List V} {us ws : List Value}, Vals xs us → Vals ys ws → Vals (xs ++ ys) (us ++ ws)
  | _, _, _, _, .nil, s => s
  | _, _, _, _, .cons r t, s => .cons r (Vals.append t s)
theorem Vals.take : ∀ {xs : List V} {us : List Value} (n : Nat), Vals xs us → Vals (xs.take n) (us.take n)
  | _, _, 0, _ => .nil
  | _, _, _ + 1, .nil => .nil
  | _, _, n + 1, .cons r t => .cons r (Vals.take n t)
theorem Vals.drop : ∀ {xs : List V} {us : List Value} (n : Nat), Vals xs us → Vals (xs.drop n) (us.drop n)
  | _, _, 0, r => r
  | _, _, _ + 1, .nil => .nil
  | _, _, n + 1, .cons _ t => Vals.drop n t
def RelO : Option V → Option Value → Prop
  | some v, some u => RelV v u
  | none, none => True
  | _, _ => False
def KV {κ : Type} : List (κ × V) → List (κ × Value) → Prop := Paired fun (p : κ × V) (q : κ × Value) => p.1 = q.1 ∧ RelV p.2 q.2
def kV : Key → V
  | .inl i => .int i
  | .inr x => .str x
inductive HO where
    | lst (xs : List V)
    | tup (xs : List V)
    | dK (kvs : List (Key × V)) | dT (kvs : List (List Key × V))
    | set (S : Int → Bool) (n : Nat)
    | ins (C dx : Addr) (fs : List (Str × V))
    | own (x : Addr)
    | xd (fs : List (Str × V))
    | met (f x : Addr)
    | rng (lo hi : Int)
    | frz (o : Obj) (u : HO)
    | tbl (ps : Array Value)
    | ext (φ : Heap → Prop)
abbrev Hp := Addr → Option HO
def upd (H : Hp) (a : Addr) (o : HO) : Hp := fun b => if b = a then some o else H b
theorem upd_same {H : Hp} {a : Addr} {o : HO} : upd H a o a = some o := by unfold upd; rw [if_pos rfl]
theorem upd_ne {H : Hp} {a b : Addr} {o : HO} (h : b ≠ a) : upd H a o b = H b := by unfold upd; rw [if_neg h]
theorem upd_upd {H : Hp} {a : Addr} {o u : HO} : upd (upd H a o) a u = upd H a u := by
  funext b; unfold upd; split <;> rfl
theorem ne_of {H : Hp} {a b : Addr} {o u : HO} (h : H a = some o) (h' : H b = some u) (d : o ≠ u) : a ≠ b := by
  intro e; subst e; rw [h] at h'; exact d (Option.some.inj h')
theorem ne_of_none {H : Hp} {a b : Addr} {o : HO} (h : H a = some o) (h' : H b = none) : a ≠ b := by
  intro e; subst e; rw [h] at h'; cases h'
section
variable (P : Program) (w : World)
def ObjOk (H : Hp) (h : Heap) (a : Addr) : HO → Prop
  | .lst xs => xs.length ≤ sizeLine ∧ ∃ (its : List Value) (n : Nat), Vals xs its ∧ h.get? a = some { cls := .type "list", data := .seq its.toArray n }
  | .tup xs => xs.length ≤ sizeLine ∧ ∃ its : List Value, Vals xs its ∧ IsTup h a its.toArray
  | .dK kvs => kvs.length ≤ sizeLine ∧ (a == sysModules) = false ∧ ∃ vs, KV kvs vs ∧ h.DictOf (mixKind P w) a vs
  | .dT kvs => kvs.length ≤ sizeLine ∧ (a == sysModules) = false ∧ ∃ xs : List (List Key × Addr × Value),
      Paired (fun (p : List Key × V) (q : List Key × Addr × Value) => p.1 = q.1 ∧ H q.2.1 = some (.tup (p.1.map kV)) ∧ RelV p.2 q.2.2) kvs xs ∧
      ∃ o es ep, h.get? a = some o ∧ o.ExactDict ∧ o.data = .dict es ep ∧ es.toList = xs.map (entryOfKey (tupleKind (mixKind P w))) ∧ (xs.map (·.1)).Nodup
  | .set S n => h.SetOf (intKind P w) a S n
  | .ins C dx fs => H dx = some (.own a) ∧ fs.length ≤ 1000 ∧ dx ≠ a ∧ h.get? a = some (PySem.W.instObj C dx) ∧
      ∃ mA, h.Ns1 dx mA ∧ (∀ f, RelO (fs.lookup f) (mA f)) ∧ PySem.Within mA (fs.map (·.1))
  | .own _ => ∃ o, h.get? a = some o
  | .xd fs => ∃ mA, h.Ns1 a mA ∧ ∀ f, RelO (fs.lookup f) (mA f)
  | .rng lo hi => ∃ t u v, h.get? a = some { cls := .type "range", data := .fields #[.int lo t, .int hi u, .int 1 v] }
  | .frz o u => h.get? a = some o ∧ ObjOk H h a u
  | .tbl ps => h.get? a = some { cls := .none, data := .fields ps }
  | .met f x => h.get? a = some (PySem.W.methodObj (.ref f) (.ref x))
  | .ext φ => φ h ∧ (∃ o, h.get? a = some o) ∧ ∀ h1 h2 : Heap, φ h1 → (∀ o, h1.get? a = some o → h2.get? a = some o) → φ h2
def HOk (H : Hp) (h : Heap) : Prop := ∀ a o, H a = some o → ObjOk P w H h a o
end
section
variable {P : Program} {w : World} {H H' : Hp} {h h' : Heap} {a : Addr} {o : HO}
theorem ObjOk.lt (x : ObjOk P w H h a o) : a < h.objs.size := by
  cases o with
  | lst xs => obtain ⟨_, _, _, _, e⟩ := x; exact Heap.lt_size e
  | tup xs => obtain ⟨_, _, _, p⟩ := x; exact p.lt
  | dK kvs => obtain ⟨_, _, _, _, o, _, _, e, _⟩ := x; exact Heap.lt_size e
  | dT kvs => obtain ⟨_, _, _, _, o, _, _, e, _⟩ := x; exact Heap.lt_size e
  | set S n => obtain ⟨o, _, _, _, e, _⟩ := x; exact Heap.lt_size e
  | ins C dx fs => obtain ⟨_, _, _, e, _⟩ := x; exact Heap.lt_size e
  | own y => obtain ⟨_, e⟩ := x; exact Heap.lt_size e
  | xd fs => obtain ⟨_, ⟨_, _, _, e, _⟩, _⟩ := x; exact Heap.lt_size e
  | rng lo hi => obtain ⟨_, _, _, e⟩ := x; exact Heap.lt_size e
  | frz ob u => obtain ⟨e, _⟩ := x; exact Heap.lt_size e
  | tbl ps => exact Heap.lt_size (show h.get? a = some _ from x)
  | met f y => exact Heap.lt_size (show h.get? a = some _ from x)
  | ext φ => obtain ⟨_, ⟨_, e⟩, _⟩ := x; exact Heap.lt_size e
theorem Paired.mapP {α β : Type} {F G : α → β → Prop} : ∀ {l₁ : List α} {l₂ : List β}, Paired F l₁ l₂ → (∀ a b, F a b → G a b) → Paired G l₁ l₂
  | _, _, .nil, _ => .nil
  | _, _, .cons r t, f => .cons (f _ _ r) (Paired.mapP t f)
theorem ObjOk.stay (x : ObjOk P w H h a o) (k : ∀ b u, (b = a ∨ H b = some (.own a)) → h.get? b = some u → h'.get? b = some u)
    (ho : ∀ b, H b = some (.own a) → H' b = some (.own a)) (ht : ∀ b xs, H b = some (.tup xs) → H' b = some (.tup xs)) : ObjOk P w H' h' a o := by
  induction o with
  | lst xs => obtain ⟨z, its, n, r, e⟩ := x; exact ⟨z, its, n, r, k _ _ (.inl rfl) e⟩
  | tup xs => obtain ⟨z, its, r, ob, e, c⟩ := x; exact ⟨z, its, r, ob, k _ _ (.inl rfl) e, c⟩
  | dK kvs => obtain ⟨z, y, vs, r, ob, es, ep, e, c⟩ := x; exact ⟨z, y, vs, r, ob, es, ep, k _ _ (.inl rfl) e, c⟩
  | dT kvs =>
    obtain ⟨z, y, xs, r, ob, es, ep, e, c⟩ := x
    exact ⟨z, y, xs, Paired.mapP r fun p q z => ⟨z.1, ht _ _ z.2.1, z.2.2⟩, ob, es, ep, k _ _ (.inl rfl) e, c⟩
  | set S n => obtain ⟨ob, es, ep, t, e, c⟩ := x; exact ⟨ob, es, ep, t, k _ _ (.inl rfl) e, c⟩
  | ins C dx fs =>
    obtain ⟨d, z, ne, e, mA, ⟨od, es, ep, e2, c⟩, r⟩ := x
    exact ⟨ho _ d, z, ne, k _ _ (.inl rfl) e, mA, ⟨od, es, ep, k _ _ (.inr d) e2, c⟩, r⟩
  | own y => obtain ⟨ob, e⟩ := x; exact ⟨ob, k _ _ (.inl rfl) e⟩
  | xd fs => obtain ⟨mA, ⟨od, es, ep, e, c⟩, r⟩ := x; exact ⟨mA, ⟨od, es, ep, k _ _ (.inl rfl) e, c⟩, r⟩
  | rng lo hi => obtain ⟨t, u, v, e⟩ := x; exact ⟨t, u, v, k _ _ (.inl rfl) e⟩
  | frz ob u ih => obtain ⟨e, q⟩ := x; exact ⟨k _ _ (.inl rfl) e, ih q⟩
  | tbl ps =>
    have e : h.get? a = some { cls := .none, data := .fields ps } := x
    show h'.get? a = some { cls := .none, data := .fields ps }
    exact k a _ (.inl rfl) e
  | met f y =>
    have e : h.get? a = some (PySem.W.methodObj (.ref f) (.ref y)) := x
    show h'.get? a = some (PySem.W.methodObj (.ref f) (.ref y))
    exact k a _ (.inl rfl) e
  | ext φ => obtain ⟨p, ⟨o, e⟩, st⟩ := x; exact ⟨st _ _ p fun o q => k _ _ (.inl rfl) q, ⟨o, k _ _ (.inl rfl) e⟩, st⟩
theorem HOk.lt (x : HOk P w H h) (e : H a = some o) : a < h.objs.size := (x a o e).lt
theorem HOk.fresh (x : HOk P w H h) (e : h.objs.size ≤ a) : H a = none := by
  cases q : H a with
  | none => rfl
  | some u => exact absurd (Nat.lt_of_lt_of_le (x.lt q) e) (Nat.lt_irrefl _)
theorem HOk.kept (x : HOk P w H h) (k : ∀ b u, h.get? b = some u → h'.get? b = some u) : HOk P w H h' := fun a o e =>
  (x a o e).stay (fun b u _ q => k b u q) (fun _ q => q) fun _ _ q => q
theorem HOk.laid (x : HOk P w H h) (k : ∀ b u, h.get? b = some u → h'.get? b = some u) (hp : h.objs.size ≤ a) (new : ObjOk P w (upd H a o) h' a o) : HOk P w (upd H a o) h' := fun b u e => by
  have hn := x.fresh hp
  by_cases hb : b = a
  · subst hb; rw [upd_same] at e; cases e; exact new
  · rw [upd_ne hb] at e
    exact (x b u e).stay (fun c v _ q => k c v q) (fun c q => by rw [upd_ne (ne_of_none q hn)]; exact q) fun c xs q => by rw [upd_ne (ne_of_none q hn)]; exact q
end
def Rd (H : Hp) (a : Addr) (u : HO) : Prop := H a = some u ∨ ∃ o, H a = some (.frz o u)
theorem Rd.ok {P : Program} {w : World} {H : Hp} {h : Heap} {a : Addr} {u : HO} (r : Rd H a u) (x : HOk P w H h) : ObjOk P w H h a u := by
  rcases r with r | ⟨o, r⟩
  · exact x a u r
  · obtain ⟨_, q⟩ := x a _ r
    exact q
def Mut : Option HO → Prop
  | some (.lst _) => True
  | some (.dK _) => True
  | some (.dT _) => True
  | some (.set _ _) => True
  | some (.ins _ _ _) => True
  | some (.ext _) => True
  | _ => False
section
variable {P : Program} {w : World} {H : Hp} {h h' : Heap} {x e : Addr} {o' : HO}
theorem HOk.write (ok : HOk P w H h) (mu : Mut (H x)) (he : e = x ∨ H e = some (.own x)) (k : ∀ b u, b ≠ e → h.get? b = some u → h'.get? b = some u) (heo : ∃ u, h'.get? e = some u)
    (new : ObjOk P w (upd H x o') h' x o') : HOk P w (upd H x o') h' := fun b u q => by
  have nown : ∀ c y, H c = some (.own y) → c ≠ x := fun c y r z => by subst z; rw [r] at mu; exact mu
  have ntup : ∀ c xs, H c = some (.tup xs) → c ≠ x := fun c xs r z => by subst z; rw [r] at mu; exact mu
  by_cases hb : b = x
  · subst hb; rw [upd_same] at q; cases q; exact new
  · rw [upd_ne hb] at q
    by_cases hbe : b = e
    · have q' : H b = some (.own x) := by
        rcases he with z | z
        · exact absurd (hbe.trans z) hb
        · rw [hbe]; exact z
      rw [q] at q'; cases q'
      obtain ⟨v, hv⟩ := heo
      exact ⟨v, by rw [hbe]; exact hv⟩
    · refine (ok b u q).stay (fun c v hc r => k c v ?_ r) (fun c r => by rw [upd_ne (nown c b r)]; exact r) fun c xs r => by rw [upd_ne (ntup c xs r)]; exact r
      rcases hc with rfl | hc
      · exact hbe
      · rintro rfl
        rcases he with z | z
        · exact nown c b hc z
        · rw [hc] at z; cases z; exact hb rfl
end
structure Un (fs ex : List Addr) (H H' : Hp) (h h' : Heap) : Prop where
  keep : ∀ b o, h.get? b = some o → H b = none → b ∉ fs → b ∉ ex → h'.get? b = some o
  slot : ∀ b o, h.get? b = some o → H b = none → b ∈ fs → b ∉ ex → ∃ sl, h'.get? b = some { o with slots := sl }
  free : ∀ b o, h.get? b = some o → H b = none → b ∉ ex → H' b = none
  there : ∀ b o, h.get? b = some o → b ∉ ex → ∃ o', h'.get? b = some o'
  tups : ∀ b xs, H b = some (.tup xs) → H' b = some (.tup xs)
  frzs : ∀ b o u, H b = some (.frz o u) → H' b = some (.frz o u)
  tbls : ∀ b ps, H b = some (.tbl ps) → ∃ more, H' b = some (.tbl (ps ++ more))
section
variable {fs fs' ex ex' : List Addr} {H H1 H2 : Hp} {h h1 h2 h' : Heap} {a x e : Addr} {o : HO}
theorem Un.any (u : Un fs ex H H1 h h1) {b : Addr} {ob : Obj} (q : h.get? b = some ob) (n : H b = none) (hx : b ∉ ex) : ∃ sl, h1.get? b = some { ob with slots := sl } := by
  by_cases hb : b ∈ fs
  · exact u.slot b ob q n hb hx
  · exact ⟨ob.slots, u.keep b ob q n hb hx⟩
theorem Un.kept (k : ∀ b u, h.get? b = some u → h'.get? b = some u) : Un fs ex H H h h' :=
  ⟨fun b ob q _ _ _ => k b ob q, fun b ob q _ _ _ => ⟨ob.slots, k b ob q⟩, fun _ _ _ n _ => n, fun b ob q _ => ⟨ob, k b ob q⟩, fun _ _ q => q, fun _ _ _ q => q, fun _ ps q => ⟨#[], by rw [q]; simp⟩⟩
theorem Un.refl : Un fs ex H H h h := Un.kept fun _ _ q => q
theorem Un.laid (k : ∀ b u, h.get? b = some u → h'.get? b = some u) (hp : h.objs.size ≤ a) (hn : H a = none) : Un fs ex H (upd H a o) h h' where
  keep := fun b u q _ _ _ => k b u q
  slot := fun b u q _ _ _ => ⟨u.slots, k b u q⟩
  free := fun b u q n _ => by rw [upd_ne (Nat.ne_of_lt (Nat.lt_of_lt_of_le (Heap.lt_size q) hp))]; exact n
  there := fun b u q _ => ⟨u, k b u q⟩
  tups := fun b xs q => by rw [upd_ne (ne_of_none q hn)]; exact q
  frzs := fun b u xs q => by rw [upd_ne (ne_of_none q hn)]; exact q
  tbls := fun b ps q => ⟨#[], by rw [upd_ne (ne_of_none q hn), q]; simp⟩
theorem Un.write (mu : Mut (H x)) (he : e = x ∨ H e = some (.own x)) (k : ∀ b u, b ≠ e → h.get? b = some u → h'.get? b = some u) (heo : ∃ u, h'.get? e = some u) : Un fs ex H (upd H x o) h h' := by
  have hx : ∀ b, H b = none → b ≠ x := fun b n z => by subst z; rw [n] at mu; exact mu
  have hb : ∀ b, H b = none → b ≠ e := fun b n z => by
    subst z
    rcases he with r | r
    · exact hx b n r
    · rw [n] at r; cases r
  have hm : ∀ b u, H b = some u → ¬ Mut (some u) → b ≠ x := fun b u q nm z => by subst z; rw [q] at mu; exact nm mu
  refine ⟨fun b u q n _ _ => k b u (hb b n) q, fun b u q n _ _ => ⟨u.slots, k b u (hb b n) q⟩, fun b u q n _ => by rw [upd_ne (hx b n)]; exact n, fun b u q _ => ?_,
    fun b xs q => by rw [upd_ne (hm b _ q fun z => z)]; exact q, fun b u xs q => by rw [upd_ne (hm b _ q fun z => z)]; exact q, fun b ps q => ⟨#[], by rw [upd_ne (hm b _ q fun z => z), q]; simp⟩⟩
  by_cases hbe : b = e
  · subst hbe; exact heo
  · exact ⟨u, k b u hbe q⟩
end
def trk (h : Heap) (H : Hp) : List Addr := (List.range h.objs.size).filter fun a => (H a).isSome
def hidT (h : Heap) (H : Hp) : Heap := PySem.W.hideAll h (trk h H)
theorem hidT_size (h : Heap) (H : Hp) : (hidT h H).objs.size = h.objs.size := PySem.W.hideAll_size _ _
theorem hidT_get {h : Heap} {H : Hp} {b : Addr} {o : Obj} (e : h.get? b = some o) (n : H b = none) : (hidT h H).get? b = some o :=
  PySem.W.hideAll_get _ e fun hm => by
    have q : (H b).isSome = true := (List.mem_filter.mp hm).2
    rw [n] at q; simp at q
theorem of_hidT {h : Heap} {H : Hp} {b : Addr} {o : Obj} (e : (hidT h H).get? b = some o) : h.get? b = some o ∧ H b = none := by
  have e' : h.get? b = some o := PySem.W.of_hideAll (trk h H) e
  refine ⟨e', ?_⟩
  cases q : H b with
  | none => rfl
  | some x =>
    have hm : b ∈ trk h H := List.mem_filter.mpr ⟨List.mem_range.mpr (Heap.lt_size e'), by simp [q]⟩
    have z : (hidT h H).get? b = none := PySem.W.hideAll_none (trk h H) hm
    rw [z] at e; cases e
end L2
namespace L2
open PySem PySem.Spec PyProof.Rows
structure Mod (K : PySem.W.Frag) (mg : Str → Option Value) (base : Heap) : Prop where
  kin : K.In base
  glob : base.Ns mainGlobals mg
  blt : ∃ mb, base.Ns builtinsNs mb ∧ ∀ x : Str, x ≠ "__name__" → mb x = bootBuiltins x
  nolimit : base.NoLimit
structure Cx where
  prog : Program
  w : World
  K : PySem.W.Frag
  mg : Str → Option Value
  base : Heap
  A : Around
  N : List Str
  s₀ : Shared
  H₀ : Hp
  env : Env
  outer : List Env
  stack : List Env
  ex : List Addr
  fn : Str → Bool
  calm : Bool
  pn : List (Addr × Obj)
  xe : Value → Shared → Prop
def frs (l : List Env) : List Addr := l.filterMap (·.frame)
abbrev Cx.fs (X : Cx) : List Addr := frs X.outer
def Vis (sc : Scope) (x : Str) : Prop := sc.names.lookup x = some .local ∨ sc.names.lookup x = some .cell ∨ sc.names.lookup x = some .free
def Loc (sc : Scope) (x : Str) : Prop := sc.names.lookup x = some .local ∨ sc.names.lookup x = some .cell
def Look (env : Env) (h : Heap) (m : Str → Option Value) (x : Str) (u : Value) : Prop :=
  (env.kindOf x = some .local ∧ m x = some u) ∨ ((env.kindOf x = some .cell ∨ env.kindOf x = some .free) ∧ ∃ c, env.cells.lookup x = some c ∧ h.IsCell c (some u))
structure Cx.Ok (X : Cx) : Prop where
  mod : Mod X.K X.mg X.base
  kind : X.env.scope.kind = .function
  glob : X.env.globals = mainGlobals
  blt : X.env.builtins = builtinsNs
  above : X.s₀.heap.objs.size ≤ X.env.locals
  inj : ∀ x y c, X.env.cells.lookup x = some c → X.env.cells.lookup y = some c → x = y
  has : ∀ x, (X.env.kindOf x = some .cell ∨ X.env.kindOf x = some .free) → ∃ c, X.env.cells.lookup x = some c
  cab : ∀ x c, X.fn x = true → X.env.cells.lookup x = some c → X.s₀.heap.objs.size ≤ c
  hd : X.calm = true → X.A.handled = none
  frames : X.A.frames = some X.stack
  stk : X.stack = X.outer ∨ (X.stack = X.env :: X.outer ∧ X.env.frame = some X.env.locals)
  exf : ∀ b ∈ X.ex, b ≠ X.env.locals ∧ ∀ x c, X.env.cells.lookup x = some c → c ≠ b
  bs : ∀ b o, X.base.get? b = some o → X.s₀.heap.get? b = some o ∧ X.H₀ b = none
  bsz : X.base.objs.size ≤ X.s₀.heap.objs.size
  noex : ∀ b o, X.base.get? b = some o → b ∉ X.ex
  exfs : ∀ b ∈ X.ex, b ∉ X.fs
  funs : X.s₀.heap.FunFrames X.base X.outer
  frf : ∀ b ∈ X.fs, X.H₀ b = none
structure Inv (X : Cx) (pins : List (Addr × Obj)) (σ : List (Option V)) (H : Hp) (s : Shared) : Prop where
  ok : X.Ok
  os : s.os = X.s₀.os
  bare : AllBare s.gens
  base : Un X.fs X.ex X.H₀ H X.s₀.heap s.heap
  loc : ∃ m, s.heap.Ns X.env.locals m ∧ ∀ (i : Nat) (x : Str) (v : V), X.N[i]? = some x → σ[i]? = some (some v) → Vis X.env.scope x → ∃ u, RelV v u ∧ Look X.env s.heap m x u
  cell : ∀ x c, X.env.cells.lookup x = some c → ∃ v, s.heap.IsCell c v
  free : H X.env.locals = none
  freeC : ∀ x c, X.env.cells.lookup x = some c → H c = none
  pin : ∀ p ∈ X.pn ++ pins, s.heap.get? p.1 = some p.2 ∧ H p.1 = none ∧ p.1 ≠ X.env.locals ∧ p.1 ∉ X.fs ∧ ∀ v, p.2.data ≠ .cell v
  hok : HOk X.prog X.w H s.heap
  len : σ.length = X.N.length
section
variable {X : Cx} {pins : List (Addr × Obj)} {σ : List (Option V)} {H H' : Hp} {s : Shared} {h' : Heap}
theorem Cx.Ok.nofr (ok : X.Ok) {b : Addr} {o : Obj} (e : X.base.get? b = some o) : b ∉ X.fs := fun hb => by
  have := (ok.funs.mem hb).1
  rw [e] at this; cases this
theorem Inv.bs (I : Inv X pins σ H s) : ∀ b o, X.base.get? b = some o → s.heap.get? b = some o ∧ H b = none := fun b o e =>
  ⟨I.base.keep b o (I.ok.bs b o e).1 (I.ok.bs b o e).2 (I.ok.nofr e) (I.ok.noex b o e), I.base.free b o (I.ok.bs b o e).1 (I.ok.bs b o e).2 (I.ok.noex b o e)⟩
theorem Inv.bk (I : Inv X pins σ H s) : ∀ b o, X.base.get? b = some o → s.heap.get? b = some o := fun b o e => (I.bs b o e).1
theorem Inv.mod (I : Inv X pins σ H s) : Mod X.K X.mg X.base := I.ok.mod
theorem Inv.kIn (I : Inv X pins σ H s) : X.K.In s.heap := I.ok.mod.kin.keeps I.bk
theorem Inv.lt (I : Inv X pins σ H s) : X.env.locals < s.heap.objs.size := let ⟨_, hn, _⟩ := I.loc; hn.lt
theorem Inv.sz (I : Inv X pins σ H s) : X.s₀.heap.objs.size ≤ s.heap.objs.size := Nat.le_trans I.ok.above (Nat.le_of_lt I.lt)
theorem Inv.nofs (I : Inv X pins σ H s) {a : Addr} (h : s.heap.objs.size ≤ a) : a ∉ X.fs := fun hb => by
  obtain ⟨_, o, ho, _⟩ := I.ok.funs.mem hb
  exact absurd (Nat.lt_of_lt_of_le (Heap.lt_size ho) (Nat.le_trans I.sz h)) (Nat.lt_irrefl _)
theorem Inv.cne (I : Inv X pins σ H s) : ∀ x c, X.env.cells.lookup x = some c → c ≠ X.env.locals := fun x c e z => by
  obtain ⟨v, o, ho, hd⟩ := I.cell x c e
  obtain ⟨m, ⟨o', es, ep, ho', hd', _⟩, _⟩ := I.loc
  rw [z, ho'] at ho; cases ho; rw [hd'] at hd; cases hd
theorem Inv.funs (I : Inv X pins σ H s) : s.heap.FunFrames X.base X.outer := by
  have all : ∀ (l : List Env), (∀ b ∈ frs l, b ∈ X.fs) → X.s₀.heap.FunFrames X.base l → s.heap.FunFrames X.base l := by
    intro l
    induction l with
    | nil => intro _ _; trivial
    | cons env r ih =>
      intro hs hl
      obtain ⟨hk, ⟨L, o, hf, hn, ho, hd⟩, hr⟩ := hl
      have hL : L ∈ X.fs := hs L (by unfold frs; rw [List.filterMap_cons, hf]; exact List.mem_cons_self)
      obtain ⟨sl, e⟩ := I.base.slot L o ho (I.ok.frf L hL) hL fun z => I.ok.exfs L z hL
      exact ⟨hk, ⟨L, _, hf, hn, e, hd⟩, ih (fun b hb => hs b (by unfold frs; rw [List.filterMap_cons, hf]; exact List.mem_cons_of_mem _ hb)) hr⟩
  exact all X.outer (fun _ hb => hb) I.ok.funs
theorem Inv.stack (I : Inv X pins σ H s) : s.heap.FunFrames X.base X.stack := by
  rcases I.ok.stk with e | ⟨e, hf⟩
  · rw [e]; exact I.funs
  · rw [e]
    obtain ⟨m, hn, _⟩ := I.loc
    refine .cons (by rw [I.ok.kind]; decide) hf hn ?_ I.funs
    exact Heap.get?_none_of_le (Nat.le_trans I.ok.bsz I.ok.above)
theorem Inv.stkSub (I : Inv X pins σ H s) : ∀ b ∈ frs X.stack, b ∈ X.env.locals :: X.fs := fun b hb => by
  rcases I.ok.stk with e | ⟨e, hf⟩
  · rw [e] at hb; exact List.mem_cons_of_mem _ hb
  · rw [e] at hb
    unfold frs at hb
    rw [List.filterMap_cons, hf] at hb
    exact hb
theorem Inv.stkFree (I : Inv X pins σ H s) : ∀ b ∈ frs X.stack, H b = none := fun b hb => by
  rcases List.mem_cons.mp (I.stkSub b hb) with e | hb
  · rw [e]; exact I.free
  · obtain ⟨_, o, ho, _⟩ := I.ok.funs.mem hb
    exact I.base.free b o ho (I.ok.frf b hb) fun z => I.ok.exfs b z hb
theorem Inv.step {g' : Array GenState} {t' : Nat} {d' : Drawn} {ch : List Addr} (I : Inv X pins σ H s)
    (hch : ∀ b ∈ ch, (b ∈ X.ex ∨ X.s₀.heap.objs.size ≤ b) ∧ b ≠ X.env.locals ∧ (∀ x c, X.env.cells.lookup x = some c → c ≠ b) ∧ ∀ p ∈ X.pn ++ pins, p.1 ≠ b)
    (keep : ∀ b o, b ≠ X.env.locals → b ∉ X.fs → b ∉ ch → s.heap.get? b = some o → H b = none → h'.get? b = some o)
    (slot : ∀ b o, b ≠ X.env.locals → b ∈ X.fs → b ∉ ch → s.heap.get? b = some o → H b = none → ∃ sl, h'.get? b = some { o with slots := sl }) (free : ∀ b o, b ∉ ch → s.heap.get? b = some o → H b = none → H' b = none)
    (there : ∀ b o, b ∉ ch → s.heap.get? b = some o → ∃ o', h'.get? b = some o')
    (tups : ∀ b xs, H b = some (.tup xs) → H' b = some (.tup xs)) (frzs : ∀ b o u, H b = some (.frz o u) → H' b = some (.frz o u)) (tbls : ∀ b ps, H b = some (.tbl ps) → ∃ more, H' b = some (.tbl (ps ++ more)))
    (ns : ∀ m, s.heap.Ns X.env.locals m → h'.Ns X.env.locals m) (hok : HOk X.prog X.w H' h') (hg : AllBare g') :
    Inv X pins σ H' { s with heap := h', gens := g', drawn := d', toks := t' } := by
  have neL : ∀ b o, X.s₀.heap.get? b = some o → b ≠ X.env.locals := fun b o e => Nat.ne_of_lt (Nat.lt_of_lt_of_le (Heap.lt_size e) I.ok.above)
  have neC : ∀ b o, X.s₀.heap.get? b = some o → b ∉ X.ex → b ∉ ch := fun b o e hx hb => by
    rcases (hch b hb).1 with z | z
    · exact hx z
    · exact absurd (Nat.lt_of_lt_of_le (Heap.lt_size e) z) (Nat.lt_irrefl _)
  have cellK : ∀ x c, X.env.cells.lookup x = some c → ∀ v, s.heap.IsCell c v → h'.IsCell c v := fun x c e v ⟨o, ho, hd⟩ => by
    have nch : c ∉ ch := fun z => (hch c z).2.2.1 x c e rfl
    by_cases hc : c ∈ X.fs
    · obtain ⟨sl, q⟩ := slot c o (I.cne x c e) hc nch ho (I.freeC x c e)
      exact ⟨_, q, hd⟩
    · exact ⟨o, keep c o (I.cne x c e) hc nch ho (I.freeC x c e), hd⟩
  refine ⟨I.ok, I.os, hg, ⟨fun b o e n hb hx => ?_, fun b o e n hb hx => ?_, fun b o e n hx => ?_, fun b o e hx => ?_, fun b xs e => tups b xs (I.base.tups b xs e), fun b o xs e => frzs b o xs (I.base.frzs b o xs e), fun b ps e => ?_⟩, ?_, fun x c e => ?_, ?_, fun x c e => ?_, fun p hp => ?_, hok, I.len⟩
  · exact keep b o (neL b o e) hb (neC b o e hx) (I.base.keep b o e n hb hx) (I.base.free b o e n hx)
  · obtain ⟨sl, e1⟩ := I.base.slot b o e n hb hx
    obtain ⟨sl', e2⟩ := slot b _ (neL b o e) hb (neC b o e hx) e1 (I.base.free b o e n hx)
    exact ⟨sl', e2⟩
  · obtain ⟨o', e1⟩ := I.base.there b o e hx
    exact free b o' (neC b o e hx) e1 (I.base.free b o e n hx)
  · obtain ⟨o', e1⟩ := I.base.there b o e hx
    exact there b o' (neC b o e hx) e1
  · obtain ⟨m1, e1⟩ := I.base.tbls b ps e
    obtain ⟨m2, e2⟩ := tbls b _ e1
    exact ⟨m1 ++ m2, by rw [e2, Array.append_assoc]⟩
  · obtain ⟨m, hn, hl⟩ := I.loc
    refine ⟨m, ns m hn, fun i x v e1 e2 e3 => ?_⟩
    obtain ⟨u, r, l⟩ := hl i x v e1 e2 e3
    refine ⟨u, r, ?_⟩
    rcases l with l | ⟨k, c, e, z⟩
    · exact .inl l
    · exact .inr ⟨k, c, e, cellK x c e _ z⟩
  · obtain ⟨v, z⟩ := I.cell x c e
    exact ⟨v, cellK x c e v z⟩
  · obtain ⟨m, ⟨o, _, _, ho, _⟩, _⟩ := I.loc
    exact free _ o (fun z => (hch _ z).2.1 rfl) ho I.free
  · obtain ⟨v, o, ho, hd⟩ := I.cell x c e
    exact free c o (fun z => (hch c z).2.2.1 x c e rfl) ho (I.freeC x c e)
  · obtain ⟨e, n, ne, nf, d⟩ := I.pin p hp
    have nch : p.1 ∉ ch := fun z => (hch p.1 z).2.2.2 p hp rfl
    exact ⟨keep p.1 p.2 ne nf nch e n, free p.1 p.2 nch e n, ne, nf, d⟩
theorem Inv.un {t' : Nat} (I : Inv X pins σ H s) (u : Un X.fs [] H H' s.heap h') (hok : HOk X.prog X.w H' h') : Inv X pins σ H' { s with heap := h', toks := t' } := by
  obtain ⟨m, ⟨o, es, ep, ho, r⟩, _⟩ := id I.loc
  obtain ⟨sl, hL⟩ := u.any ho I.free (by simp)
  exact I.step (g' := s.gens) (d' := s.drawn) (ch := []) (fun _ z => nomatch z) (fun b o _ hb _ e n => u.keep b o e n hb (by simp)) (fun b o _ hb _ e n => u.slot b o e n hb (by simp)) (fun b o _ e n => u.free b o e n (by simp)) (fun b o _ e => u.there b o e (by simp)) u.tups u.frzs u.tbls (fun m' hm => by
    obtain ⟨o', es', ep', ho', r'⟩ := hm
    rw [ho] at ho'; cases ho'
    exact ⟨_, es', ep', hL, r'⟩) hok I.bare
theorem Inv.call {g' : Array GenState} {t' : Nat} {d' : Drawn} {ch : List Addr} (I : Inv X pins σ H s) (u : Un (frs X.stack) ch H H' s.heap h') (hok : HOk X.prog X.w H' h') (hg : AllBare g')
    (hch : ∀ b ∈ ch, (b ∈ X.ex ∨ X.s₀.heap.objs.size ≤ b) ∧ b ≠ X.env.locals ∧ (∀ x c, X.env.cells.lookup x = some c → c ≠ b) ∧ ∀ p ∈ X.pn ++ pins, p.1 ≠ b) :
    Inv X pins σ H' { s with heap := h', gens := g', drawn := d', toks := t' } := by
  obtain ⟨m, ⟨o, es, ep, ho, r⟩, _⟩ := id I.loc
  obtain ⟨sl, hL⟩ := u.any ho I.free fun z => (hch _ z).2.1 rfl
  exact I.step (ch := ch) hch (fun b o hL hb hc e n => u.keep b o e n (fun z => (List.mem_cons.mp (I.stkSub b z)).elim hL hb) hc) (fun b o _ _ hc e n => u.any e n hc) (fun b o hc e n => u.free b o e n hc) (fun b o hc e => u.there b o e hc) u.tups u.frzs u.tbls (fun m' hm => by
    obtain ⟨o', es', ep', ho', r'⟩ := hm
    rw [ho] at ho'; cases ho'
    exact ⟨_, es', ep', hL, r'⟩) hok hg
theorem Inv.turned {t' : Nat} {it : Addr} (I : Inv X pins σ H s) (k : ∀ b o, b ≠ it → s.heap.get? b = some o → h'.get? b = some o) (hn : H it = none) (hL : it ≠ X.env.locals)
    (h1 : it ∈ X.ex ∨ X.s₀.heap.objs.size ≤ it) (h2 : ∀ x c, X.env.cells.lookup x = some c → c ≠ it) (h3 : ∀ p ∈ X.pn ++ pins, p.1 ≠ it) : Inv X pins σ H { s with heap := h', toks := t' } := by
  have nit : ∀ b u, H b = some u → b ≠ it := fun b u e z => by rw [z, hn] at e; cases e
  refine I.step (g' := s.gens) (d' := s.drawn) (ch := [it]) (fun b hb => ?_) (fun b o _ _ hc e _ => k b o (fun z => hc (by simp [z])) e) (fun b o _ _ hc e _ => ⟨o.slots, k b o (fun z => hc (by simp [z])) e⟩) (fun _ _ _ _ n => n)
    (fun b o hc e => ⟨o, k b o (fun z => hc (by simp [z])) e⟩) (fun _ _ e => e) (fun _ _ _ e => e) (fun b ps e => ⟨#[], by rw [e]; simp⟩) (fun m hm => ?_) (fun b u e => ?_) I.bare
  · have e : b = it := by simpa using hb
    subst e
    exact ⟨h1, hL, h2, h3⟩
  · obtain ⟨o, es, ep, ho, r⟩ := hm
    exact ⟨o, es, ep, k _ o (Ne.symm hL) ho, r⟩
  · refine (I.hok b u e).stay (fun c v hc q => k c v ?_ q) (fun _ q => q) fun _ _ q => q
    rcases hc with z | z
    · rw [z]; exact nit b u e
    · exact nit c _ z
theorem Inv.tok (I : Inv X pins σ H s) (t : Nat) : Inv X pins σ H { s with toks := t } := I.un (h' := s.heap) (t' := t) Un.refl I.hok
theorem Inv.kept {t' : Nat} (I : Inv X pins σ H s) (k : ∀ b u, s.heap.get? b = some u → h'.get? b = some u) : Inv X pins σ H { s with heap := h', toks := t' } := I.un (Un.kept k) (I.hok.kept k)
theorem Inv.laid {a : Addr} {o : HO} {t' : Nat} (I : Inv X pins σ H s) (k : ∀ b u, s.heap.get? b = some u → h'.get? b = some u) (hp : s.heap.objs.size ≤ a) (new : ObjOk X.prog X.w (upd H a o) h' a o) :
    Inv X pins σ (upd H a o) { s with heap := h', toks := t' } := I.un (Un.laid k hp (I.hok.fresh hp)) (I.hok.laid k hp new)
theorem Inv.write {x e : Addr} {o : HO} {t' : Nat} (I : Inv X pins σ H s) (mu : Mut (H x)) (he : e = x ∨ H e = some (.own x)) (k : ∀ b u, b ≠ e → s.heap.get? b = some u → h'.get? b = some u) (heo : ∃ u, h'.get? e = some u)
    (new : ObjOk X.prog X.w (upd H x o) h' x o) : Inv X pins σ (upd H x o) { s with heap := h', toks := t' } := I.un (Un.write mu he k heo) (I.hok.write mu he k heo new)
theorem Inv.pins_of {pins' : List (Addr × Obj)} (I : Inv X pins σ H s) (h : ∀ p ∈ pins', s.heap.get? p.1 = some p.2 ∧ H p.1 = none ∧ p.1 ≠ X.env.locals ∧ p.1 ∉ X.fs ∧ ∀ v, p.2.data ≠ .cell v) : Inv X pins' σ H s :=
  ⟨I.ok, I.os, I.bare, I.base, I.loc, I.cell, I.free, I.freeC, fun p hp => (List.mem_append.mp hp).elim (fun z => I.pin p (List.mem_append_left _ z)) (h p), I.hok, I.len⟩
theorem nodup_ix {N : List Str} (hN : N.Nodup) {i j : Nat} {x : Str} (a : N[i]? = some x) (b : N[j]? = some x) : i = j := by
  obtain ⟨h1, e1⟩ := List.getElem?_eq_some_iff.mp a
  obtain ⟨h2, e2⟩ := List.getElem?_eq_some_iff.mp b
  exact (List.getElem_inj hN).mp (e1.trans e2.symm)
theorem store_ok2 {M : Model} {A : Around} {E : Value → Shared → Prop} {i : Nat} {x : Str} {v : V} {u : Value} {Q : Unit → Shared → Prop} (I : Inv X pins σ H s) (hN : X.N.Nodup) (hi : X.N[i]? = some x) (hx : Loc X.env.scope x) (r : RelV v u)
    (h : ∀ s', Inv X pins (σ.set i (some v)) H s' → (∃ a, Heap.SameBut a s.heap s'.heap ∧ (a = X.env.locals ∨ X.env.cells.lookup x = some a)) → Q () s') (hf : X.fn x = true ∨ X.env.scope.names.lookup x = some .local := by first | exact .inl rfl | exact .inr rfl | assumption) : wpAny M A (storeName X.env x u) Q E s := by
  obtain ⟨m, hn, hl⟩ := id I.loc
  have hcls : (X.env.scope.kind == .class || (X.env.scope.kind == .module && X.env.locals != X.env.globals)) = false := by rw [I.ok.kind]; rfl
  have hiσ : i < σ.length := by rw [I.len]; exact (List.getElem?_eq_some_iff.mp hi).1
  have cne := I.cne
  have tracked : ∀ {a : Addr} {h' : Heap}, (∃ o, s.heap.get? a = some o ∧ H a = none) → Heap.SameBut a s.heap h' → HOk X.prog X.w H h' := fun {a h'} ha hs b ob e => by
    obtain ⟨_, _, hfree⟩ := ha
    refine (I.hok b ob e).stay (fun c w' hc q => (hs.2 c ?_).trans q) (fun _ q => q) fun _ _ q => q
    rintro rfl
    rcases hc with rfl | hc
    · rw [hfree] at e; cases e
    · rw [hfree] at hc; cases hc
  rcases hx with hk | hk
  · refine wpAny_storeName_local hk hn (fun h' hn' hs => ?_) hcls
    obtain ⟨oL, _, _, hoL, _⟩ := id hn
    refine h _ ⟨I.ok, I.os, I.bare, ⟨fun b o e n hb hx => ?_, fun b o e n hb hx => ?_, I.base.free, fun b o e hx => ?_, I.base.tups, I.base.frzs, I.base.tbls⟩, ⟨_, hn', fun j y v' e1 e2 e3 => ?_⟩, fun y c e => ?_, I.free, I.freeC, fun p hp => ?_, tracked ⟨oL, hoL, I.free⟩ hs, by simpa using I.len⟩ ⟨_, hs, .inl rfl⟩
    · exact (hs.2 b (Nat.ne_of_lt (Nat.lt_of_lt_of_le (Heap.lt_size e) I.ok.above))).trans (I.base.keep b o e n hb hx)
    · obtain ⟨sl, e1⟩ := I.base.slot b o e n hb hx
      exact ⟨sl, (hs.2 b (Nat.ne_of_lt (Nat.lt_of_lt_of_le (Heap.lt_size e) I.ok.above))).trans e1⟩
    · obtain ⟨o', e1⟩ := I.base.there b o e hx
      exact ⟨o', (hs.2 b (Nat.ne_of_lt (Nat.lt_of_lt_of_le (Heap.lt_size e) I.ok.above))).trans e1⟩
    · by_cases hj : j = i
      · subst hj
        rw [hi] at e1; cases e1
        rw [List.getElem?_set_self hiσ] at e2
        cases e2
        exact ⟨u, r, .inl ⟨hk, by simp⟩⟩
      · rw [List.getElem?_set_ne (Ne.symm hj)] at e2
        obtain ⟨u', r', q⟩ := hl j y v' e1 e2 e3
        refine ⟨u', r', ?_⟩
        rcases q with ⟨k, e⟩ | ⟨k, c, e, z⟩
        · refine .inl ⟨k, ?_⟩
          have : y ≠ x := fun e => hj (nodup_ix hN e1 (e ▸ hi))
          simp [this, e]
        · exact .inr ⟨k, c, e, z.sameBut hs (cne y c e)⟩
    · obtain ⟨w', z⟩ := I.cell y c e
      exact ⟨w', z.sameBut hs (cne y c e)⟩
    · obtain ⟨e, n, ne, nf, d⟩ := I.pin p hp
      exact ⟨(hs.2 p.1 ne).trans e, n, ne, nf, d⟩
  · have hfn : X.fn x = true := by
      rcases hf with z | z
      · exact z
      · rw [z] at hk; cases hk
    obtain ⟨c, hc⟩ := I.ok.has x (.inl hk)
    obtain ⟨w', z⟩ := I.cell x c hc
    refine wpAny_storeName_cell I.ok.kind hk hc z (fun h' hc' hs => ?_)
    obtain ⟨oc, hoc, hocd⟩ := id z
    refine h { s with heap := h' } ⟨I.ok, I.os, I.bare, ⟨fun b o e n hb hx => ?_, fun b o e n hb hx => ?_, I.base.free, fun b o e hx => ?_, I.base.tups, I.base.frzs, I.base.tbls⟩, ⟨m, hn.sameBut hs (Ne.symm (cne x c hc)), fun j y v' e1 e2 e3 => ?_⟩, fun y c' e => ?_, I.free, I.freeC, fun p hp => ?_, tracked ⟨oc, hoc, I.freeC x c hc⟩ hs, by simpa using I.len⟩ ⟨c, hs, .inr hc⟩
    · exact (hs.2 b (Nat.ne_of_lt (Nat.lt_of_lt_of_le (Heap.lt_size e) (I.ok.cab x c hfn hc)))).trans (I.base.keep b o e n hb hx)
    · obtain ⟨sl, e1⟩ := I.base.slot b o e n hb hx
      exact ⟨sl, (hs.2 b (Nat.ne_of_lt (Nat.lt_of_lt_of_le (Heap.lt_size e) (I.ok.cab x c hfn hc)))).trans e1⟩
    · obtain ⟨o', e1⟩ := I.base.there b o e hx
      exact ⟨o', (hs.2 b (Nat.ne_of_lt (Nat.lt_of_lt_of_le (Heap.lt_size e) (I.ok.cab x c hfn hc)))).trans e1⟩
    · by_cases hj : j = i
      · subst hj
        rw [hi] at e1; cases e1
        rw [List.getElem?_set_self hiσ] at e2
        cases e2
        exact ⟨u, r, .inr ⟨.inl hk, c, hc, hc'⟩⟩
      · rw [List.getElem?_set_ne (Ne.symm hj)] at e2
        obtain ⟨u', r', q⟩ := hl j y v' e1 e2 e3
        refine ⟨u', r', ?_⟩
        rcases q with q | ⟨k, c', e, z'⟩
        · exact .inl q
        · refine .inr ⟨k, c', e, z'.sameBut hs ?_⟩
          rintro rfl
          exact hj (nodup_ix hN e1 (I.ok.inj _ _ _ e hc ▸ hi))
    · by_cases hcc : c' = c
      · subst hcc; exact ⟨_, hc'⟩
      · obtain ⟨w2, z2⟩ := I.cell y c' e
        exact ⟨w2, z2.sameBut hs hcc⟩
    · obtain ⟨e, n, ne, nf, d⟩ := I.pin p hp
      refine ⟨(hs.2 p.1 ?_).trans e, n, ne, nf, d⟩
      intro q
      rw [q, hoc] at e
      have q' : oc = p.2 := Option.some.inj e
      exact d w' (by rw [← q']; exact hocd)
theorem store_ok {M : Model} {A : Around} {E : Value → Shared → Prop} {i : Nat} {x : Str} {v : V} {u : Value} {Q : Unit → Shared → Prop} (I : Inv X pins σ H s) (hN : X.N.Nodup) (hi : X.N[i]? = some x) (hx : Loc X.env.scope x) (r : RelV v u)
    (h : ∀ s', Inv X pins (σ.set i (some v)) H s' → Q () s') (hf : X.fn x = true ∨ X.env.scope.names.lookup x = some .local := by first | exact .inl rfl | exact .inr rfl | assumption) : wpAny M A (storeName X.env x u) Q E s :=
  store_ok2 I hN hi hx r (fun s' I' _ => h s' I') hf
theorem Inv.call' {s' : Shared} {ch : List Addr} (I : Inv X pins σ H s) (ho : s'.os = s.os) (u : Un (frs X.stack) ch H H' s.heap s'.heap) (hok : HOk X.prog X.w H' s'.heap) (hg : AllBare s'.gens)
    (hch : ∀ b ∈ ch, (b ∈ X.ex ∨ X.s₀.heap.objs.size ≤ b) ∧ b ≠ X.env.locals ∧ (∀ x c, X.env.cells.lookup x = some c → c ≠ b) ∧ ∀ p ∈ X.pn ++ pins, p.1 ≠ b) : Inv X pins σ H' s' := by
  obtain ⟨h', g', d', t', o'⟩ := s'
  have e : o' = s.os := ho
  subst e
  exact I.call (g' := g') (t' := t') (d' := d') u hok hg hch
end
abbrev XK := Value → Option Addr → Hp → Prop
abbrev St := List (Option V)
abbrev VK := V → Hp → Prop
abbrev TE := St → Hp → VK → Prop
abbrev TT := St → Hp → (Bool → Hp → Prop) → Prop
abbrev TA := St → Hp → (List V → Hp → Prop) → Prop
structure Ends where
  nx : St → Hp → Prop
  rt : VK
  bk : St → Hp → Prop := fun _ _ => False
  ct : St → Hp → Prop := fun _ _ => False
abbrev TS := Ends → St → Hp → Prop
def EP (X : Cx) (pins : List (Addr × Obj)) (σ : St) (Q : VK) (u : Value) (s' : Shared) : Prop := ∃ v H', Inv X pins σ H' s' ∧ RelV v u ∧ Q v H'
def TP (X : Cx) (pins : List (Addr × Obj)) (σ : St) (Q : Bool → Hp → Prop) (b : Bool) (s' : Shared) : Prop := ∃ H', Inv X pins σ H' s' ∧ Q b H'
def AP (X : Cx) (pins : List (Addr × Obj)) (σ : St) (Q : List V → Hp → Prop) (us : List Value) (s' : Shared) : Prop := ∃ vs H', Inv X pins σ H' s' ∧ Vals vs us ∧ Q vs H'
def SP (X : Cx) (pins : List (Addr × Obj)) (D : Ends) (f : Flow) (s' : Shared) : Prop :=
  match f with
  | .next => ∃ σ' H', Inv X pins σ' H' s' ∧ D.nx σ' H'
  | .brk => ∃ σ' H', Inv X pins σ' H' s' ∧ D.bk σ' H'
  | .cont => ∃ σ' H', Inv X pins σ' H' s' ∧ D.ct σ' H'
  | .ret u => ∃ v σ' H', Inv X pins σ' H' s' ∧ RelV v u ∧ D.rt v H'
def PE (X : Cx) (e : Expr) (t : TE) : Prop :=
  ∀ (pins : List (Addr × Obj)) (s : Shared) (σ : St) (H : Hp) (Q : VK), Inv X pins σ H s → t σ H Q → wpAny (model X.prog X.w) X.A (eval e X.env) (EP X pins σ Q) X.xe s
def PT (X : Cx) (e : Expr) (t : TT) : Prop :=
  ∀ (pins : List (Addr × Obj)) (s : Shared) (σ : St) (H : Hp) (Q : Bool → Hp → Prop), Inv X pins σ H s → t σ H Q → wpAny (model X.prog X.w) X.A (isTrue e X.env (eval e X.env)) (TP X pins σ Q) X.xe s
def PW (X : Cx) (e : Expr) (t : TT) : Prop :=
  ∀ (whole : Sem Value) (pins : List (Addr × Obj)) (s : Shared) (σ : St) (H : Hp) (Q : Bool → Hp → Prop), Inv X pins σ H s → t σ H Q → wpAny (model X.prog X.w) X.A (isTrue e X.env whole) (TP X pins σ Q) X.xe s
theorem PW.pt {X : Cx} {e : Expr} {t : TT} (h : PW X e t) : PT X e t := h _
def PA (X : Cx) (es : List Expr) (t : TA) : Prop :=
  ∀ (pos : Pos) (pins : List (Addr × Obj)) (s : Shared) (σ : St) (H : Hp) (Q : List V → Hp → Prop), Inv X pins σ H s → t σ H Q → wpAny (model X.prog X.w) X.A (spliced (backTo pos (starEach es X.env))) (AP X pins σ Q) X.xe s
def PS (X : Cx) (st : Stmt) (t : TS) : Prop :=
  ∀ (pins : List (Addr × Obj)) (s : Shared) (σ : St) (H : Hp) (D : Ends), Inv X pins σ H s → t D σ H → wpAny (model X.prog X.w) X.A (exec st X.env) (SP X pins D) X.xe s
def PSs (X : Cx) (st : List Stmt) (t : TS) : Prop :=
  ∀ (pins : List (Addr × Obj)) (s : Shared) (σ : St) (H : Hp) (D : Ends), Inv X pins σ H s → t D σ H → wpAny (model X.prog X.w) X.A (execs st X.env) (SP X pins D) X.xe s
theorem thn {α : Type} {t : Sem α} {Q Q' : α → Shared → Prop} {M : Model} {A : Around} {E : Value → Shared → Prop} {s : Shared} (h : wpAny M A t Q E s) (hQ : ∀ a s, Q a s → Q' a s) : wpAny M A t Q' E s := wpAny_mono h hQ fun _ _ x => x
end L2
namespace L2
open PySem PySem.Spec PyProof.Rows
section
variable {X : Cx}
def tVar (i : Nat) : TE := fun σ H Q => ∃ v, σ[i]? = some (some v) ∧ Q v H
def tC (v : V) : TE := fun _ H Q => Q v H
theorem pe_var {i : Nat} {x : Str} {pos : Pos} (hN : X.N[i]? = some x) (hv : Vis X.env.scope x) (hd : (x == ("__debug__" : Str)) = false := by decide) (hcd : (x == ("__classdict__" : Str)) = false := by decide) : PE X (.Name x pos) (tVar i) := by
  intro pins s σ H Q I h
  obtain ⟨v, e, h⟩ := h
  obtain ⟨m, hn, hl⟩ := I.loc
  obtain ⟨u, r, l⟩ := hl i x v hN e hv
  have fin : EP X pins σ Q u s := ⟨v, H, I, r, h⟩
  rcases l with ⟨hk, hm⟩ | ⟨hk, c, hc, hcell⟩
  · exact wpAny_Name (wpAny_loadName_local I.ok.kind hk hn hm fin) hd
  · rcases hk with hk | hk
    · exact wpAny_Name (wpAny_loadName_cell I.ok.kind hk hc hcell fin) hd
    · exact wpAny_Name (wpAny_loadName_free I.ok.kind hk hc hcell fin hcd) hd
theorem pe_int {i j pos} : PE X (.Constant (.int i) j pos) (tC (.int i)) := fun _ _ _ H _ I h => wpAny_Constant_int ⟨.int i, H, I.tok _, ⟨_, rfl⟩, h⟩
theorem pe_bl {b j pos} : PE X (.Constant (.bool b) j pos) (tC (.bl b)) := fun _ _ _ H _ I h => Constant_bool ⟨.bl b, H, I, rfl, h⟩
theorem pe_str {x j pos} : PE X (.Constant (.str x) j pos) (tC (.str x)) := fun _ _ _ H _ I h => Calls.Constant_str ⟨.str x, H, I.tok _, ⟨_, rfl⟩, h⟩
def Gl (X : Cx) (x : Str) : Prop := X.env.kindOf x = some .globalImplicit
theorem ld_glob {E : Value → Shared → Prop} {pins : List (Addr × Obj)} {s : Shared} {σ : St} {H : Hp} {x : Str} {u : Value} {pos : Pos} {Q : Value → Shared → Prop} (I : Inv X pins σ H s) (hg : Gl X x) (hm : X.mg x = some u) (h : Q u s)
    (hd : (x == ("__debug__" : Str)) = false := by decide) : wpAny (model X.prog X.w) X.A (eval (.Name x pos) X.env) Q E s :=
  Calls.Name_function_global I.ok.kind hg (Calls.loadGlobal_global (by rw [I.ok.glob]; exact I.mod.glob.keeps I.bk) hm h) hd
theorem ld_blt {E : Value → Shared → Prop} {pins : List (Addr × Obj)} {s : Shared} {σ : St} {H : Hp} {x : Str} {u : Value} {pos : Pos} {Q : Value → Shared → Prop} (I : Inv X pins σ H s) (hg : Gl X x) (hm : X.mg x = none) (hv : bootBuiltins x = some u) (h : Q u s)
    (hn : x ≠ "__name__" := by decide) (hd : (x == ("__debug__" : Str)) = false := by decide) : wpAny (model X.prog X.w) X.A (eval (.Name x pos) X.env) Q E s := by
  obtain ⟨mb, h1, h2⟩ := I.mod.blt
  exact Calls.Name_function_global I.ok.kind hg (Calls.loadGlobal_builtin (by rw [I.ok.glob]; exact I.mod.glob.keeps I.bk) hm (by rw [I.ok.blt]; exact h1.keeps I.bk) ((h2 x hn).trans hv) h) hd
theorem pe_glob {x : Str} {v : V} {u : Value} {pos : Pos} (hg : Gl X x) (hm : X.mg x = some u) (r : RelV v u) (hd : (x == ("__debug__" : Str)) = false := by decide) : PE X (.Name x pos) (tC v) :=
  fun _ _ _ H _ I h => ld_glob I hg hm ⟨v, H, I, r, h⟩ hd
theorem pe_bltn {x : Str} {v : V} {u : Value} {pos : Pos} (hg : Gl X x) (hm : X.mg x = none) (hv : bootBuiltins x = some u) (r : RelV v u) (hn : x ≠ "__name__" := by decide) (hd : (x == ("__debug__" : Str)) = false := by decide) : PE X (.Name x pos) (tC v) :=
  fun _ _ _ H _ I h => ld_blt I hg hm hv ⟨v, H, I, r, h⟩ hn hd
variable {a b : Expr} {ta tb : TE} {pos : Pos}
def tB (t : TE) : TT := fun σ H Q => t σ H fun x H1 => ∃ c, x = .bl c ∧ Q c H1
theorem pt_val {e : Expr} {t : TE} (h : PE X e t) (he : ∀ whole, isTrue e X.env whole = (do let v ← whole; standAt e.pos; holding [v] (truthy v)) := by intro _; rfl) : PT X e (tB t) := by
  intro pins s σ H Q I hw
  refine isTrue_plain (thn (h pins s σ H _ I hw) fun v s1 ⟨x, H1, I1, r1, q1⟩ => ?_) (he _)
  obtain ⟨d, rfl, q⟩ := q1
  cases r1
  exact wpAny_truthy_bool ⟨H1, I1, q⟩
variable {tA tB' : TT} {rest : List Expr}
def tAnd (t u : TT) : TT := fun σ H Q => t σ H fun c H1 => if c = true then u σ H1 Q else Q false H1
def tOr (t u : TT) : TT := fun σ H Q => t σ H fun c H1 => if c = true then Q true H1 else u σ H1 Q
def tNot (t : TT) : TT := fun σ H Q => t σ H fun c H1 => Q (!c) H1
theorem pw_and1 (ha : PT X a tA) : PW X (.BoolOp .And [a] pos) tA := by
  intro wh pins s σ H Q I h
  refine isTrue_and (thn (ha pins s σ H Q I h) fun c s1 e => ?_)
  cases c with
  | true => exact isTrue_and_nil e
  | false => exact e
theorem pw_or1 (ha : PT X a tA) : PW X (.BoolOp .Or [a] pos) tA := by
  intro wh pins s σ H Q I h
  refine isTrue_or (thn (ha pins s σ H Q I h) fun c s1 e => ?_)
  cases c with
  | false => exact isTrue_or_nil e
  | true => exact e
theorem pw_and (ha : PT X a tA) (hb : PW X (.BoolOp .And (b :: rest) pos) tB') : PW X (.BoolOp .And (a :: b :: rest) pos) (tAnd tA tB') := by
  intro wh pins s σ H Q I h
  refine isTrue_and (thn (ha pins s σ H _ I h) fun c s1 ⟨H1, I1, q1⟩ => ?_)
  cases c with
  | true => exact hb wh pins s1 σ H1 Q I1 q1
  | false => exact ⟨H1, I1, q1⟩
theorem pw_or (ha : PT X a tA) (hb : PW X (.BoolOp .Or (b :: rest) pos) tB') : PW X (.BoolOp .Or (a :: b :: rest) pos) (tOr tA tB') := by
  intro wh pins s σ H Q I h
  refine isTrue_or (thn (ha pins s σ H _ I h) fun c s1 ⟨H1, I1, q1⟩ => ?_)
  cases c with
  | true => exact ⟨H1, I1, q1⟩
  | false => exact hb wh pins s1 σ H1 Q I1 q1
theorem pt_not (ha : PT X a tA) : PT X (.UnaryOp .Not a pos) (tNot tA) := by
  intro pins s σ H Q I h
  exact isTrue_not (ha pins s σ H (fun c H1 => Q (!c) H1) I h)
def tAndV (ta tb : TE) : TE := fun σ H Q => ta σ H fun x H1 => ∃ c, x = .bl c ∧ if c = true then tb σ H1 Q else Q (.bl false) H1
def tNotV (ta : TE) : TE := fun σ H Q => ta σ H fun x H1 => ∃ c, x = .bl c ∧ Q (.bl (!c)) H1
theorem pe_one {op} {t : TE} (h : PE X a t) : PE X (.BoolOp op [a] pos) t := fun pins s σ H Q I hw => BoolOp_one (h pins s σ H Q I hw)
theorem pe_and (ha : PE X a ta) (hb : PE X (.BoolOp .And (b :: rest) pos) tb) : PE X (.BoolOp .And (a :: b :: rest) pos) (tAndV ta tb) := by
  intro pins s σ H Q I h
  refine BoolOp_and (thn (ha pins s σ H _ I h) fun v s1 ⟨x, H1, I1, r1, q1⟩ => ?_)
  obtain ⟨c, rfl, q1⟩ := q1
  cases r1
  refine wpAny_truthy_bool ?_
  cases c with
  | true => exact hb pins s1 σ H1 Q I1 q1
  | false => exact ⟨.bl false, H1, I1, rfl, q1⟩
theorem pe_not (ha : PE X a ta) : PE X (.UnaryOp .Not a pos) (tNotV ta) := by
  intro pins s σ H Q I h
  refine UnaryOp_ (thn (ha pins s σ H _ I h) fun v s1 ⟨x, H1, I1, r1, q1⟩ => ?_)
  obtain ⟨c, rfl, q1⟩ := q1
  cases r1
  exact not_of (wpAny_truthy_bool ⟨.bl (!c), H1, I1, rfl, q1⟩)
def tIf (t : TT) (ta tb : TE) : TE := fun σ H Q => t σ H fun c H1 => if c = true then ta σ H1 Q else tb σ H1 Q
theorem pe_ifExp {c : Expr} (hc : PT X c tA) (ha : PE X a ta) (hb : PE X b tb) : PE X (.IfExp c a b pos) (tIf tA ta tb) := by
  intro pins s σ H Q I h
  refine wpAny_IfExp (thn (hc pins s σ H _ I h) fun d s1 ⟨H1, I1, q1⟩ => ?_)
  cases d with
  | true => exact ha pins s1 σ H1 Q I1 q1
  | false => exact hb pins s1 σ H1 Q I1 q1
end
end L2
namespace L2
open PySem PySem.Spec PyProof.Rows
def SqL (K : PySem.W.Frag) (H : Hp) (a : Addr) (xs : List V) : Prop :=
  Rd H a (.lst xs) ∨
    ∃ (o : Obj) (its : Array Value) (n : Nat), K.lookup a = some o ∧ o.cls = .type "list" ∧ o.dict = none ∧ o.data = .seq its n ∧ its.size ≤ sizeLine ∧ Vals xs its.toList
def SqT (K : PySem.W.Frag) (H : Hp) (a : Addr) (xs : List V) : Prop :=
  Rd H a (.tup xs) ∨
    ∃ (o : Obj) (its : Array Value) (n : Nat), K.lookup a = some o ∧ o.cls = .type "tuple" ∧ o.data = .seq its n ∧ its.size ≤ sizeLine ∧ Vals xs its.toList
def absV : Value → Option V
  | .none => some .non
  | .bool b => some (.bl b)
  | .int i _ => some (.int i)
  | .str x _ => some (.str x)
  | .bytes b _ => some (.byt b)
  | .float b _ => some (.flt b)
  | .ref a => some (.ref a)
  | .type n => some (.ty n)
  | _ => none
theorem RelV.abs {x : V} {u : Value} (r : RelV x u) : absV u = some x := by
  cases x with
  | non => cases r; rfl
  | bl _ => cases r; rfl
  | int _ => obtain ⟨t, rfl⟩ := r; rfl
  | str _ => obtain ⟨t, rfl⟩ := r; rfl
  | byt _ => obtain ⟨t, rfl⟩ := r; rfl
  | flt _ => obtain ⟨t, rfl⟩ := r; rfl
  | ref _ => cases r; rfl
  | ty _ => cases r; rfl
theorem RelV.inj {x y : V} {u : Value} (r : RelV x u) (q : RelV y u) : x = y := Option.some.inj (r.abs.symm.trans q.abs)
theorem Vals.inj : ∀ {xs ys : List V} {us : List Value}, Vals xs us → Vals ys us → xs = ys
  | _, _, _, .nil, .nil => rfl
  | _, _, _, .cons r t, .cons r' t' => by rw [r.inj r', Vals.inj t t']
section
variable {X : Cx} {pins : List (Addr × Obj)} {σ : St} {H : Hp} {s : Shared} {a : Addr} {xs ys : List V}
theorem SqL.of {K : PySem.W.Frag} (h : H a = some (.lst xs)) : SqL K H a xs := .inl (.inl h)
theorem SqT.of {K : PySem.W.Frag} (h : H a = some (.tup xs)) : SqT K H a xs := .inl (.inl h)
theorem Inv.list (I : Inv X pins σ H s) (h : SqL X.K H a xs) : ∃ its : List Value, Vals xs its ∧ PlainL s.heap a its.toArray ∧ xs.length ≤ sizeLine := by
  rcases h with h | ⟨o, its, n, hk, hc, hd, hs, hz, r⟩
  · obtain ⟨z, its, n, r, e⟩ := h.ok I.hok
    exact ⟨its, r, ⟨_, n, e, rfl, rfl, rfl⟩, z⟩
  · refine ⟨its.toList, r, ⟨o, n, I.kIn a o hk, hc, hd, by simpa using hs⟩, ?_⟩
    have e := r.length
    simp only [Array.length_toList] at e
    omega
theorem Inv.tuple (I : Inv X pins σ H s) (h : SqT X.K H a xs) : ∃ its : List Value, Vals xs its ∧ IsTup s.heap a its.toArray ∧ xs.length ≤ sizeLine := by
  rcases h with h | ⟨o, its, n, hk, hc, hs, hz, r⟩
  · obtain ⟨z, its, r, p⟩ := h.ok I.hok
    exact ⟨its, r, p, z⟩
  · refine ⟨its.toList, r, ⟨o, I.kIn a o hk, hc, n, by simpa using hs⟩, ?_⟩
    have e := r.length
    simp only [Array.length_toList] at e
    omega
theorem Inv.list_inj (I : Inv X pins σ H s) (h : SqL X.K H a xs) (h' : SqL X.K H a ys) : xs = ys := by
  obtain ⟨its, r, ⟨o, n, e, _, _, d⟩, _⟩ := I.list h
  obtain ⟨its', r', ⟨o', n', e', _, _, d'⟩, _⟩ := I.list h'
  rw [e] at e'; cases e'
  rw [d] at d'
  injection d' with d1 _
  have : its = its' := by simpa using congrArg Array.toList d1
  subst this
  exact r.inj r'
theorem Inv.tuple_inj (I : Inv X pins σ H s) (h : SqT X.K H a xs) (h' : SqT X.K H a ys) : xs = ys := by
  obtain ⟨its, r, ⟨o, e, _, n, d⟩, _⟩ := I.tuple h
  obtain ⟨its', r', ⟨o', e', _, n', d'⟩, _⟩ := I.tuple h'
  rw [e] at e'; cases e'
  rw [d] at d'
  injection d' with d1 _
  have : its = its' := by simpa using congrArg Array.toList d1
  subst this
  exact r.inj r'
end
abbrev Cx.wish (X : Cx) (E : Value → Shared → Prop) : Cx := { X with xe := E }
abbrev Cx.nox (X : Cx) : Cx := X.wish fun _ _ => False
theorem Cx.Ok.wish {X : Cx} (ok : X.Ok) (E : Value → Shared → Prop) : (X.wish E).Ok :=
  ⟨ok.mod, ok.kind, ok.glob, ok.blt, ok.above, ok.inj, ok.has, ok.cab, ok.hd, ok.frames, ok.stk, ok.exf, ok.bs, ok.bsz, ok.noex, ok.exfs, ok.funs, ok.frf⟩
theorem Cx.Ok.unwish {X : Cx} {E : Value → Shared → Prop} (ok : (X.wish E).Ok) : X.Ok :=
  ⟨ok.mod, ok.kind, ok.glob, ok.blt, ok.above, ok.inj, ok.has, ok.cab, ok.hd, ok.frames, ok.stk, ok.exf, ok.bs, ok.bsz, ok.noex, ok.exfs, ok.funs, ok.frf⟩
section
variable {X : Cx} {pins : List (Addr × Obj)} {σ : St} {H : Hp} {s : Shared} {E : Value → Shared → Prop}
theorem Inv.wish (I : Inv X pins σ H s) (E : Value → Shared → Prop) : Inv (X.wish E) pins σ H s := ⟨I.ok.wish E, I.os, I.bare, I.base, I.loc, I.cell, I.free, I.freeC, I.pin, I.hok, I.len⟩
theorem Inv.unwish (I : Inv (X.wish E) pins σ H s) : Inv X pins σ H s := ⟨I.ok.unwish, I.os, I.bare, I.base, I.loc, I.cell, I.free, I.freeC, I.pin, I.hok, I.len⟩
theorem SP.unwish {D : Ends} {f : Flow} {s' : Shared} (h : SP (X.wish E) pins D f s') : SP X pins D f s' := by
  cases f with
  | next => obtain ⟨σ', H', I, q⟩ := h; exact ⟨σ', H', I.unwish, q⟩
  | brk => obtain ⟨σ', H', I, q⟩ := h; exact ⟨σ', H', I.unwish, q⟩
  | cont => obtain ⟨σ', H', I, q⟩ := h; exact ⟨σ', H', I.unwish, q⟩
  | ret u => obtain ⟨v, σ', H', I, r, q⟩ := h; exact ⟨v, σ', H', I.unwish, r, q⟩
theorem PSs.nox {st : List Stmt} {t : TS} (h : PSs X.nox st t) : PSs X st t := fun pins s σ H D I hw =>
  wpAny_mono (h pins s σ H D (I.wish _) hw) (fun _ _ q => q.unwish) fun _ _ z => False.elim z
end
section
variable {X : Cx} {st : Stmt} {rest : List Stmt} {t u : TS} {e : Expr} {te : TE} {pos : Pos}
def tNext : TS := fun D σ H => D.nx σ H
def tSeq (t u : TS) : TS := fun D σ H => t { D with nx := u D } σ H
theorem pss_nil : PSs X [] tNext := fun _ _ σ H _ I h => wpAny_execs_nil ⟨σ, H, I, h⟩
theorem pss_cons (h1 : PS X st t) (h2 : PSs X rest u) : PSs X (st :: rest) (tSeq t u) := by
  intro pins s σ H D I h
  refine wpAny_execs_cons (thn (h1 pins s σ H { D with nx := u D } I h) fun f s1 q => ?_)
  cases f with
  | next =>
    obtain ⟨σ', H', I', q⟩ := q
    exact h2 pins s1 σ' H' D I' q
  | ret v => exact q
  | brk => exact q
  | cont => exact q
theorem pss_one (h1 : PS X st t) : PSs X [st] t := by
  intro pins s σ H D I h
  refine wpAny_execs_cons (thn (h1 pins s σ H D I h) fun f s1 q => ?_)
  cases f with
  | next => exact wpAny_execs_nil q
  | ret v => exact q
  | brk => exact q
  | cont => exact q
theorem Inv.quiet {pins : List (Addr × Obj)} {σ : St} {H : Hp} {s : Shared} (I : Inv X pins σ H s) : interactive X.env = false := by simp [interactive, I.ok.kind]
def tDrop (te : TE) : TS := fun D σ H => te σ H fun _ H1 => D.nx σ H1
theorem ps_expr (he : PE X e te) (hs : swapsWith e none pos.line X.env = pure false := by rfl) : PS X (.Expr e pos) (tDrop te) := by
  intro pins s σ H D I h
  exact wpAny_Expr_any (thn (he pins s σ H _ I h) fun v s1 ⟨x, H1, I1, r1, q1⟩ => ⟨σ, H1, I1, q1⟩) I.quiet hs
def tRet (te : TE) : TS := fun D σ H => te σ H D.rt
theorem ps_ret (he : PE X e te) : PS X (.Return (some e) pos) (tRet te) := by
  intro pins s σ H D I h
  exact wpAny_Return_some (thn (he pins s σ H _ I h) fun v s1 ⟨x, H1, I1, r1, q1⟩ => ⟨x, σ, H1, I1, r1, q1⟩)
def tIfS (c : TT) (t u : TS) : TS := fun D σ H => c σ H fun b H1 => if b = true then t D σ H1 else u D σ H1
theorem ps_if {c : Expr} {a b : List Stmt} {tc : TT} (hc : PT X c tc) (ha : PSs X a t) (hb : PSs X b u) : PS X (.If c a b pos) (tIfS tc t u) := by
  intro pins s σ H D I h
  refine wpAny_If (thn (hc pins s σ H _ I h) fun d s1 ⟨H1, I1, q1⟩ => ?_)
  cases d with
  | true => exact ha pins s1 σ H1 D I1 q1
  | false => exact hb pins s1 σ H1 D I1 q1
end
abbrev TG := V → St → Hp → (St → Hp → Prop) → Prop
def PG (X : Cx) (target : Expr) (t : TG) : Prop :=
  ∀ (pins : List (Addr × Obj)) (s : Shared) (σ : St) (H : Hp) (v : V) (u : Value) (Q : St → Hp → Prop), Inv X pins σ H s → RelV v u → t v σ H Q →
    wpAny (model X.prog X.w) X.A (assign target X.env u) (fun _ s' => ∃ σ' H', Inv X pins σ' H' s' ∧ Q σ' H') X.xe s
abbrev TSet := V → V → V → Hp → (Hp → Prop) → Prop
def PSet (X : Cx) (t : TSet) : Prop :=
  ∀ (pins : List (Addr × Obj)) (s : Shared) (σ : St) (H : Hp) (o i v : V) (ov iv u : Value) (Q : Hp → Prop), Inv X pins σ H s → RelV o ov → RelV i iv → RelV v u → t o i v H Q →
    wpAny (model X.prog X.w) X.A (setItem ov iv u) (fun _ s' => ∃ H', Inv X pins σ H' s' ∧ Q H') X.xe s
section
variable {X : Cx} {pos : Pos}
def gName (i : Nat) : TG := fun v σ H Q => Q (σ.set i (some v)) H
theorem pg_name {i : Nat} {x : Str} (hN : X.N.Nodup) (hi : X.N[i]? = some x) (hx : Loc X.env.scope x) (hf : X.fn x = true ∨ X.env.scope.names.lookup x = some .local := by first | exact .inl rfl | exact .inr rfl | assumption) : PG X (.Name x pos) (gName i) := by
  intro pins s σ H v u Q I r h
  exact wpAny_assign_Name (store_ok I hN hi hx r (fun s' I' => ⟨_, H, I', h⟩) hf)
def gSub (to ti : TE) (t : TSet) : TG := fun v σ H Q => to σ H fun o H1 => ti σ H1 fun i H2 => t o i v H2 fun H3 => Q σ H3
theorem pg_sub {o i : Expr} {to ti : TE} {t : TSet} (ho : PE X o to) (hi : PE X i ti) (hs : PSet X t)
    (ha : ∀ v, assign (.Subscript o i pos) X.env v = (do
      let ov ← holding [v] (eval o X.env)
      let iv ← holding [v, ov] (eval i X.env)
      standAt pos
      holding [v, ov, iv] (setItem ov iv v)
      release [v, ov, iv] []) := by intro _; rfl) : PG X (.Subscript o i pos) (gSub to ti t) := by
  intro pins s σ H v u Q I r h
  rw [ha]
  refine wpAny_bind (wpAny_holding (thn (ho pins s σ H _ I h) fun ov s1 ⟨x, H1, I1, r1, q1⟩ => ?_))
  refine wpAny_bind (wpAny_holding (thn (hi pins s1 σ H1 _ I1 q1) fun iv s2 ⟨y, H2, I2, r2, q2⟩ => ?_))
  refine wpAny_bind (wpAny_standAt (wpAny_bind (wpAny_holding (thn (hs pins s2 σ H2 x y v ov iv u _ I2 r1 r2 r q2) fun _ s3 ⟨H3, I3, q3⟩ => ?_))))
  exact wpAny_release ⟨σ, H3, I3, q3⟩
def tAsg (te : TE) (g : TG) : TS := fun D σ H => te σ H fun x H1 => g x σ H1 D.nx
theorem ps_asg {tg e : Expr} {te : TE} {g : TG} (he : PE X e te) (hg : PG X tg g) (hs : swapsWithSole [tg] e pos.line X.env = pure false := by rfl) (hw : swappedStores [tg] e X.env = pure none := by rfl)
    (h1 : (assignEach [tg] X.env).map (·.2) = [assign tg X.env] := by rfl) : PS X (.Assign [tg] e pos) (tAsg te g) := by
  intro pins s σ H D I h
  refine wpAny_Assign_stores (thn (he pins s σ H _ I h) fun v s1 ⟨x, H1, I1, r1, q1⟩ => ?_) hs hw
  rw [h1]
  exact thn (hg pins s1 σ H1 x v _ I1 r1 q1) fun _ s2 q => q
theorem ps_set {i : Nat} {x : Str} {e : Expr} {te : TE} {pos' : Pos} (hN : X.N.Nodup) (hi : X.N[i]? = some x) (hx : Loc X.env.scope x) (he : PE X e te) (hs : swapsWith e (some (.Name x pos')) pos.line X.env = pure false := by rfl) (hf : X.fn x = true ∨ X.env.scope.names.lookup x = some .local := by first | exact .inl rfl | exact .inr rfl | assumption) :
    PS X (.Assign [.Name x pos'] e pos) (tAsg te (gName i)) := by
  intro pins s σ H D I h
  refine wpAny_Assign_Name (thn (he pins s σ H _ I h) fun v s1 ⟨y, H1, I1, r1, q1⟩ => ?_) hs
  exact store_ok I1 hN hi hx r1 (fun s2 I2 => ⟨_, H1, I2, q1⟩) hf
end
section
variable {X : Cx} {pos : Pos}
def tWhile (c : TT) (tb : TS) : TS := fun D σ H => ∃ W : Nat → St → Hp → Prop, (∃ m, W m σ H) ∧ ∀ m σ H, W m σ H →
  c σ H fun b H1 => if b = true then ∃ N : St → Hp → Prop, (∀ σ' H', N σ' H' → ∃ m', m' < m ∧ W m' σ' H') ∧ tb { D with nx := N, ct := N, bk := D.nx } σ H1 else D.nx σ H1
theorem ps_while {c : Expr} {body : List Stmt} {tc : TT} {tb : TS} (hp : PassesOwn (model X.prog X.w) X.A X.env X.xe) (hc : PT X c tc) (hb : PSs X body tb) : PS X (.While c body [] pos) (tWhile tc tb) := by
  intro pins s σ H D I h
  obtain ⟨W, ⟨m0, w0⟩, turn⟩ := h
  refine wpAny_While (codeAny_whileLoop (fun n s' => ∃ σ' H', Inv X pins σ' H' s' ∧ W n σ' H') ?_ m0 ⟨σ, H, I, w0⟩)
  rintro n s1 ⟨σ1, H1, I1, w1⟩
  refine wpAny_passesOwn hp (thn (hc pins s1 σ1 H1 _ I1 (turn n σ1 H1 w1)) fun b s2 ⟨H2, I2, q2⟩ => ?_)
  cases b with
  | true =>
    obtain ⟨N, hN, q2⟩ := q2
    rw [if_pos rfl]
    refine wpAny_passesOwn hp (thn (hb pins s2 σ1 H2 _ I2 q2) fun f s3 q3 => ?_)
    cases f with
    | next =>
      obtain ⟨σ3, H3, I3, n3⟩ := q3
      obtain ⟨m', hm, w3⟩ := hN σ3 H3 n3
      exact ⟨m', hm, σ3, H3, I3, w3⟩
    | cont =>
      obtain ⟨σ3, H3, I3, n3⟩ := q3
      obtain ⟨m', hm, w3⟩ := hN σ3 H3 n3
      exact ⟨m', hm, σ3, H3, I3, w3⟩
    | brk => exact q3
    | ret v => exact q3
  | false =>
    rw [if_neg Bool.false_ne_true]
    exact wpAny_execs_nil ⟨σ1, H2, I2, q2⟩
end
structure It where
  go : Nat → Hp → Prop
  yld : Nat → Hp → V → Hp → Prop
  stop : Nat → Hp → Prop
def FpOk (X : Cx) (pins : List (Addr × Obj)) (H : Hp) (b : Addr) : Prop :=
  H b = none ∧ b ≠ X.env.locals ∧ b ∉ X.fs ∧ (b ∈ X.ex ∨ X.s₀.heap.objs.size ≤ b) ∧ (∀ x c, X.env.cells.lookup x = some c → c ≠ b) ∧ ∀ p ∈ X.pn ++ pins, p.1 ≠ b
theorem Inv.fpOk {X : Cx} {pins : List (Addr × Obj)} {σ : St} {H H' : Hp} {s : Shared} {b : Addr} (I : Inv X pins σ H s) (hb : s.heap.objs.size ≤ b) (hn : H' b = none) : FpOk X pins H' b := by
  refine ⟨hn, Nat.ne_of_gt (Nat.lt_of_lt_of_le I.lt hb), I.nofs hb, .inr (Nat.le_trans I.sz hb), fun x c e z => ?_, fun p hp z => ?_⟩
  · obtain ⟨v, q⟩ := I.cell x c e
    exact absurd (Nat.lt_of_lt_of_le q.lt (by rw [z]; exact hb)) (Nat.lt_irrefl _)
  · exact absurd (Nat.lt_of_lt_of_le (Heap.lt_size (I.pin p hp).1) (by rw [z]; exact hb)) (Nat.lt_irrefl _)
structure Turn (P : Program) (w : World) (K : PySem.W.Frag) (tg : Expr) (J : It) (fp : List Addr) (it : Addr) (tn : Nat → Heap → Prop) : Prop where
  mem : it ∈ fp
  obj : ∀ i h, tn i h → ∀ b ∈ fp, ∃ o, h.get? b = some o ∧ ∀ v, o.data ≠ .cell v
  keep : ∀ i h h', tn i h → (∀ b ∈ fp, ∀ o, h.get? b = some o → h'.get? b = some o) → tn i h'
  item : ∀ (X : Cx), X.prog = P → X.w = w → X.K = K → X.calm = true → ∀ (i : Nat) (pins : List (Addr × Obj)) (s : Shared) (σ : St) (H : Hp) (E : Value → Shared → Prop), Inv X pins σ H s → (∀ b ∈ fp, FpOk X pins H b) → tn i s.heap → J.go i H →
    wpAny (model P w) X.A (pyNext (.ref it)) (fun r s1 => ∃ u, r = some u ∧
      wpAny (model P w) X.A (letOwnedTupleGo tg (.ref it) u) (fun _ s2 => ∃ x H', Inv X pins σ H' s2 ∧ RelV x u ∧ J.yld i H x H' ∧ tn (i + 1) s2.heap ∧ ∀ b ∈ fp, H' b = none) E s1) E s
  done : ∀ (X : Cx), X.prog = P → X.w = w → X.K = K → X.calm = true → ∀ (i : Nat) (pins : List (Addr × Obj)) (s : Shared) (σ : St) (H : Hp) (E : Value → Shared → Prop), Inv X pins σ H s → (∀ b ∈ fp, FpOk X pins H b) → tn i s.heap → J.stop i H →
    wpAny (model P w) X.A (pyNext (.ref it)) (fun r s1 => r = none ∧ Inv X pins σ H s1) E s
  self : ∀ (A : Around) (i : Nat) (s : Shared) (Q : Value → Shared → Prop) (E : Value → Shared → Prop), tn i s.heap → Q (.ref it) s → wpAny (model P w) A (pyIter (.ref it)) Q E s
abbrev TI := St → Hp → (It → Hp → Prop) → Prop
def PIE (X : Cx) (pins : List (Addr × Obj)) (σ : St) (tg : Expr) (R : It → Hp → Prop) (itv : Value) (s2 : Shared) : Prop :=
  ∃ (it : Addr) (fp : List Addr) (tn : Nat → Heap → Prop) (J : It) (H' : Hp), itv = .ref it ∧ Inv X pins σ H' s2 ∧ Turn X.prog X.w X.K tg J fp it tn ∧ tn 0 s2.heap ∧ (∀ b ∈ fp, FpOk X pins H' b) ∧ R J H'
def PI (X : Cx) (tg iter : Expr) (wi : TI) : Prop :=
  ∀ (pins : List (Addr × Obj)) (s : Shared) (σ : St) (H : Hp) (R : It → Hp → Prop), Inv X pins σ H s → wi σ H R →
    wpAny (model X.prog X.w) X.A (eval iter X.env) (fun v s1 => wpAny (model X.prog X.w) X.A (pyIter v) (PIE X pins σ tg R) X.xe s1) X.xe s
theorem go_of {M : Model} {A : Around} {E : Value → Shared → Prop} {s : Shared} {tg : Expr} {it : Addr} {u : Value} {o : Obj} {n : String} {vs : Array Value} {Q : Unit → Shared → Prop} (ho : s.heap.get? it = some o) (hc : o.cls = .type n) (hd : o.data = .fields vs)
    (hn : ["enumerate", "zip", "dict_itemiterator", "dict_reverseitemiterator", "odict_iterator", "itertools.zip_longest", "itertools.pairwise"].contains n = false) (hQ : Q () s) : wpAny M A (letOwnedTupleGo tg (.ref it) u) Q E s := by
  unfold letOwnedTupleGo
  cases tg <;> first
    | exact wpAny_pure hQ
    | (cases u <;> first
        | exact wpAny_pure hQ
        | (refine wpAny_bind (wpAny_load ho ?_)
           rw [hc, hd]
           show wpAny M A (if (["enumerate", "zip", "dict_itemiterator", "dict_reverseitemiterator", "odict_iterator", "itertools.zip_longest", "itertools.pairwise"].contains n && vs[0]? == some (rawInt _)) = true then _ else _) Q E s
           rw [if_neg (by intro h; rw [hn, Bool.false_and] at h; cases h)]
           exact wpAny_pure hQ))
def Itl (K : PySem.W.Frag) (a : Addr) : It :=
  ⟨fun i H => ∃ xs x, SqL K H a xs ∧ xs[i]? = some x, fun i H x H' => H' = H ∧ ∀ xs, SqL K H a xs → xs[i]? = some x, fun i H => ∃ xs, SqL K H a xs ∧ xs.length ≤ i⟩
def Itt (K : PySem.W.Frag) (a : Addr) : It :=
  ⟨fun i H => ∃ xs x, SqT K H a xs ∧ xs[i]? = some x, fun i H x H' => H' = H ∧ ∀ xs, SqT K H a xs → xs[i]? = some x, fun i H => ∃ xs, SqT K H a xs ∧ xs.length ≤ i⟩
def Itr (lo : Int) (n : Nat) : It := ⟨fun i _ => i < n, fun i H x H' => H' = H ∧ x = .int (lo + i), fun i _ => n ≤ i⟩
theorem turn_list {P : Program} {w : World} {K : PySem.W.Frag} {tg : Expr} (a it : Addr) : Turn P w K tg (Itl K a) [it] it (fun i h => h.IsListIter it a i) where
  mem := by simp
  obj := fun i h st b hb => by
    have e : b = it := by simpa using hb
    subst e
    obtain ⟨o, e, c, d⟩ := st
    exact ⟨o, e, fun v z => by rw [d] at z; cases z⟩
  keep := fun i h h' st k => st.at fun o e => k it (by simp) o e
  item := by
    intro X hP hw hK hc i pins s σ H E I hf st hg
    subst hP hw hK
    obtain ⟨xs, x, hq, hx⟩ := hg
    obtain ⟨its, rv, p, hz⟩ := I.list hq
    obtain ⟨u, hu, ru⟩ := rv.get hx
    obtain ⟨f0, f1, f2, f3, f4, f5⟩ := hf it (by simp)
    refine wpAny_pyNext_list_item st p.isList (x := u) (by simpa using hu) fun h' st' sb => ?_
    have I1 : Inv X pins σ H { s with heap := h' } := I.turned (t' := s.toks) (fun b o hb e => (sb.2 b hb).trans e) f0 f1 f3 f4 f5
    obtain ⟨o, e, c, d⟩ := id st'
    exact ⟨u, rfl, go_of (s := { s with heap := h' }) e c d (by decide) ⟨x, H, I1, ru, ⟨rfl, fun ys hy => by rw [I.list_inj hy hq]; exact hx⟩, st', fun b hb => (hf b hb).1⟩⟩
  done := by
    intro X hP hw hK hc i pins s σ H E I hf st hg
    subst hP hw hK
    obtain ⟨xs, hq, hx⟩ := hg
    obtain ⟨its, rv, p, hz⟩ := I.list hq
    obtain ⟨f0, f1, f2, f3, f4, f5⟩ := hf it (by simp)
    have hl := rv.length
    exact wpAny_pyNext_list_end (I.ok.hd hc) st p.isList (by simp; omega) fun h' eb => ⟨rfl, I.turned (t' := s.toks) (fun b o hb e => eb b o hb e) f0 f1 f3 f4 f5⟩
  self := fun _ _ _ _ _ st h => wpAny_pyIter_listiter st h
theorem turn_tuple {P : Program} {w : World} {K : PySem.W.Frag} {tg : Expr} (a it : Addr) : Turn P w K tg (Itt K a) [it] it (fun i h => h.IsTupleIter it a i) where
  mem := by simp
  obj := fun i h st b hb => by
    have e : b = it := by simpa using hb
    subst e
    obtain ⟨o, e, c, d⟩ := st
    exact ⟨o, e, fun v z => by rw [d] at z; cases z⟩
  keep := fun i h h' st k => st.at fun o e => k it (by simp) o e
  item := by
    intro X hP hw hK hc i pins s σ H E I hf st hg
    subst hP hw hK
    obtain ⟨xs, x, hq, hx⟩ := hg
    obtain ⟨its, rv, p, hz⟩ := I.tuple hq
    obtain ⟨u, hu, ru⟩ := rv.get hx
    obtain ⟨f0, f1, f2, f3, f4, f5⟩ := hf it (by simp)
    refine wpAny_pyNext_tuple_item st (show s.heap.IsTuple a its.toArray from p) (x := u) (by simpa using hu) fun h' st' sb => ?_
    have I1 : Inv X pins σ H { s with heap := h' } := I.turned (t' := s.toks) (fun b o hb e => (sb.2 b hb).trans e) f0 f1 f3 f4 f5
    obtain ⟨o, e, c, d⟩ := id st'
    exact ⟨u, rfl, go_of (s := { s with heap := h' }) e c d (by decide) ⟨x, H, I1, ru, ⟨rfl, fun ys hy => by rw [I.tuple_inj hy hq]; exact hx⟩, st', fun b hb => (hf b hb).1⟩⟩
  done := by
    intro X hP hw hK hc i pins s σ H E I hf st hg
    subst hP hw hK
    obtain ⟨xs, hq, hx⟩ := hg
    obtain ⟨its, rv, p, hz⟩ := I.tuple hq
    obtain ⟨f0, f1, f2, f3, f4, f5⟩ := hf it (by simp)
    have hl := rv.length
    exact wpAny_pyNext_tuple_end (I.ok.hd hc) st (show s.heap.IsTuple a its.toArray from p) (by simp; omega) fun h' eb => ⟨rfl, I.turned (t' := s.toks) (fun b o hb e => eb b o hb e) f0 f1 f3 f4 f5⟩
  self := fun _ _ _ _ _ st h => wpAny_pyIter_tupleiter st h
theorem turn_range {P : Program} {w : World} {K : PySem.W.Frag} {tg : Expr} (it : Addr) (lo : Int) (n : Nat) : Turn P w K tg (Itr lo n) [it] it (fun i h => IsRangeIter h it (lo + (i : Nat) * 1) ((n : Int) - (i : Nat)) 1) where
  mem := by simp
  obj := fun i h st b hb => by
    have e : b = it := by simpa using hb
    subst e
    exact ⟨_, st, fun v z => by
      have z' : Data.fields _ = Data.cell v := z
      cases z'⟩
  keep := fun i h h' st k => k it (by simp) _ st
  item := by
    intro X hP hw hK hc i pins s σ H E I hf st hg
    subst hP hw hK
    obtain ⟨f0, f1, f2, f3, f4, f5⟩ := hf it (by simp)
    have W := Walks.range (prog := X.prog) (w := X.w) (I.ok.hd hc) it lo 1 n
    refine W.item i s _ _ hg st fun v h' tk hv st' kk => ?_
    obtain ⟨t, rfl⟩ := hv
    have I1 : Inv X pins σ H { s with heap := h', toks := tk } := I.turned (fun b o hb e => kk b o (by simpa using hb) e) f0 f1 f3 f4 f5
    refine ⟨_, rfl, go_of (s := { s with heap := h', toks := tk }) (n := "range_iterator") st' rfl rfl (by decide) ⟨.int (lo + i), H, I1, ⟨t, ?_⟩, ⟨rfl, rfl⟩, st', fun b hb => (hf b hb).1⟩⟩
    rw [Int.mul_one]
  done := by
    intro X hP hw hK hc i pins s σ H E I hf st hg
    subst hP hw hK
    obtain ⟨f0, f1, f2, f3, f4, f5⟩ := hf it (by simp)
    exact wpAny_pyNext_range_end (I.ok.hd hc) st (by have : n ≤ i := hg; omega) fun h' eb => ⟨rfl, I.turned (t' := s.toks) (fun b o hb e => eb b o hb e) f0 f1 f3 f4 f5⟩
  self := fun _ _ _ _ _ st h => wpAny_pyIter_rangeiter st h
end L2
namespace L2
open PySem PySem.Spec PyProof.Rows
section
variable {X : Cx} {tg : Expr}
theorem range_it {pins : List (Addr × Obj)} {σ : St} {H : Hp} {s : Shared} {R : It → Hp → Prop} {E : Value → Shared → Prop} {lo hi : Int} {t u v : Tok} {tk : Nat} (I : Inv X pins σ H s) (h1 : -(2 ^ 62) ≤ lo) (h2 : lo < 2 ^ 62) (h3 : -(2 ^ 62) ≤ hi) (h4 : hi < 2 ^ 62)
    (q : R (Itr lo (hi - lo).toNat) H) : wpAny (model X.prog X.w) X.A (pyIter (.ref s.heap.objs.size)) (PIE X pins σ tg R) E { s with heap := s.heap.push { cls := .type "range", data := .fields #[.int lo t, .int hi u, .int 1 v] }, toks := tk } := by
  refine wpAny_pyIter_range (IsRange.new ..) (small_one h1 h2 h3 h4) ?_
  have I1 : Inv X pins σ H { s with heap := s.heap.push { cls := .type "range", data := .fields #[.int lo t, .int hi u, .int 1 v] }, toks := tk } := I.kept fun b o e => Heap.get?_push_of_some _ e
  refine ⟨(s.heap.push { cls := .type "range", data := .fields #[.int lo t, .int hi u, .int 1 v] }).objs.size, [(s.heap.push { cls := .type "range", data := .fields #[.int lo t, .int hi u, .int 1 v] }).objs.size], _, _, H, rfl,
    I1.kept (t' := tk) fun b o e => Heap.get?_push_of_some _ e, turn_range _ lo (hi - lo).toNat, ?_, fun b hb => ?_, q⟩
  · have e1 : lo + ((0 : Nat) : Int) * 1 = lo := by simp
    have e2 : (((hi - lo).toNat : Nat) : Int) - ((0 : Nat) : Int) = Builtin.Range.rangeSize lo hi 1 := by rw [rangeSize_one]; split <;> omega
    show IsRangeIter _ _ (lo + ((0 : Nat) : Int) * 1) ((((hi - lo).toNat : Nat) : Int) - ((0 : Nat) : Int)) 1
    rw [e1, e2]
    exact Heap.get?_push_size _ rfl
  · have e : b = (s.heap.push { cls := .type "range", data := .fields #[.int lo t, .int hi u, .int 1 v] }).objs.size := by simpa using hb
    subst e
    exact I1.fpOk (Nat.le_refl _) (I1.hok.fresh (Nat.le_refl _))
def iRng1 (ta : TA) : TI := fun σ H R => ta σ H fun vs H1 => ∃ j : Int, vs = [.int j] ∧ -(2 ^ 62) ≤ j ∧ j < 2 ^ 62 ∧ R (Itr 0 j.toNat) H1
theorem pi_range1 {a : Expr} {ta : TA} {p pos : Pos} (hg : Gl X "range") (hm : X.mg "range" = none) (ha : PA X [a] ta) (hs : starEach [a] X.env = [(false, eval a X.env)] := by rfl) : PI X tg (.Call (.Name "range" p) [a] [] pos) (iRng1 ta) := by
  intro pins s σ H R I h
  refine Call_ (ld_blt I hg hm boot_range (PyProof.Rows.callWith_type1 (thn (ha pos pins s σ H _ I h) fun us s1 ⟨vs, H1, I1, r1, q1⟩ => ?_) hs rfl))
  obtain ⟨j, e, q1, q2, q⟩ := q1
  subst e
  cases r1 with
  | cons r rr =>
    cases rr
    obtain ⟨t, rfl⟩ := r
    exact call_range_1 (range_it I1 (by omega) (by omega) q1 q2 (by simpa using q))
def tFor (wi : TI) (g : TG) (tb : TS) : TS := fun D σ H => wi σ H fun J H1 => ∃ W : Nat → Nat → St → Hp → Prop, (∃ m, W 0 m σ H1) ∧ ∀ i m σ H, W i m σ H →
  (J.stop i H ∧ D.nx σ H) ∨ (J.go i H ∧ ∃ N : St → Hp → Prop, (∀ σ' H', N σ' H' → ∃ m', m' < m ∧ W (i + 1) m' σ' H') ∧ ∀ x H', J.yld i H x H' → g x σ H' fun σ2 H2 => tb { D with nx := N, ct := N, bk := D.nx } σ2 H2)
def pinsAt (fp : List Addr) (h : Heap) : List (Addr × Obj) := fp.filterMap fun b => (h.get? b).map fun o => (b, o)
theorem mem_pinsAt {fp : List Addr} {h : Heap} {b : Addr} {o : Obj} (hb : b ∈ fp) (e : h.get? b = some o) : (b, o) ∈ pinsAt fp h := List.mem_filterMap.mpr ⟨b, hb, by rw [e]; rfl⟩
theorem of_pinsAt {fp : List Addr} {h : Heap} {p : Addr × Obj} (hp : p ∈ pinsAt fp h) : p.1 ∈ fp ∧ h.get? p.1 = some p.2 := by
  obtain ⟨b, hb, e⟩ := List.mem_filterMap.mp hp
  cases q : h.get? b with
  | none => rw [q] at e; cases e
  | some o =>
    rw [q] at e
    have e' : (b, o) = p := Option.some.inj e
    subst e'
    exact ⟨hb, q⟩
theorem Inv.pinned {pins : List (Addr × Obj)} {σ : St} {H : Hp} {s : Shared} {fp : List Addr} (I : Inv X pins σ H s) (hf : ∀ b ∈ fp, FpOk X pins H b) (ho : ∀ b ∈ fp, ∃ o, s.heap.get? b = some o ∧ ∀ v, o.data ≠ .cell v) : Inv X (pins ++ pinsAt fp s.heap) σ H s :=
  I.pins_of fun p hp => (List.mem_append.mp hp).elim (fun z => I.pin p (List.mem_append_right _ z)) fun z => by
    obtain ⟨hb, e⟩ := of_pinsAt z
    obtain ⟨f0, f1, f2, _⟩ := hf p.1 hb
    obtain ⟨o, e', d⟩ := ho p.1 hb
    rw [e] at e'; cases e'
    exact ⟨e, f0, f1, f2, d⟩
theorem Inv.unpinned {pins pl : List (Addr × Obj)} {σ : St} {H : Hp} {s : Shared} (I : Inv X (pins ++ pl) σ H s) : Inv X pins σ H s := I.pins_of fun p hp => I.pin p (List.mem_append_right _ (List.mem_append_left _ hp))
theorem ps_for {iter : Expr} {body : List Stmt} {wi : TI} {g : TG} {tb : TS} {pos : Pos} (hp : PassesOwn (model X.prog X.w) X.A X.env X.xe) (hc : X.calm = true) (hi : PI X tg iter wi) (hg : PG X tg g) (hb : PSs X body tb)
    (hs : ∀ x, foldedSetIterable iter X.env x = pure x := by intro _; rfl) : PS X (.For tg iter body [] pos) (tFor wi g tb) := by
  intro pins s σ H D I h
  refine wpAny_For (thn (hi pins s σ H _ I h) fun v s1 h1 => thn h1 fun itv s2 h2 => ?_) hs
  obtain ⟨it, fp, tn, J, H2, e, I2, T, st2, f2, W, ⟨m0, w0⟩, turn⟩ := h2
  subst e
  -- what stays true of the iterator's objects through the loop
  have stat : ∀ {H' : Hp}, (∀ b ∈ fp, H' b = none) → ∀ b ∈ fp, FpOk X pins H' b := fun hn b hb => ⟨hn b hb, (f2 b hb).2⟩
  refine codeAny_forLoop_any (fun n s' => ∃ i σ' H', Inv X pins σ' H' s' ∧ tn i s'.heap ∧ (∀ b ∈ fp, H' b = none) ∧ W i n σ' H') ?_ m0 ⟨0, σ, H2, I2, st2, fun b hb => (f2 b hb).1, w0⟩
  rintro n s3 ⟨i, σ3, H3, I3, st3, fr3, w3⟩
  rcases turn i n σ3 H3 w3 with ⟨stop, qn⟩ | ⟨go, N, hN, step⟩
  · refine wpAny_passesOwn hp (thn (T.done X rfl rfl rfl hc i pins s3 σ3 H3 X.xe I3 (stat fr3) st3 stop) fun r s4 ⟨hr, I4⟩ => ?_)
    subst hr
    exact wpAny_execs_nil ⟨σ3, H3, I4, qn⟩
  · refine wpAny_passesOwn hp (thn (T.item X rfl rfl rfl hc i pins s3 σ3 H3 X.xe I3 (stat fr3) st3 go) fun r s4 ⟨u, hr, h4⟩ => ?_)
    subst hr
    refine wpAny_passesOwn hp (thn h4 fun _ s5 ⟨x, H5, I5, r5, y5, st5, fr5⟩ => ?_)
    have I5' := I5.pinned (stat fr5) (T.obj _ _ st5)
    refine wpAny_passesOwn hp (thn (hg _ s5 σ3 H5 x u _ I5' r5 (step x H5 y5)) fun _ s6 ⟨σ6, H6, I6, q6⟩ => ?_)
    refine wpAny_passesOwn hp (thn (hb _ s6 σ6 H6 _ I6 q6) fun f s7 q7 => ?_)
    have again : ∀ {σ7 : St} {H7 : Hp}, Inv X (pins ++ pinsAt fp s5.heap) σ7 H7 s7 → N σ7 H7 → ∃ m, m < n ∧ ∃ i σ' H', Inv X pins σ' H' s7 ∧ tn i s7.heap ∧ (∀ b ∈ fp, H' b = none) ∧ W i m σ' H' := fun {σ7 H7} I7 n7 => by
      obtain ⟨m', hm, w7⟩ := hN σ7 H7 n7
      refine ⟨m', hm, i + 1, σ7, H7, I7.unpinned, T.keep _ _ _ st5 fun b hb o e => (I7.pin (b, o) (List.mem_append_right _ (List.mem_append_right _ (mem_pinsAt hb e)))).1, fun b hb => ?_, w7⟩
      obtain ⟨o, e, d⟩ := T.obj _ _ st5 b hb
      exact (I7.pin (b, o) (List.mem_append_right _ (List.mem_append_right _ (mem_pinsAt hb e)))).2.1
    cases f with
    | next => obtain ⟨σ7, H7, I7, n7⟩ := q7; exact again I7 n7
    | cont => obtain ⟨σ7, H7, I7, n7⟩ := q7; exact again I7 n7
    | brk => obtain ⟨σ7, H7, I7, q7⟩ := q7; exact ⟨σ7, H7, I7.unpinned, q7⟩
    | ret v => obtain ⟨x7, σ7, H7, I7, r7, q7⟩ := q7; exact ⟨x7, σ7, H7, I7.unpinned, r7, q7⟩
end
theorem for_list {K : PySem.W.Frag} {a : Addr} {xs : List V} {g : TG} {tb : TS} {D : Ends} {σ : St} {H : Hp} (Pv : Nat → St → Hp → Prop) (h0 : Pv 0 σ H) (hl : ∀ i σ H, i ≤ xs.length → Pv i σ H → SqL K H a xs)
    (hs : ∀ i x σ H, xs[i]? = some x → Pv i σ H → g x σ H fun σ2 H2 => tb { D with nx := Pv (i + 1), ct := Pv (i + 1), bk := D.nx } σ2 H2) (hd : ∀ σ H, Pv xs.length σ H → D.nx σ H) :
    ∃ W : Nat → Nat → St → Hp → Prop, (∃ m, W 0 m σ H) ∧ ∀ i m σ H, W i m σ H →
      ((Itl K a).stop i H ∧ D.nx σ H) ∨ ((Itl K a).go i H ∧ ∃ N : St → Hp → Prop, (∀ σ' H', N σ' H' → ∃ m', m' < m ∧ W (i + 1) m' σ' H') ∧ ∀ x H', (Itl K a).yld i H x H' → g x σ H' fun σ2 H2 => tb { D with nx := N, ct := N, bk := D.nx } σ2 H2) := by
  refine ⟨fun i m σ H => m = xs.length - i ∧ i ≤ xs.length ∧ Pv i σ H, ⟨xs.length, by simp, Nat.zero_le _, h0⟩, ?_⟩
  rintro i m σ H ⟨rfl, hi, p⟩
  have q := hl i σ H hi p
  by_cases hlt : i < xs.length
  · refine .inr ⟨⟨xs, xs[i], q, by simp [hlt]⟩, Pv (i + 1), fun σ' H' p' => ⟨xs.length - (i + 1), by omega, rfl, hlt, p'⟩, fun x H' y => ?_⟩
    obtain ⟨e, y⟩ := y
    subst e
    exact hs i x σ _ (y xs q) p
  · have e : i = xs.length := by omega
    subst e
    exact .inl ⟨⟨xs, q, Nat.le_refl _⟩, hd σ H p⟩
theorem for_tup {K : PySem.W.Frag} {a : Addr} {xs : List V} {g : TG} {tb : TS} {D : Ends} {σ : St} {H : Hp} (Pv : Nat → St → Hp → Prop) (h0 : Pv 0 σ H) (hl : ∀ i σ H, i ≤ xs.length → Pv i σ H → SqT K H a xs)
    (hs : ∀ i x σ H, xs[i]? = some x → Pv i σ H → g x σ H fun σ2 H2 => tb { D with nx := Pv (i + 1), ct := Pv (i + 1), bk := D.nx } σ2 H2) (hd : ∀ σ H, Pv xs.length σ H → D.nx σ H) :
    ∃ W : Nat → Nat → St → Hp → Prop, (∃ m, W 0 m σ H) ∧ ∀ i m σ H, W i m σ H →
      ((Itt K a).stop i H ∧ D.nx σ H) ∨ ((Itt K a).go i H ∧ ∃ N : St → Hp → Prop, (∀ σ' H', N σ' H' → ∃ m', m' < m ∧ W (i + 1) m' σ' H') ∧ ∀ x H', (Itt K a).yld i H x H' → g x σ H' fun σ2 H2 => tb { D with nx := N, ct := N, bk := D.nx } σ2 H2) := by
  refine ⟨fun i m σ H => m = xs.length - i ∧ i ≤ xs.length ∧ Pv i σ H, ⟨xs.length, by simp, Nat.zero_le _, h0⟩, ?_⟩
  rintro i m σ H ⟨rfl, hi, p⟩
  have q := hl i σ H hi p
  by_cases hlt : i < xs.length
  · refine .inr ⟨⟨xs, xs[i], q, by simp [hlt]⟩, Pv (i + 1), fun σ' H' p' => ⟨xs.length - (i + 1), by omega, rfl, hlt, p'⟩, fun x H' y => ?_⟩
    obtain ⟨e, y⟩ := y
    subst e
    exact hs i x σ _ (y xs q) p
  · have e : i = xs.length := by omega
    subst e
    exact .inl ⟨⟨xs, q, Nat.le_refl _⟩, hd σ H p⟩
theorem for_range {lo : Int} {n : Nat} {g : TG} {tb : TS} {D : Ends} {σ : St} {H : Hp} (Pv : Nat → St → Hp → Prop) (h0 : Pv 0 σ H)
    (hs : ∀ i σ H, i < n → Pv i σ H → g (.int (lo + i)) σ H fun σ2 H2 => tb { D with nx := Pv (i + 1), ct := Pv (i + 1), bk := D.nx } σ2 H2) (hd : ∀ σ H, Pv n σ H → D.nx σ H) :
    ∃ W : Nat → Nat → St → Hp → Prop, (∃ m, W 0 m σ H) ∧ ∀ i m σ H, W i m σ H →
      ((Itr lo n).stop i H ∧ D.nx σ H) ∨ ((Itr lo n).go i H ∧ ∃ N : St → Hp → Prop, (∀ σ' H', N σ' H' → ∃ m', m' < m ∧ W (i + 1) m' σ' H') ∧ ∀ x H', (Itr lo n).yld i H x H' → g x σ H' fun σ2 H2 => tb { D with nx := N, ct := N, bk := D.nx } σ2 H2) := by
  refine ⟨fun i m σ H => m = n - i ∧ i ≤ n ∧ Pv i σ H, ⟨n, by simp, Nat.zero_le _, h0⟩, ?_⟩
  rintro i m σ H ⟨rfl, hi, p⟩
  by_cases hlt : i < n
  · refine .inr ⟨hlt, Pv (i + 1), fun σ' H' p' => ⟨n - (i + 1), by omega, rfl, hlt, p'⟩, fun x H' y => ?_⟩
    obtain ⟨e, y⟩ := y
    subst e y
    exact hs i σ _ hlt p
  · have e : i = n := by omega
    subst e
    exact .inl ⟨Nat.le_refl _, hd σ H p⟩
end L2
namespace L2
open PySem PySem.Spec PyProof.Rows
abbrev R2 := V → V → Hp → VK → Prop
def OpR (X : Cx) (f : Value → Value → Sem Value) (r : R2) : Prop :=
  ∀ (pins : List (Addr × Obj)) (s : Shared) (σ : St) (H : Hp) (x y : V) (v u : Value) (Q : VK), Inv X pins σ H s → RelV x v → RelV y u → r x y H Q →
    wpAny (model X.prog X.w) X.A (f v u) (EP X pins σ Q) X.xe s
def UnR (X : Cx) (f : Value → Sem Value) (r : V → Hp → VK → Prop) : Prop :=
  ∀ (pins : List (Addr × Obj)) (s : Shared) (σ : St) (H : Hp) (x : V) (v : Value) (Q : VK), Inv X pins σ H s → RelV x v → r x H Q →
    wpAny (model X.prog X.w) X.A (f v) (EP X pins σ Q) X.xe s
def CallR (X : Cx) (f : Value) (r : List V → Hp → VK → Prop) : Prop :=
  ∀ (pins : List (Addr × Obj)) (s : Shared) (σ : St) (H : Hp) (xs : List V) (us : List Value) (Q : VK), Inv X pins σ H s → Vals xs us → r xs H Q →
    wpAny (model X.prog X.w) X.A (call f us) (EP X pins σ Q) X.xe s
def tOp (r : R2) (ta tb : TE) : TE := fun σ H Q => ta σ H fun x H1 => tb σ H1 fun y H2 => r x y H2 Q
def tUn (r : V → Hp → VK → Prop) (ta : TE) : TE := fun σ H Q => ta σ H fun x H1 => r x H1 Q
def rI (C : Int → Int → Prop) (g : Int → Int → V) : R2 := fun x y H Q => ∃ i j, x = .int i ∧ y = .int j ∧ C i j ∧ Q (g i j) H
def rI0 (g : Int → Int → V) : R2 := fun x y H Q => ∃ i j, x = .int i ∧ y = .int j ∧ Q (g i j) H
def rU (g : Int → V) : V → Hp → VK → Prop := fun x H Q => ∃ i, x = .int i ∧ Q (g i) H
section
variable {X : Cx} {a b c : Expr} {ta tb tc : TE} {pos : Pos}
theorem binT (ha : PE X a ta) (hb : PE X b tb) {pins : List (Addr × Obj)} {s : Shared} {σ : St} {H : Hp} {R : V → V → Hp → Prop} (I : Inv X pins σ H s)
    (h : ta σ H fun x H1 => tb σ H1 fun y H2 => R x y H2) {Q : Value → Shared → Prop} {f : Value → Value → Sem Value}
    (hf : ∀ v u s2 x y H2, Inv X pins σ H2 s2 → RelV x v → RelV y u → R x y H2 → wpAny (model X.prog X.w) X.A (f v u) Q X.xe s2) :
    wpAny (model X.prog X.w) X.A (eval a X.env) (fun v s₁ => wpAny (model X.prog X.w) X.A (eval b X.env) (fun u s₂ => wpAny (model X.prog X.w) X.A (f v u) Q X.xe s₂) X.xe s₁) X.xe s := by
  refine thn (ha pins s σ H _ I h) fun v s1 ⟨x, H1, I1, r1, q1⟩ => ?_
  refine thn (hb pins s1 σ H1 _ I1 q1) fun u s2 ⟨y, H2, I2, r2, q2⟩ => ?_
  exact hf v u s2 x y H2 I2 r1 r2 q2
theorem pe_op {op : Operator} {r : R2} (ho : OpR X (binaryOp op) r) (ha : PE X a ta) (hb : PE X b tb) : PE X (.BinOp a op b pos) (tOp r ta tb) := by
  intro pins s σ H Q I h
  exact wpAny_BinOp (binT ha hb I h fun v u s2 x y H2 I2 rx ry q => ho pins s2 σ H2 x y v u Q I2 rx ry q)
theorem pe_un {op : UnaryOp} {r : V → Hp → VK → Prop} (ho : UnR X (unaryOp op) r) (ha : PE X a ta) : PE X (.UnaryOp op a pos) (tUn r ta) := by
  intro pins s σ H Q I h
  exact UnaryOp_ (thn (ha pins s σ H _ I h) fun v s1 ⟨x, H1, I1, r1, q1⟩ => ho pins s1 σ H1 x v Q I1 r1 q1)
theorem opI {f : Value → Value → Sem Value} {C : Int → Int → Prop} {g : Int → Int → Int}
    (rule : ∀ (i j : Int) (t u : Tok) (s : Shared) (Q : Value → Shared → Prop) (E : Value → Shared → Prop), C i j → Q (.int (g i j) s.toks) { s with toks := s.toks + 1 } → wpAny (model X.prog X.w) X.A (f (.int i t) (.int j u)) Q E s) :
    OpR X f (rI C fun i j => .int (g i j)) := by
  intro pins s σ H x y v u Q I rx ry h
  obtain ⟨i, j, rfl, rfl, hc, q⟩ := h
  obtain ⟨t, rfl⟩ := rx
  obtain ⟨t', rfl⟩ := ry
  exact rule i j t t' s _ _ hc ⟨.int (g i j), H, I.tok _, ⟨_, rfl⟩, q⟩
theorem opI0 {f : Value → Value → Sem Value} {g : Int → Int → Int}
    (rule : ∀ (i j : Int) (t u : Tok) (s : Shared) (Q : Value → Shared → Prop) (E : Value → Shared → Prop), Q (.int (g i j) s.toks) { s with toks := s.toks + 1 } → wpAny (model X.prog X.w) X.A (f (.int i t) (.int j u)) Q E s) :
    OpR X f (rI0 fun i j => .int (g i j)) := by
  intro pins s σ H x y v u Q I rx ry h
  obtain ⟨i, j, rfl, rfl, q⟩ := h
  obtain ⟨t, rfl⟩ := rx
  obtain ⟨t', rfl⟩ := ry
  exact rule i j t t' s _ _ ⟨.int (g i j), H, I.tok _, ⟨_, rfl⟩, q⟩
theorem opB0 {f : Value → Value → Sem Value} {g : Int → Int → Bool}
    (rule : ∀ (i j : Int) (t u : Tok) (s : Shared) (Q : Value → Shared → Prop) (E : Value → Shared → Prop), Q (.bool (g i j)) s → wpAny (model X.prog X.w) X.A (f (.int i t) (.int j u)) Q E s) :
    OpR X f (rI0 fun i j => .bl (g i j)) := by
  intro pins s σ H x y v u Q I rx ry h
  obtain ⟨i, j, rfl, rfl, q⟩ := h
  obtain ⟨t, rfl⟩ := rx
  obtain ⟨t', rfl⟩ := ry
  exact rule i j t t' s _ _ ⟨.bl (g i j), H, I, rfl, q⟩
def CDiv (i j : Int) : Prop := 0 < j ∧ j < 1073741824
def CPow (i j : Int) : Prop := 0 ≤ j ∧ j ≤ 1000000 ∧ i.natAbs < 2 ^ 64
def CMul (i j : Int) : Prop := (-(2 ^ 64) < i ∧ i < 2 ^ 64) ∨ (-(2 ^ 64) < j ∧ j < 2 ^ 64)
theorem CMul.ok {i j : Int} (h : CMul i j) : IntMulOk i j := by
  rcases h with ⟨h1, h2⟩ | ⟨h1, h2⟩
  · exact .of_left (intBits_le_64 h1 h2)
  · exact .of_right (intBits_le_64 h1 h2)
theorem op_add : OpR X (binaryOp .Add) (rI0 fun i j => .int (i + j)) := opI0 fun _ _ _ _ _ _ _ q => add_int q
theorem op_sub : OpR X (binaryOp .Sub) (rI0 fun i j => .int (i - j)) := opI0 fun _ _ _ _ _ _ _ q => sub_int q
theorem op_mul : OpR X (binaryOp .Mult) (rI CMul fun i j => .int (i * j)) := opI fun _ _ _ _ _ _ _ hc q => mul_int q hc.ok
theorem op_fdiv : OpR X (binaryOp .FloorDiv) (rI CDiv fun i j => .int (i / j)) := opI fun i j _ _ _ _ _ hc q => by
  have h1 : (0 : Int) < j := hc.1
  have h2 : j < 1073741824 := hc.2
  exact floordiv_int (by omega) (by rw [Int.fdiv_eq_ediv_of_nonneg i (by omega)]; exact q) (.inl (PyProof.noPylong_small (by omega)))
theorem op_mod : OpR X (binaryOp .Mod) (rI (fun _ j => 0 < j) fun i j => .int (i % j)) := opI fun i j _ _ _ _ _ hc q => by
  have h1 : (0 : Int) < j := hc
  exact mod_int' (by omega) (by rw [Int.fmod_eq_emod_of_nonneg i (by omega)]; exact q)
theorem op_pow : OpR X (binaryOp .Pow) (rI CPow fun i j => .int (i ^ j.toNat)) := opI fun _ _ _ _ _ _ _ hc q => pow_int_small hc.1 hc.2.1 hc.2.2 q
theorem unI {f : Value → Sem Value} {g : Int → Int}
    (rule : ∀ (i : Int) (t : Tok) (s : Shared) (Q : Value → Shared → Prop) (E : Value → Shared → Prop), Q (.int (g i) s.toks) { s with toks := s.toks + 1 } → wpAny (model X.prog X.w) X.A (f (.int i t)) Q E s) :
    UnR X f (rU fun i => .int (g i)) := by
  intro pins s σ H x v Q I rx h
  obtain ⟨i, rfl, q⟩ := h
  obtain ⟨t, rfl⟩ := rx
  exact rule i t s _ _ ⟨.int (g i), H, I.tok _, ⟨_, rfl⟩, q⟩
theorem un_neg : UnR X (unaryOp .USub) (rU fun i => .int (-i)) := unI fun _ _ _ _ _ q => neg_int q
end
def scal : V → V → Bool
  | .non, .non => true | .non, .int _ => true | .int _, .non => true | .non, .bl _ => true | .bl _, .non => true | .non, .str _ => true | .str _, .non => true
  | .int _, .int _ => true | .bl _, .bl _ => true | .str _, .str _ => true | .byt _, .byt _ => true
  | .int _, .str _ => true | .str _, .int _ => true | .bl _, .str _ => true | .str _, .bl _ => true
  | _, _ => false
def rEq : R2 := fun x y H Q => scal x y = true ∧ Q (.bl (decide (x = y))) H
def rNe : R2 := fun x y H Q => scal x y = true ∧ Q (.bl (!decide (x = y))) H
theorem dec_int {i j : Int} : decide (V.int i = V.int j) = (i == j) := by
  rw [Bool.eq_iff_iff]
  simp
theorem dec_bl {i j : Bool} : decide (V.bl i = V.bl j) = (i == j) := by
  rw [Bool.eq_iff_iff]
  simp
theorem dec_str {i j : Str} : decide (V.str i = V.str j) = (i == j) := by
  rw [Bool.eq_iff_iff]
  simp
theorem dec_byt {i j : Array UInt8} : decide (V.byt i = V.byt j) = (i.toList == j.toList) := by
  rw [Bool.eq_iff_iff]
  cases i
  cases j
  simp
section
variable {X : Cx} {a b c : Expr} {ta tb tc : TE} {pos : Pos}
theorem fin_bl {pins : List (Addr × Obj)} {σ : St} {H : Hp} {s : Shared} {Q : VK} {k k' : Bool} (I : Inv X pins σ H s) (q : Q (.bl k) H) (e : k = k') : EP X pins σ Q (.bool k') s := by
  subst e
  exact ⟨.bl k, H, I, rfl, q⟩
theorem op_eq : OpR X (compareOp .Eq) rEq := by
  intro pins s σ H x y v u Q I rx ry h
  obtain ⟨hs, q⟩ := h
  cases x with
  | non =>
    cases rx
    cases y with
    | non => cases ry; exact PySem.EqNone.eq_none_none (fin_bl I q (by simp))
    | bl j => cases ry; exact PySem.EqNone.eq_none_bool (fin_bl I q (by simp))
    | int j => obtain ⟨t', rfl⟩ := ry; exact PySem.EqNone.eq_none_int (fin_bl I q (by simp))
    | str j => obtain ⟨t', rfl⟩ := ry; exact PySem.EqNone.eq_none_str (fin_bl I q (by simp))
    | _ => exact absurd (show false = true from hs) Bool.false_ne_true
  | bl i =>
    cases rx
    cases y with
    | non => cases ry; exact PySem.EqNone.eq_bool_none (fin_bl I q (by simp))
    | bl j => cases ry; exact eq_bool (fin_bl I q dec_bl)
    | str j => obtain ⟨t', rfl⟩ := ry; exact PySem.EqMixed.eq_bool_str (fin_bl I q (by simp))
    | _ => exact absurd (show false = true from hs) Bool.false_ne_true
  | int i =>
    obtain ⟨t, rfl⟩ := rx
    cases y with
    | non => cases ry; exact PySem.EqNone.eq_int_none (fin_bl I q (by simp))
    | int j => obtain ⟨t', rfl⟩ := ry; exact eq_int (fin_bl I q dec_int)
    | str j => obtain ⟨t', rfl⟩ := ry; exact PySem.EqMixed.eq_int_str (fin_bl I q (by simp))
    | _ => exact absurd (show false = true from hs) Bool.false_ne_true
  | str i =>
    obtain ⟨t, rfl⟩ := rx
    cases y with
    | non => cases ry; exact PySem.EqNone.eq_str_none (fin_bl I q (by simp))
    | bl j => cases ry; exact PySem.EqMixed.eq_str_bool (fin_bl I q (by simp))
    | int j => obtain ⟨t', rfl⟩ := ry; exact PySem.EqMixed.eq_str_int (fin_bl I q (by simp))
    | str j => obtain ⟨t', rfl⟩ := ry; exact eq_str (fin_bl I q dec_str)
    | _ => exact absurd (show false = true from hs) Bool.false_ne_true
  | byt i =>
    obtain ⟨t, rfl⟩ := rx
    cases y with
    | byt j => obtain ⟨t', rfl⟩ := ry; exact PySem.W.eq_bytes (fin_bl I q dec_byt)
    | _ => exact absurd (show false = true from hs) Bool.false_ne_true
  | _ => cases y <;> exact absurd (show false = true from hs) Bool.false_ne_true
theorem op_ne : OpR X (compareOp .NotEq) rNe := by
  intro pins s σ H x y v u Q I rx ry h
  obtain ⟨hs, q⟩ := h
  cases x with
  | non =>
    cases rx
    cases y with
    | non => cases ry; exact PySem.EqNone.ne_none_none (fin_bl I q (by simp))
    | bl j => cases ry; exact PySem.EqNone.ne_none_bool (fin_bl I q (by simp))
    | int j => obtain ⟨t', rfl⟩ := ry; exact PySem.EqNone.ne_none_int (fin_bl I q (by simp))
    | str j => obtain ⟨t', rfl⟩ := ry; exact PySem.EqNone.ne_none_str (fin_bl I q (by simp))
    | _ => exact absurd (show false = true from hs) Bool.false_ne_true
  | bl i =>
    cases rx
    cases y with
    | non => cases ry; exact PySem.EqNone.ne_bool_none (fin_bl I q (by simp))
    | bl j => cases ry; exact ne_bool (fin_bl I q (congrArg not dec_bl))
    | str j => obtain ⟨t', rfl⟩ := ry; exact PySem.EqMixed.ne_bool_str (fin_bl I q (by simp))
    | _ => exact absurd (show false = true from hs) Bool.false_ne_true
  | int i =>
    obtain ⟨t, rfl⟩ := rx
    cases y with
    | non => cases ry; exact PySem.EqNone.ne_int_none (fin_bl I q (by simp))
    | int j => obtain ⟨t', rfl⟩ := ry; exact ne_int (fin_bl I q (congrArg not dec_int))
    | str j => obtain ⟨t', rfl⟩ := ry; exact PySem.EqMixed.ne_int_str (fin_bl I q (by simp))
    | _ => exact absurd (show false = true from hs) Bool.false_ne_true
  | str i =>
    obtain ⟨t, rfl⟩ := rx
    cases y with
    | non => cases ry; exact PySem.EqNone.ne_str_none (fin_bl I q (by simp))
    | bl j => cases ry; exact PySem.EqMixed.ne_str_bool (fin_bl I q (by simp))
    | int j => obtain ⟨t', rfl⟩ := ry; exact PySem.EqMixed.ne_str_int (fin_bl I q (by simp))
    | str j => obtain ⟨t', rfl⟩ := ry; exact ne_str (fin_bl I q (congrArg not dec_str))
    | _ => exact absurd (show false = true from hs) Bool.false_ne_true
  | byt i =>
    obtain ⟨t, rfl⟩ := rx
    cases y with
    | byt j => obtain ⟨t', rfl⟩ := ry; exact PySem.W.ne_bytes (fin_bl I q (congrArg not dec_byt))
    | _ => exact absurd (show false = true from hs) Bool.false_ne_true
  | _ => cases y <;> exact absurd (show false = true from hs) Bool.false_ne_true
theorem op_lt : OpR X (compareOp .Lt) (rI0 fun i j => .bl (decide (i < j))) := opB0 fun _ _ _ _ _ _ _ q => lt_int q
theorem op_gt : OpR X (compareOp .Gt) (rI0 fun i j => .bl (decide (j < i))) := opB0 fun _ _ _ _ _ _ _ q => gt_int q
theorem op_ge : OpR X (compareOp .GtE) (rI0 fun i j => .bl (decide (j ≤ i))) := opB0 fun _ _ _ _ _ _ _ q => ge_int q
theorem op_lt_str : OpR X (compareOp .Lt) (fun x y H Q => ∃ i j, x = .str i ∧ y = .str j ∧ Q (.bl (decide (i.cps.toList < j.cps.toList))) H) := by
  intro pins s σ H x y v u Q I rx ry h
  obtain ⟨i, j, rfl, rfl, q⟩ := h
  obtain ⟨t, rfl⟩ := rx
  obtain ⟨t', rfl⟩ := ry
  exact lt_str (fin_bl I q rfl)
theorem op_in_str : OpR X (compareOp .In) (fun x y H Q => ∃ i j, x = .str i ∧ y = .str j ∧ Q (.bl (!(Builtin.Str.occurrences j i 0 j.length 1).isEmpty)) H) := by
  intro pins s σ H x y v u Q I rx ry h
  obtain ⟨i, j, rfl, rfl, q⟩ := h
  obtain ⟨t, rfl⟩ := rx
  obtain ⟨t', rfl⟩ := ry
  exact in_str (fin_bl I q rfl)
theorem nomark (b : Expr) {op : CmpOp} (h : op ≠ .In := by decide) (h2 : op ≠ .NotIn := by decide) : behindInMarks op b = false := by
  have e1 : (op == CmpOp.In) = false := by cases op <;> first | rfl | exact absurd rfl h
  have e2 : (op == CmpOp.NotIn) = false := by cases op <;> first | rfl | exact absurd rfl h2
  cases b <;> simp [behindInMarks, e1, e2]
theorem pe_cmpR {op : CmpOp} {r : R2} (ho : OpR X (compareOp op) r) (ha : PE X a ta) (hb : PE X b tb) (hm : behindInMarks op b = false) : PE X (.Compare a [op] [b] pos) (tOp r ta tb) := by
  intro pins s σ H Q I h
  exact wpAny_Compare1 (binT ha hb I h fun v u s2 x y H2 I2 rx ry q => ho pins s2 σ H2 x y v u Q I2 rx ry q) hm
def tTest (t : TE) : TT := fun σ H Q => t σ H fun x H' => ∃ k, x = .bl k ∧ Q k H'
theorem pt_cmpR {op : CmpOp} {r : R2} (ho : OpR X (compareOp op) r) (ha : PE X a ta) (hb : PE X b tb) (hm : behindInMarks op b = false) : PT X (.Compare a [op] [b] pos) (tTest (tOp r ta tb)) := by
  intro pins s σ H Q I h
  refine wpAny_isTrue_Compare1 (thn (ha pins s σ H _ I h) fun v s1 ⟨x, H1, I1, r1, q1⟩ => thn (hb pins s1 σ H1 _ I1 q1) fun u s2 ⟨y, H2, I2, r2, q2⟩ =>
    thn (ho pins s2 σ H2 x y v u _ I2 r1 r2 q2) fun c s3 ⟨z, H3, I3, r3, k, e, q3⟩ => ?_) hm
  subst e
  cases r3
  exact wpAny_truthy_bool ⟨H3, I3, q3⟩
theorem line63 : (sizeLine : Nat) < 2 ^ 63 := by rw [sizeLine_eq]; decide
theorem op_add_str : OpR X (binaryOp .Add) (fun x y H Q => ∃ i j, x = .str i ∧ y = .str j ∧ i.length + j.length ≤ sizeLine ∧ Q (.str (i ++ j)) H) := by
  intro pins s σ H x y v u Q I rx ry h
  obtain ⟨i, j, rfl, rfl, hz, q⟩ := h
  obtain ⟨t, rfl⟩ := rx
  obtain ⟨t', rfl⟩ := ry
  exact add_str (fun t' tk => ⟨.str (i ++ j), H, I.tok _, ⟨_, rfl⟩, q⟩) hz
theorem vals1 {x : V} {us : List Value} (r : Vals [x] us) : ∃ u, us = [u] ∧ RelV x u := by
  cases r with
  | cons r1 r2 => cases r2; exact ⟨_, rfl, r1⟩
theorem vals2 {x y : V} {us : List Value} (r : Vals [x, y] us) : ∃ u w', us = [u, w'] ∧ RelV x u ∧ RelV y w' := by
  cases r with
  | cons r1 r2 =>
    cases r2 with
    | cons r3 r4 => cases r4; exact ⟨_, _, rfl, r1, r3⟩
theorem call_int1 : CallR X (.type "int") (fun xs H Q => (∃ i, xs = [.int i] ∧ Q (.int i) H) ∨ ∃ k, xs = [.bl k] ∧ Q (.int (if k then 1 else 0)) H) := by
  intro pins s σ H xs us Q I r h
  rcases h with ⟨i, rfl, q⟩ | ⟨k, rfl, q⟩
  · obtain ⟨u, rfl, t, rfl⟩ := vals1 r
    exact call_int_int ⟨.int i, H, I, ⟨_, rfl⟩, q⟩
  · obtain ⟨u, rfl, r1⟩ := vals1 r
    cases r1
    exact call_int_bool ⟨.int (if k then 1 else 0), H, I.tok _, ⟨_, rfl⟩, q⟩
end
end L2
namespace L2
open PySem PySem.Spec PyProof.Rows
structure ObjM (h : Heap) (x dx C : Addr) (mA : Str → Option Value) : Prop where
  obj : h.get? x = some (PySem.W.instObj C dx)
  ns : h.Ns1 dx mA
  ne : dx ≠ x
theorem lookIn_ns {h : Heap} {dx : Addr} {mA : Str → Option Value} (n : h.Ns1 dx mA) : ∃ od, h.get? dx = some od ∧ ∀ name, PySem.W.lookIn name od = some (mA name) := by
  obtain ⟨o, es, ep, ho, hd, hk, _, hm⟩ := n
  refine ⟨o, ho, fun name => ?_⟩
  have e := hm name
  unfold nsFind findBy at e
  rw [← Array.find?_toList] at e
  unfold PySem.W.lookIn
  rw [hd]
  dsimp only
  split
  · rename_i y q
    rw [q] at e
    exact congrArg some e
  · rename_i q
    rw [q] at e
    have a : es.toList.any (·.refKey) = false := by
      rw [List.any_eq_false]
      intro y hy
      obtain ⟨z, t, hkey⟩ := hk y (Array.mem_toList_iff.mp hy)
      simp [DictEntry.refKey, hkey]
    have a' : ¬ es.toList.any (·.refKey) = true := by rw [a]; exact Bool.false_ne_true
    rw [if_neg a']
    exact congrArg some e
theorem ObjM.look {h : Heap} {x dx C : Addr} {mA : Str → Option Value} (I : ObjM h x dx C mA) : ∃ od, PySem.W.InstAt h x (PySem.W.instObj C dx) C (some od) ∧ ∀ name, PySem.W.lookIn name od = some (mA name) :=
  let ⟨od, ho, hl⟩ := lookIn_ns I.ns
  ⟨od, ⟨I.obj, rfl, rfl, ho⟩, hl⟩
section
variable {prog : Program} {w : World} {A : Around} {E : Value → Shared → Prop} {s : Shared} {K : PySem.W.Frag} {x dx C f : Addr} {mA : Str → Option Value} {name : Str} {v : Value}
end
section
variable {P : Program} {w : World} {H H' : Hp} {h h' : Heap} {a C dx : Addr} {fs fs' : List (Str × V)}
theorem ins_get (hok : HOk P w H h) (e : H a = some (.ins C dx fs)) : ∃ mA, ObjM h a dx C mA ∧ (∀ f, RelO (fs.lookup f) (mA f)) ∧ PySem.Within mA (fs.map (·.1)) ∧ fs.length ≤ 1000 ∧ H dx = some (.own a) := by
  obtain ⟨d, z, ne, ob, mA, n, r, q⟩ := (show ObjOk P w H h a (.ins C dx fs) from hok a _ e)
  exact ⟨mA, ⟨ob, n, ne⟩, r, q, z, d⟩
end
structure Cls (K : PySem.W.Frag) (C : Addr) : Prop where
  pg : PySem.W.plainGet K C Str.empty = true
  hd : PySem.W.hasDictIn K C = true
  po : PySem.W.plainOver K C = true
  sa : PySem.W.findIn K (.ref C) "__setattr__" = some (some (.builtin "object.__setattr__"))
theorem Cls.get {K : PySem.W.Frag} {C : Addr} (c : Cls K C) (f : Str) : PySem.W.plainGet K C f = true := c.pg
section
variable {X : Cx} {pins : List (Addr × Obj)} {σ : St} {H : Hp} {s : Shared} {a C dx : Addr} {fs : List (Str × V)} {f : Str} {v : V} {A : Around} {E : Value → Shared → Prop}
end
section
variable {X : Cx} {o e value : Expr} {f : Str} {pos pos' tpos : Pos} {ta tv : TE}
end
section
variable {X : Cx} {pins : List (Addr × Obj)} {σ : St} {H : Hp} {s : Shared} {A : Around} {E : Value → Shared → Prop} {Q : Value → Shared → Prop} {c : Value} {b : Bool}
inductive TyOf (K : PySem.W.Frag) (H : Hp) : V → Value → Prop where
  | non : TyOf K H .non (.type "NoneType")
  | bl (x : Bool) : TyOf K H (.bl x) (.type "bool")
  | int (i : Int) : TyOf K H (.int i) (.type "int")
  | str (x : Str) : TyOf K H (.str x) (.type "str")
  | flt (x : UInt64) : TyOf K H (.flt x) (.type "float")
  | lst {a : Addr} {xs : List V} (e : H a = some (.lst xs)) : TyOf K H (.ref a) (.type "list")
  | frz {a : Addr} {o : Obj} {xs : List V} (e : H a = some (.frz o (.lst xs))) : TyOf K H (.ref a) (.type "list")
  | tup {a : Addr} {xs : List V} (e : H a = some (.tup xs)) : TyOf K H (.ref a) (.type "tuple")
  | dK {a : Addr} {kvs : List (Key × V)} (e : H a = some (.dK kvs)) : TyOf K H (.ref a) (.type "dict")
  | dT {a : Addr} {kvs : List (List Key × V)} (e : H a = some (.dT kvs)) : TyOf K H (.ref a) (.type "dict")
  | ins {a C dx : Addr} {fs : List (Str × V)} (e : H a = some (.ins C dx fs)) (cl : Cls K C) (ha : PySem.W.findIn K (.ref C) "__class__" = some (some (.builtin "object.__class__")))
      (hn : PySem.W.specialIn K (.builtin "object.__class__") "__get__" = some (some (.builtin "getset_descriptor.__get__"))) (htk : PySem.W.takesIn K (.builtin "object.__class__") = some true)
      (hm : PySem.W.mroIn K C (.type "object") = some true) : TyOf K H (.ref a) (.ref C)
theorem isinst_ok {x : V} {u t : Value} (I : Inv X pins σ H s) (rx : RelV x u) (ty : TyOf X.K H x t) (e : PySem.W.kitOne X.K t c = some b) (h : ∀ tk, Q (.bool b) { s with toks := tk }) :
    wpAny (model X.prog X.w) A (call (.builtin "isinstance") [u, c]) Q E s := by
  cases ty with
  | non => cases (show u = Value.none from rx); exact PySem.W.kia_one PySem.W.kitx_none I.kIn True.intro e (fun z => nomatch z) h
  | bl y => cases (show u = Value.bool y from rx); exact PySem.W.kia_one PySem.W.kitx_bool I.kIn True.intro e (fun z => nomatch z) h
  | int i => obtain ⟨t, q⟩ := (show ∃ t, u = Value.int i t from rx); cases q; exact PySem.W.kia_one PySem.W.kitx_int I.kIn True.intro e (fun z => nomatch z) h
  | str y => obtain ⟨t, q⟩ := (show ∃ t, u = Value.str y t from rx); cases q; exact PySem.W.kia_one PySem.W.kitx_str I.kIn True.intro e (fun z => nomatch z) h
  | flt y => obtain ⟨t, q⟩ := (show ∃ t, u = Value.float y t from rx); cases q; exact PySem.W.kia_one PySem.W.kitx_float I.kIn True.intro e (fun z => nomatch z) h
  | @lst a xs ea =>
    cases (show u = Value.ref a from rx)
    obtain ⟨_, _, n, _, h1⟩ := (show ObjOk X.prog X.w H s.heap a (.lst xs) from I.hok a _ ea)
    exact PySem.W.kia_one PySem.W.kitx_list I.kIn ⟨_, h1, rfl⟩ e (fun z => nomatch z) h
  | @frz a ob xs ea =>
    cases (show u = Value.ref a from rx)
    obtain ⟨_, _, _, n, _, h1⟩ := (show ObjOk X.prog X.w H s.heap a (.frz ob (.lst xs)) from I.hok a _ ea)
    exact PySem.W.kia_one PySem.W.kitx_list I.kIn ⟨_, h1, rfl⟩ e (fun z => nomatch z) h
  | @tup a xs ea =>
    cases (show u = Value.ref a from rx)
    obtain ⟨_, _, _, p⟩ := (show ObjOk X.prog X.w H s.heap a (.tup xs) from I.hok a _ ea)
    obtain ⟨o, h1, h2, _⟩ := p
    exact PySem.W.kia_one PySem.W.kitx_tuple I.kIn ⟨o, h1, h2⟩ e (fun z => nomatch z) h
  | @dK a kvs ea =>
    cases (show u = Value.ref a from rx)
    obtain ⟨_, _, vs, _, p⟩ := (show ObjOk X.prog X.w H s.heap a (.dK kvs) from I.hok a _ ea)
    obtain ⟨o, es, ep, h1, h2, _⟩ := p
    exact PySem.W.kia_one PySem.W.kitx_dict I.kIn ⟨o, h1, h2.1⟩ e (fun z => nomatch z) h
  | @dT a kvs ea =>
    cases (show u = Value.ref a from rx)
    obtain ⟨_, _, xs, _, o, es, ep, h1, h2, _⟩ := (show ObjOk X.prog X.w H s.heap a (.dT kvs) from I.hok a _ ea)
    exact PySem.W.kia_one PySem.W.kitx_dict I.kIn ⟨o, h1, h2.1⟩ e (fun z => nomatch z) h
  | @ins a C dx fs ea cl ha hn htk hm =>
    cases (show u = Value.ref a from rx)
    obtain ⟨mA, O, _⟩ := ins_get I.hok ea
    obtain ⟨od, J, _⟩ := O.look
    exact PySem.W.kia_one (PySem.W.kitx_own (cl.get _) cl.hd ha hn htk hm) I.kIn J e (fun z => nomatch z) h
end
end L2
namespace L2
open PySem PySem.Spec PyProof.Rows
structure Room (k : Nat) (A : Around) : Prop where
  hd : A.handled = none
  dp : A.depth + 3 * k + 5 < recursionLimit
  un : A.units + 16 * k + 200 < cLine
  gd : A.guards = some []
theorem Room.mono {j k : Nat} {A : Around} (r : Room k A) (h : j ≤ k) : Room j A := ⟨r.hd, by have := r.dp; omega, by have := r.un; omega, r.gd⟩
theorem Room.deeper {k : Nat} {A : Around} (r : Room (k + 1) A) (env : Env) : Room k (A.deeper env) :=
  ⟨r.hd, by have := r.dp; show A.depth + 1 + 3 * k + 5 < _; omega, by have := r.un; show A.units + 3 + 16 * k + 200 < _; omega, r.gd⟩
theorem Room.depth {k : Nat} {A : Around} (r : Room k A) : A.depth < recursionLimit := by have := r.dp; omega
theorem Room.units {k : Nat} {A : Around} (r : Room k A) : A.units + 64 < cLine := by have := r.un; omega
def tNil : TA := fun _ H Q => Q [] H
def tCons (ta : TE) (tr : TA) : TA := fun σ H Q => ta σ H fun x H1 => tr σ H1 fun xs H2 => Q (x :: xs) H2
section
variable {X : Cx} {e : Expr} {es : List Expr} {te : TE} {t : TA} {pos : Pos}
theorem pa_nil : PA X [] tNil := fun _ _ _ _ H Q I h => Calls.spliced_nil ⟨[], H, I, .nil, h⟩
theorem pa_cons (ha : PE X e te) (hr : PA X es t) (hs : starEach (e :: es) X.env = (false, eval e X.env) :: starEach es X.env := by rfl) : PA X (e :: es) (tCons te t) := by
  intro pos pins s σ H Q I h
  rw [hs]
  show wpAny _ _ (spliced ((false, eval e X.env) :: backTo pos (starEach es X.env))) _ _ s
  refine Calls.spliced_cons (thn (ha pins s σ H _ I h) fun u s1 ⟨x, H1, I1, r1, q1⟩ => ?_)
  exact thn (hr pos pins s1 σ H1 _ I1 q1) fun us s2 ⟨xs, H2, I2, r2, q2⟩ => ⟨x :: xs, H2, I2, .cons r1 r2, q2⟩
def tTup (t : TA) : TE := fun σ H Q => t σ H fun xs H1 => xs.length ≤ sizeLine ∧ ∀ p, H1 p = none → Q (.ref p) (upd H1 p (.tup xs))
def tLst (t : TA) : TE := fun σ H Q => t σ H fun xs H1 => xs.length ≤ sizeLine ∧ ∀ p, H1 p = none → Q (.ref p) (upd H1 p (.lst xs))
theorem pe_tup {x1} (h : PA X es t) : PE X (.Tuple es x1 pos) (tTup t) := by
  intro pins s σ H Q I hq
  refine wpAny_Tuple_spliced (thn (h pos pins s σ H _ I hq) fun us s1 ⟨xs, H1, I1, r, z, q⟩ => ⟨by rw [← r.length]; exact z, ?_⟩)
  have hf : H1 s1.heap.objs.size = none := I1.hok.fresh (Nat.le_refl _)
  refine ⟨.ref s1.heap.objs.size, upd H1 s1.heap.objs.size (.tup xs), I1.laid (t' := s1.toks) (fun b u e => Heap.get?_push_of_some _ e) (Nat.le_refl _) ?_, rfl, q _ hf⟩
  exact ⟨z, us, r, ⟨_, Heap.get?_push_size _ rfl, rfl, _, rfl⟩⟩
theorem pe_lst (h : PA X es t) : PE X (.List es pos) (tLst t) := by
  intro pins s σ H Q I hq
  refine wpAny_List_spliced (thn (h pos pins s σ H _ I hq) fun us s1 ⟨xs, H1, I1, r, z, q⟩ => ⟨by rw [← r.length]; exact z, ?_⟩)
  have hf : H1 s1.heap.objs.size = none := I1.hok.fresh (Nat.le_refl _)
  refine ⟨.ref s1.heap.objs.size, upd H1 s1.heap.objs.size (.lst xs), I1.laid (t' := s1.toks) (fun b u e => Heap.get?_push_of_some _ e) (Nat.le_refl _) ?_, rfl, q _ hf⟩
  exact ⟨z, us, 0, r, Heap.get?_push_size _ rfl⟩
end
abbrev Sp := List V → Hp → VK → XK → Prop
abbrev CXT := List Env → Hp → Shared → XK → Value → Shared → Prop
structure Env0 (P : Program) (w : World) (K : PySem.W.Frag) (mg : Str → Option Value) (base : Heap) (A : Around) (outer : List Env) (s : Shared) (H : Hp) : Prop where
  frames : A.frames = some outer
  mod : Mod K mg base
  bs : ∀ b o, base.get? b = some o → s.heap.get? b = some o ∧ H b = none
  bsz : base.objs.size ≤ s.heap.objs.size
  funs : s.heap.FunFrames base outer
  frf : ∀ b ∈ frs outer, H b = none
  hok : HOk P w H s.heap
  bare : AllBare s.gens
def CE (outer : List Env) (P : Program) (w : World) (H : Hp) (s : Shared) (Q : VK) (u : Value) (s' : Shared) : Prop :=
  ∃ v H', s'.os = s.os ∧ AllBare s'.gens ∧ Un (frs outer) [] H H' s.heap s'.heap ∧ HOk P w H' s'.heap ∧ RelV v u ∧ Q v H'
def CR (CX : CXT) (outer : List Env) (P : Program) (w : World) (H : Hp) (s : Shared) (Q : VK) (E : XK) (r : Result) (s' : Shared) : Prop :=
  match r with
  | .ok (.ret u) => CE outer P w H s Q u s'
  | .ok _ => False
  | .error e => CX outer H s E e s'
structure FnOk (P : Program) (w : World) (K : PySem.W.Frag) (mg : Str → Option Value) (base : Heap) (CX : CXT) (k : Nat) (f : Addr) (fd : FuncData) (ps : List Str) (sp : Sp) : Prop where
  len : ∀ vs H Q E, sp vs H Q E → vs.length = ps.length
  run : ∀ (A : Around) (outer : List Env) (s : Shared) (H : Hp) (args : Args) (us : List Value) (vs : List V) (Q : VK) (E : XK), Room k A → Env0 P w K mg base A outer s H → BindsTo s fd args (ps.zip us) → Vals vs us → sp vs H Q E →
    codeAny (model P w) A (.call (.ref f) args) (CR CX outer P w H s Q E) s
section
variable {X : Cx} {pins : List (Addr × Obj)} {σ : St} {H : Hp} {s s' : Shared}
theorem Inv.env0 (I : Inv X pins σ H s) : Env0 X.prog X.w X.K X.mg X.base X.A X.stack s H :=
  ⟨I.ok.frames, I.ok.mod, I.bs, Nat.le_trans I.ok.bsz I.sz, I.stack, I.stkFree, I.hok, I.bare⟩
theorem Inv.after {Q : VK} {u : Value} (I : Inv X pins σ H s) (h : CE X.stack X.prog X.w H s Q u s') : EP X pins σ Q u s' := by
  obtain ⟨v, H', os, bare, un, hok, r, q⟩ := h
  obtain ⟨hh, g, d, t, os'⟩ := s'
  obtain rfl : os' = s.os := os
  exact ⟨v, H', I.call (h' := hh) (g' := g) (d' := d) (t' := t) (ch := []) un hok bare (fun b z => absurd z (by simp)), r, q⟩
end
def tCall (sp : Sp) (dvs : List V) (E : XK) (t : TA) : TE := fun σ H Q => t σ H fun vs H1 => sp (vs ++ dvs) H1 Q E
def Binds (K : PySem.W.Frag) (fd : FuncData) (ps : List Str) (ds : List Value) : Prop :=
  ∀ (s : Shared) (us : List Value), K.In s.heap → (us ++ ds).length = ps.length → BindsTo s fd ⟨us, []⟩ (ps.zip (us ++ ds))
theorem Binds.all {K : PySem.W.Frag} {fd : FuncData} {ps : List Str} (h : ∀ us : List Value, us.length = ps.length → bindArgs fd ⟨us, []⟩ = pure (ps.zip us)) : Binds K fd ps [] := fun s us _ hl => by
  rw [List.append_nil] at hl ⊢
  exact .of_eq (h us hl)
def Passes (CX : CXT) (X : Cx) (E : XK) : Prop := ∀ (pins : List (Addr × Obj)) (σ : St) (H : Hp) (s : Shared) (e : Value) (s' : Shared), Inv X pins σ H s → CX X.stack H s E e s' → X.xe e s'
section
variable {X : Cx} {CX : CXT} {k : Nat} {f C : Addr} {fd : FuncData} {ps : List Str} {sp : Sp} {dvs : List V} {ds : List Value} {E : XK} {x m : Str} {p pos apos : Pos} {e o : Expr} {es : List Expr} {ta : TE} {t : TA}
theorem run_fn {pins : List (Addr × Obj)} {σ : St} {H : Hp} {s : Shared} {Q : VK} {us : List Value} {vs : List V} (F : FnOk X.prog X.w X.K X.mg X.base CX k f fd ps sp) (hr : Room k X.A) (hb : Binds X.K fd ps ds) (hd : Vals dvs ds) (hx : Passes CX X E)
    (I : Inv X pins σ H s) (r : Vals vs us) (h : sp (vs ++ dvs) H Q E) : wpAny (model X.prog X.w) X.A (call (.ref f) us) (EP X pins σ Q) X.xe s := by
  have r2 : Vals (vs ++ dvs) (us ++ ds) := r.append hd
  have hl : (us ++ ds).length = ps.length := by rw [← r2.length]; exact F.len _ _ _ _ h
  refine wpAny_call (codeAny_mono (F.run X.A X.stack s H ⟨us, []⟩ (us ++ ds) (vs ++ dvs) Q E hr I.env0 (hb s us I.kIn hl) r2 h) fun r s' hq => ?_)
  cases r with
  | error e => exact hx pins σ H s e s' I hq
  | ok fl =>
    cases fl with
    | ret u => exact I.after hq
    | next => exact False.elim hq
    | brk => exact False.elim hq
    | cont => exact False.elim hq
theorem pe_call (F : FnOk X.prog X.w X.K X.mg X.base CX k f fd ps sp) (hr : Room k X.A) (hg : Gl X x) (hm : X.mg x = some (.ref f)) (hk : PySem.W.keepIn X.K (.ref f) = true) (hb : Binds X.K fd ps ds) (hd : Vals dvs ds) (hx : Passes CX X E)
    (ha : PA X (e :: es) t) (hdb : (x == ("__debug__" : Str)) = false := by decide) (he : starEach (e :: es) X.env = (false, eval e X.env) :: starEach es X.env := by rfl) (hpl : (backTo pos (starEach es X.env)).any (·.1) = false := by rfl) :
    PE X (.Call (.Name x p) (e :: es) [] pos) (tCall sp dvs E t) := by
  intro pins s σ H Q I h
  refine wpAny_Call_Name_kw (ld_glob I hg hm ?_ hdb)
  refine PySem.W.callWith_K (h₀ := X.base) I.ok.mod.kin hk (thn (ha pos pins s σ H _ I h) fun us s1 ⟨vs, H1, I1, r, q⟩ => ⟨I1.kIn, ?_⟩) he hpl
  exact run_fn F hr hb hd hx I1 r q
end
section
variable {X : Cx} {CX : CXT} {k : Nat} {f C : Addr} {fd : FuncData} {ps ks : List Str} {sp : Sp} {E : XK} {x m : Str} {p pos apos kpos : Pos} {e o : Expr} {es : List Expr} {kws : List Keyword} {te ta : TE} {t tk : TA} {nm : Option Str}
variable {g : List Value → List Value → List Value} {gV : List V → List V → List V}
end
structure FnScope (N P : List Str) (sc : Scope) : Prop where
  kind : sc.kind = .function
  co : sc.isCoroutine = false
  gen : sc.isGenerator = false
  nd : N.Nodup
  pre : N.take P.length = P
  par : ∀ x ∈ P, sc.names.lookup x = some .local ∨ sc.names.lookup x = some .cell
  nofree : ∀ y ∈ sc.names, y.2 ≠ .free
theorem bindL_out {kindOf : Str → Option NameKind} {x : Str} : ∀ {binds : List (Str × Value)} {m : Str → Option Value}, (∀ v, (x, v) ∉ binds) → bindL kindOf binds m x = m x
  | [], _, _ => rfl
  | (n, v) :: r, m, h => by
    unfold bindL
    rw [bindL_out fun w hw => h w (List.mem_cons_of_mem _ hw)]
    split
    · have : x ≠ n := by rintro rfl; exact h v List.mem_cons_self
      simp [this]
    · rfl
theorem bindC_out {kindOf : Str → Option NameKind} {x : Str} : ∀ {binds : List (Str × Value)} {m : Str → Option Value}, (∀ v, (x, v) ∉ binds) → bindC kindOf binds m x = m x
  | [], _, _ => rfl
  | (n, v) :: r, m, h => by
    unfold bindC
    rw [bindC_out fun w hw => h w (List.mem_cons_of_mem _ hw)]
    split
    · rfl
    · have : x ≠ n := by rintro rfl; exact h v List.mem_cons_self
      simp [this]
theorem bindL_get {kindOf : Str → Option NameKind} {x : Str} {v : Value} : ∀ {P : List Str} {vs : List Value} {i : Nat} {m : Str → Option Value}, P.Nodup → P[i]? = some x → vs[i]? = some v → kindOf x = some .local →
    bindL kindOf (P.zip vs) m x = some v
  | [], _, _, _, _, h, _, _ => by simp at h
  | _ :: _, [], _, _, _, _, h, _ => by simp at h
  | p :: P, w :: vs, 0, m, nd, h1, h2, hk => by
    simp at h1 h2; subst h1; subst h2
    show bindL kindOf ((p, w) :: P.zip vs) m p = _
    unfold bindL
    rw [bindL_out fun v hv => (List.nodup_cons.mp nd).1 (List.of_mem_zip hv).1, if_pos hk]
    simp
  | p :: P, w :: vs, i + 1, m, nd, h1, h2, hk => by
    show bindL kindOf ((p, w) :: P.zip vs) m x = _
    unfold bindL
    exact bindL_get (i := i) (List.nodup_cons.mp nd).2 (by simpa using h1) (by simpa using h2) hk
theorem bindC_get {kindOf : Str → Option NameKind} {x : Str} {v : Value} : ∀ {P : List Str} {vs : List Value} {i : Nat} {m : Str → Option Value}, P.Nodup → P[i]? = some x → vs[i]? = some v → kindOf x ≠ some .local →
    bindC kindOf (P.zip vs) m x = some v
  | [], _, _, _, _, h, _, _ => by simp at h
  | _ :: _, [], _, _, _, _, h, _ => by simp at h
  | p :: P, w :: vs, 0, m, nd, h1, h2, hk => by
    simp at h1 h2; subst h1; subst h2
    show bindC kindOf ((p, w) :: P.zip vs) m p = _
    unfold bindC
    rw [bindC_out fun v hv => (List.nodup_cons.mp nd).1 (List.of_mem_zip hv).1, if_neg hk]
    simp
  | p :: P, w :: vs, i + 1, m, nd, h1, h2, hk => by
    show bindC kindOf ((p, w) :: P.zip vs) m x = _
    unfold bindC
    exact bindC_get (i := i) (List.nodup_cons.mp nd).2 (by simpa using h1) (by simpa using h2) hk
def start (N : List Str) (vs : List V) : St := vs.map some ++ List.replicate (N.length - vs.length) none
def cxOf (CX : CXT) (P : Program) (w : World) (K : PySem.W.Frag) (mg : Str → Option Value) (base : Heap) (N : List Str) (qual : Str) (scope : Scope) (f : Addr) (cd : Value) (A : Around) (outer : List Env) (s : Shared) (H : Hp) (E : XK) : Cx where
  prog := P
  w := w
  K := K
  mg := mg
  base := base
  A := A.deeper (envOfC qual scope s.heap.objs.size f cd)
  N := N
  s₀ := s
  H₀ := H
  env := envOfC qual scope s.heap.objs.size f cd
  outer := outer
  stack := envOfC qual scope s.heap.objs.size f cd :: outer
  ex := []
  calm := true
  fn := fun _ => true
  pn := []
  xe := fun e s' => wpAny (model P w) (A.deeper (envOfC qual scope s.heap.objs.size f cd)) (leaving (envOfC qual scope s.heap.objs.size f cd) e) (fun _ s'' => CX outer H s E e s'') (fun e' s'' => CX outer H s E e' s'') s'
theorem cell_has {sc : Scope} {n : Nat} {x : Str} (h : sc.names.lookup x = some .cell) : ∃ c, (cellsFrom n sc.names []).lookup x = some c := by
  have q := PySem.W.cellsFrom_some sc.names n [] (.inl h)
  exact Option.isSome_iff_exists.mp q
theorem inv_start {CX : CXT} {P : Program} {w : World} {K : PySem.W.Frag} {mg : Str → Option Value} {base : Heap} {N ps : List Str} {qual : Str} {scope : Scope} {f : Addr} {cd : Value} {A : Around} {outer : List Env} {s s1 : Shared} {H : Hp} {E : XK} {us : List Value} {vs : List V}
    (S : FnScope N ps scope) (hd : A.handled = none) (e0 : Env0 P w K mg base A outer s H) (hl : vs.length = ps.length) (r : Vals vs us)
    (x : InCallC s s.heap.objs.size (bindL (envOfC qual scope s.heap.objs.size f cd).kindOf (ps.zip us) fun _ => none) (cellsFrom (s.heap.objs.size + 1) scope.names []) (bindC (envOfC qual scope s.heap.objs.size f cd).kindOf (ps.zip us) fun _ => none) s1) :
    Inv (cxOf CX P w K mg base N qual scope f cd A outer s H E) [] (start N vs) H s1 := by
  have hpl : ps.length ≤ N.length := by have := congrArg List.length S.pre; rw [List.length_take] at this; omega
  obtain ⟨h1, tk, rfl, hk⟩ := x.done
  have noA : ∀ b : Addr, b ∉ (cxOf CX P w K mg base N qual scope f cd A outer s H E).ex := fun b z => absurd (show b ∈ ([] : List Addr) from z) (by simp)
  refine ⟨⟨e0.mod, S.kind, rfl, rfl, Nat.le_refl _, fun y z c h1 h2 => ?_, fun y hy => ?_, fun y c _ h => ?_, fun _ => hd, Around.frames_deeper e0.frames, .inr ⟨rfl, rfl⟩, fun b z => absurd z (noA b), e0.bs, e0.bsz, fun b _ _ => noA b, fun b z => absurd z (noA b), e0.funs, e0.frf⟩,
    rfl, e0.bare, Un.kept hk, ⟨_, x.toInCall.ns, fun i y v h1 h2 h3 => ?_⟩, fun y c h => ⟨_, x.cell y c h⟩, e0.hok.fresh (Nat.le_refl _), fun y c h => ?_, fun p hp => absurd (show p ∈ ([] : List (Addr × Obj)) from hp) (by simp), e0.hok.kept hk, ?_⟩
  · exact name_of_addr x.apart (PySem.mem_of_lookup h1) (PySem.mem_of_lookup h2)
  · have hy : scope.names.lookup y = some .cell ∨ scope.names.lookup y = some .free := hy
    rcases hy with hy | hy
    · exact cell_has hy
    · exact absurd rfl (S.nofree _ (PySem.mem_of_lookup hy))
  · exact Nat.le_of_lt (x.above y c (PySem.mem_of_lookup h))
  · have hi : i < vs.length := by
      unfold start at h2
      by_cases hi : i < vs.length
      · exact hi
      · rw [List.getElem?_append_right (by simpa using hi)] at h2
        rw [List.getElem?_replicate] at h2
        split at h2 <;> cases h2
    have ha : vs[i]? = some v := by
      unfold start at h2
      rw [List.getElem?_append_left (by simpa using hi), List.getElem?_map] at h2
      cases e : vs[i]? with
      | none => rw [e] at h2; cases h2
      | some a => rw [e] at h2; cases h2; rfl
    obtain ⟨u, hu, rv⟩ := r.get ha
    have hp : ps[i]? = some y := by
      rw [← S.pre, List.getElem?_take_of_lt (by omega)]; exact h1
    have ndP : ps.Nodup := by rw [← S.pre]; exact S.nd.sublist (List.take_sublist _ _)
    refine ⟨u, rv, ?_⟩
    rcases S.par y (List.mem_of_getElem? hp) with k | k
    · exact .inl ⟨k, bindL_get ndP hp hu k⟩
    · obtain ⟨c, e⟩ := cell_has (n := s.heap.objs.size + 1) k
      refine .inr ⟨.inl k, c, e, ?_⟩
      have q := x.cell y c e
      rw [bindC_get ndP hp hu (by show scope.names.lookup y ≠ _; rw [k]; decide)] at q
      exact q
  · exact e0.hok.fresh (Nat.le_of_lt (x.above y c (PySem.mem_of_lookup h)))
  · unfold start
    show _ = N.length
    rw [List.length_append, List.length_map, List.length_replicate]
    omega
theorem fn_of {CX : CXT} {P : Program} {w : World} {K : PySem.W.Frag} {mg : Str → Option Value} {base : Heap} {k : Nat} {f : Addr} {name qual : Str} {params : Arguments} {body : List Stmt} {scope : Scope} {dV kV doc pm cdv ct oc : Value} {an od : Option Addr}
    {osl : Array (Option Value)} {N ps : List Str} {sp : Sp} (lk : K.lookup f = some ⟨oc, od, .func (PySem.W.fnOf name qual params body scope dV kV doc pm an cdv ct), osl⟩) (hcd : PySem.W.codeIn K cdv qual = true) (S : FnScope N ps scope)
    (len : ∀ vs H Q E, sp vs H Q E → vs.length = ps.length)
    (hbody : ∀ (A : Around) (outer : List Env) (s : Shared) (H : Hp) (vs : List V) (Q : VK) (E : XK), Room k (A.deeper (envOfC qual scope s.heap.objs.size f cdv)) → sp vs H Q E →
      ∃ t, PSs (cxOf CX P w K mg base N qual scope f cdv A outer s H E) body t ∧ t { nx := fun _ H' => Q .non H', rt := Q } (start N vs) H) :
    FnOk P w K mg base CX (k + 1) f (PySem.W.fnOf name qual params body scope dV kV doc pm an cdv ct) ps sp := by
  refine ⟨len, fun A outer s H args us vs Q E hr e0 hb r hsp => ?_⟩
  have hl := len _ _ _ _ hsp
  have KX : K.In s.heap := e0.mod.kin.keeps fun b o e => (e0.bs b o e).1
  have lim : s.heap.NoLimit := e0.mod.nolimit.keeps fun b o e => (e0.bs b o e).1
  have hkind : ∀ y ∈ ps.zip us, scope.names.lookup y.1 = some .local ∨ (scope.names.lookup y.1 = some .cell ∧ ((cellsFrom (s.heap.objs.size + 1) scope.names []).lookup y.1).isSome = true) := fun ⟨n, v⟩ hy => by
    rcases S.par n (List.of_mem_zip hy).1 with q | q
    · exact .inl q
    · exact .inr ⟨q, PySem.W.cellsFrom_some _ _ _ (.inl q)⟩
  refine codeAny_call_function hr.depth (KX _ _ lk) rfl S.co S.gen rfl (PySem.W.codeRec_of KX hcd) (hb _ _ _ _ ?_)
  refine wpAny_newFunctionEnv_cells S.kind hkind fun env he s1 x => ?_
  subst he
  refine ⟨lim.keeps x.toInCall.keep, codeAny_func ?_⟩
  obtain ⟨t, ht, hq⟩ := hbody A outer s H vs Q E (hr.deeper _) hsp
  have I : Inv (cxOf CX P w K mg base N qual scope f cdv A outer s H E) [] (start N vs) H s1 := inv_start S hr.hd e0 hl r x
  refine wpAny_mono (ht [] s1 (start N vs) H _ I hq) (fun fl s' hs => ?_) fun e s' hs => hs
  have fin : ∀ {σ' : St} {H' : Hp} {v : V} {u : Value}, Inv (cxOf CX P w K mg base N qual scope f cdv A outer s H E) [] σ' H' s' → RelV v u → Q v H' → CE outer P w H s Q u s' :=
    fun {σ' H' v u} J rv q => ⟨v, H', J.os, J.bare, J.base, J.hok, rv, q⟩
  cases fl with
  | ret u =>
    obtain ⟨v, σ', H', J, rv, q⟩ := hs
    exact fin J rv q
  | next =>
    obtain ⟨σ', H', J, q⟩ := hs
    exact fin (v := V.non) (u := Value.none) J rfl q
  | brk =>
    obtain ⟨_, _, _, q⟩ := hs
    exact False.elim q
  | cont =>
    obtain ⟨_, _, _, q⟩ := hs
    exact False.elim q
end L2
namespace L2
open PySem PySem.Spec PyProof.Rows
section
variable {X : Cx} {x : Str} {p pos : Pos} {e : Expr} {es : List Expr} {t : TA} {id T : String} {r : List V → Hp → VK → Prop}
def tCB (r : List V → Hp → VK → Prop) (t : TA) : TE := fun σ H Q => t σ H fun vs H1 => r vs H1 Q
theorem pe_callB (hc : CallR X (.builtin id) r) (hg : Gl X x) (hm : X.mg x = none) (hv : bootBuiltins x = some (.builtin id)) (ha : PA X (e :: es) t) (hn : x ≠ "__name__" := by decide) (hdb : (x == ("__debug__" : Str)) = false := by decide)
    (he : starEach (e :: es) X.env = (false, eval e X.env) :: starEach es X.env := by rfl) (hpl : (backTo pos (starEach es X.env)).any (·.1) = false := by rfl) : PE X (.Call (.Name x p) (e :: es) [] pos) (tCB r t) := by
  intro pins s σ H Q I h
  refine wpAny_Call_Name_kw (ld_blt I hg hm hv ?_ hn hdb)
  exact PyProof.Rows.callWith_builtin1 (thn (ha pos pins s σ H _ I h) fun us s1 ⟨vs, H1, I1, r1, q1⟩ => hc pins s1 σ H1 vs us Q I1 r1 q1) he hpl
theorem pe_callTy (hc : CallR X (.type T) r) (hg : Gl X x) (hm : X.mg x = none) (hv : bootBuiltins x = some (.type T)) (ha : PA X (e :: es) t) (hn : x ≠ "__name__" := by decide) (hdb : (x == ("__debug__" : Str)) = false := by decide)
    (he : starEach (e :: es) X.env = (false, eval e X.env) :: starEach es X.env := by rfl) (hpl : (backTo pos (starEach es X.env)).any (·.1) = false := by rfl) : PE X (.Call (.Name x p) (e :: es) [] pos) (tCB r t) := by
  intro pins s σ H Q I h
  refine wpAny_Call_Name_kw (ld_blt I hg hm hv ?_ hn hdb)
  exact PyProof.Rows.callWith_type1 (thn (ha pos pins s σ H _ I h) fun us s1 ⟨vs, H1, I1, r1, q1⟩ => hc pins s1 σ H1 vs us Q I1 r1 q1) he hpl
end
end L2
namespace HT
open PySem PyProof.Rows
section
open PySem.SeqAt
open PySem.AutoSeq1 (wpAny_loadPart')
open PySem.MeetsSeq PySem.MeetsSeq2 PySem.MeetsSeq3
end
section
variable {prog : Program} {w : World} {A : Around} {E : Value → Shared → Prop} {s : Shared}
theorem cat_tup {t b : Addr} {vs ws : List Value} {Q : Value → Shared → Prop} (ht : IsTup s.heap t vs.toArray) (hb : IsTup s.heap b ws.toArray) (hv : vs ≠ [])
    (h1 : ws = [] → Q (.ref t) s) (h2 : ws ≠ [] → Q (.ref s.heap.objs.size) { s with heap := s.heap.push { cls := .type "tuple", data := .seq (vs ++ ws).toArray } })
    (hsz : vs.length + ws.length ≤ sizeLine) : wpAny (model prog w) A (binaryOp .Add (.ref t) (.ref b)) Q E s := by
  obtain ⟨⟨cls, dd, data, sl⟩, ho, hc, n, hd⟩ := id ht
  obtain ⟨⟨cls2, dd2, data2, sl2⟩, ho2, hc2, n2, hd2⟩ := id hb
  simp only at hc hd hc2 hd2
  subst hc hd hc2 hd2
  have e : vs.toArray ++ ws.toArray = (vs ++ ws).toArray := by simp
  by_cases hw : ws = []
  · exact concat_meets ⟨_, ho, rfl⟩ ⟨_, ho2, rfl⟩ noFill_tuple_add seq_tuple_add PySem.F.slot_tuple_add PySem.F.entry_tuple_add (PySem.F.args_tuple_add_2 _ _)
      (tuple_addW1 t b vs.toArray ws.toArray n n2 dd dd2 sl sl2 (by simpa using hv) (by simp [hw])) ⟨ho, ho2, h1 hw⟩
  · refine concat_meets ⟨_, ho, rfl⟩ ⟨_, ho2, rfl⟩ noFill_tuple_add seq_tuple_add PySem.F.slot_tuple_add PySem.F.entry_tuple_add (PySem.F.args_tuple_add_2 _ _)
      (tuple_addW2 t b vs.toArray ws.toArray n n2 dd dd2 sl sl2 (by simpa using hv) (by simpa using hw) (by rw [List.size_toArray, List.size_toArray]; exact hsz)) ⟨ho, ho2, ?_⟩
    rw [e]
    exact h2 hw
def sIx (n d : Nat) : Option Int → Nat
  | none => d
  | some v => if v < 0 then (v + (n : Int)).toNat else min v.toNat n
theorem sIx_none (n d : Nat) : sIx n d none = d := rfl
theorem sIx_nat (n d k : Nat) : sIx n d (some (k : Int)) = min k n := by
  show (if (k : Int) < 0 then ((k : Int) + (n : Int)).toNat else min (k : Int).toNat n) = min k n
  rw [if_neg (by omega), Int.toNat_natCast]
theorem sIx_le (n d : Nat) (hd : d ≤ n) (o : Option Int) : sIx n d o ≤ n := by
  cases o with
  | none => exact hd
  | some v =>
    show (if v < 0 then (v + (n : Int)).toNat else min v.toNat n) ≤ n
    by_cases hv : v < 0
    · rw [if_pos hv]; omega
    · rw [if_neg hv]; exact Nat.min_le_right _ _
theorem clip_eq (v : Int) (n d : Nat) : (if v < 0 then max (v + (n : Int)) 0 else min v (n : Int)) = ((sIx n d (some v) : Nat) : Int) := by
  show (if v < 0 then max (v + (n : Int)) 0 else min v (n : Int)) = (((if v < 0 then (v + (n : Int)).toNat else min v.toNat n) : Nat) : Int)
  by_cases hv : v < 0
  · simp only [if_pos hv]; omega
  · simp only [if_neg hv]; omega
theorem adjust_gen (lo hi : Option Int) (n : Nat) : Builtin.Slice.sliceAdjust lo hi 1 (n : Int) = (((sIx n 0 lo : Nat) : Int), ((sIx n n hi : Nat) : Int)) := by
  have h1 : ¬ ((1 : Int) < 0) := by omega
  unfold Builtin.Slice.sliceAdjust
  simp only [h1, if_false]
  refine Prod.ext ?_ ?_
  · cases lo with
    | none => rfl
    | some v => exact clip_eq v n 0
  · cases hi with
    | none => rfl
    | some v => exact clip_eq v n n
theorem places_gen (i j : Nat) : Builtin.Slice.slicePlaces (i : Int) (j : Int) 1 = j - i := by
  unfold Builtin.Slice.slicePlaces
  have h1 : (1 : Int) > 0 := by omega
  simp only [h1, if_true, Int.ediv_one]
  split <;> omega
theorem slicePart_ {v : Value} {o : Option Int} {Q : Option Int → Shared → Prop} (p : IsPart v o) (h : Q o s) : wpAny (model prog w) A (Builtin.Slice.slicePartIndex v) Q E s := by
  cases p with
  | none => exact slicePart_none h
  | int i t => exact slicePart_int h
theorem sliceApplied_gen {sl : Addr} {vl vu : Value} {lo hi : Option Int} {n : Nat} {Q : Int × Int × Nat → Shared → Prop} (hs : s.heap.IsSliceOf sl vl vu .none) (pl : IsPart vl lo) (pu : IsPart vu hi)
    (h : Q (((sIx n 0 lo : Nat) : Int), 1, sIx n n hi - sIx n 0 lo) s) : wpAny (model prog w) A (Builtin.Slice.sliceApplied (.ref sl) (pure (n : Int))) Q E s := by
  obtain ⟨os, hos, hcs, hds⟩ := id hs
  unfold Builtin.Slice.sliceApplied Builtin.Slice.sliceFields
  refine wpAny_bind (wpAny_bind (wpAny_field hos hds (x := vl) rfl (wpAny_bind (wpAny_field hos hds (x := vu) rfl (wpAny_bind (wpAny_field hos hds (x := .none) rfl (wpAny_pure ?_)))))))
  refine wpAny_bind (slicePart_none ?_)
  show wpAny _ _ (if ((1 : Int) == 0) = true then _ else _) _ _ s
  rw [if_neg (by decide)]
  refine wpAny_bind (slicePart_ pl (wpAny_bind (slicePart_ pu (wpAny_bind (wpAny_pure ?_)))))
  show wpAny _ _ (match Builtin.Slice.sliceAdjust lo hi 1 (n : Int) with | (lo, hi) => pure (lo, (1 : Int), Builtin.Slice.slicePlaces lo hi 1)) _ _ s
  rw [adjust_gen lo hi n]
  show wpAny _ _ (pure (((sIx n 0 lo : Nat) : Int), (1 : Int), Builtin.Slice.slicePlaces ((sIx n 0 lo : Nat) : Int) ((sIx n n hi : Nat) : Int) 1)) _ _ s
  rw [places_gen]
  exact wpAny_pure h
theorem pick_gen (xs : Array Value) (i k : Nat) : ((List.range k).filterMap fun (m : Nat) => xs[((i : Int) + (m : Int) * 1).toNat]?).toArray = ((xs.toList.drop i).take k).toArray := by
  have e : (fun (m : Nat) => xs[((i : Int) + (m : Int) * 1).toNat]?) = fun m => xs[i + m]? := by
    funext m
    have : ((i : Int) + (m : Int) * 1).toNat = i + m := by omega
    rw [this]
  rw [e]
  have := pick_run xs i k
  rw [List.filterMap_map] at this
  have e2 : ((fun x => xs[x]?) ∘ fun x => i + x) = fun m => xs[i + m]? := rfl
  rw [e2] at this
  rw [this]
theorem getItem_tuple_cut {t sl : Addr} {items : Array Value} {vl vu : Value} {lo hi : Option Int} {Q : Value → Shared → Prop} (ht : IsTup s.heap t items) (hs : s.heap.IsSliceOf sl vl vu .none) (pl : IsPart vl lo) (pu : IsPart vu hi)
    (hw : ¬ (sIx items.size 0 lo = 0 ∧ sIx items.size items.size hi = items.size))
    (h : Q (.ref s.heap.objs.size) { s with heap := s.heap.push { cls := .type "tuple", data := .seq ((items.toList.drop (sIx items.size 0 lo)).take (sIx items.size items.size hi - sIx items.size 0 lo)).toArray } })
    (hsz : items.size ≤ sizeLine) : wpAny (model prog w) A (getItem (.ref t) (.ref sl)) Q E s := by
  have htake : sizeOk (.seq ((items.toList.drop (sIx items.size 0 lo)).take (sIx items.size items.size hi - sIx items.size 0 lo)).toArray) := by
    show ((items.toList.drop (sIx items.size 0 lo)).take (sIx items.size items.size hi - sIx items.size 0 lo)).toArray.size ≤ sizeLine
    rw [List.size_toArray, List.length_take, List.length_drop, Array.length_toList]
    omega
  have hj : sIx items.size items.size hi ≤ items.size := sIx_le _ _ (Nat.le_refl _) hi
  obtain ⟨os, hos, hcs, hds⟩ := id hs
  have hTs : s.TypeIs (.ref sl) "slice" := ⟨os, hos, hcs⟩
  unfold getItem
  try with_reducible refine wpAny_holding ?_
  first | refine wpAny_bind (wpAny_pure ?_) | skip
  refine wpAny_bind (wpAny_sequenceKey ht.typeIs (by decide) ?_)
  refine wpAny_bind (wpAny_callSpecial?_slot (name := Str.ofString "__getitem__") ht.typeIs PyProof.Rows.slot_tuple_getitem
    (wpAny_call_entry PyProof.Rows.slot_tuple_getitem ht.typeIs entry_tuple_getitem ?_ (args_tuple_getitem _ _)))
  show wpAny _ _ (Builtin.Tuple.tupleItemsOf (.ref t) >>= _) _ _ s
  refine wpAny_bind (tupleItemsOf_ ht ?_)
  refine wpAny_bind (wpAny_typeOf hTs ?_)
  rw [if_pos (by decide)]
  refine wpAny_bind (sliceApplied_gen hs pl pu ?_)
  have hno : ¬ ((((sIx items.size 0 lo : Nat) : Int) == 0 && (1 : Int) == 1 && (sIx items.size items.size hi - sIx items.size 0 lo) == items.size) = true) := by
    intro q
    rw [Bool.and_eq_true, Bool.and_eq_true] at q
    have q1 : ((sIx items.size 0 lo : Nat) : Int) = 0 := eq_of_beq q.1.1
    have q2 : sIx items.size items.size hi - sIx items.size 0 lo = items.size := eq_of_beq q.2
    exact hw ⟨by omega, by omega⟩
  show wpAny _ _ (if (((sIx items.size 0 lo : Nat) : Int) == 0 && (1 : Int) == 1 && (sIx items.size items.size hi - sIx items.size 0 lo) == items.size) = true then _ else _) _ _ s
  rw [if_neg hno, pick_gen]
  first
    | exact wpAny_bind (m := Builtin.Tuple.tupleExact _) (wpAny_newObj_type (wpAny_pure ⟨_, rfl, wpAny_pure h⟩) htake)
    | exact wpAny_bind (m := Builtin.Tuple.tupleExact _) (wpAny_newObj_type (wpAny_bind (wpAny_pure (wpAny_pure ⟨_, rfl, wpAny_pure h⟩))) htake)
    | exact wpAny_bind (wpAny_bind (m := Builtin.Tuple.tupleExact _) (wpAny_newObj_type (wpAny_pure (wpAny_pure ⟨_, rfl, wpAny_pure h⟩)) htake))
    | exact wpAny_bind (wpAny_bind (m := Builtin.Tuple.tupleExact _) (wpAny_newObj_type (wpAny_pure ⟨_, rfl, wpAny_pure h⟩) htake))
end
end HT
namespace L2
open PySem PySem.Spec PyProof.Rows
abbrev TO := St → Hp → (Option Int → Hp → Prop) → Prop
def PO (X : Cx) (e : Option Expr) (t : TO) : Prop :=
  ∀ (pins : List (Addr × Obj)) (s : Shared) (σ : St) (H : Hp) (Q : Option Int → Hp → Prop), Inv X pins σ H s → t σ H Q →
    wpAny (model X.prog X.w) X.A (evalPart e X.env) (fun u s' => ∃ o H', Inv X pins σ H' s' ∧ IsPart u o ∧ Q o H') X.xe s
def tNoPart : TO := fun _ H Q => Q none H
def tPart (t : TE) : TO := fun σ H Q => t σ H fun x H1 => ∃ i, x = .int i ∧ Q (some i) H1
section
variable {X : Cx} {e : Expr} {te : TE} {lo hi : Option Expr} {tl th : TO} {pos p2 : Pos}
theorem po_none : PO X none tNoPart := by
  intro pins s σ H Q I h
  rw [evalPart_none]
  exact wpAny_pure ⟨none, H, I, .none, h⟩
theorem po_some (h : PE X e te) : PO X (some e) (tPart te) := by
  intro pins s σ H Q I hw
  rw [evalPart_some]
  refine thn (h pins s σ H _ I hw) fun u s1 ⟨x, H1, I1, r1, q1⟩ => ?_
  obtain ⟨i, rfl, q⟩ := q1
  obtain ⟨t, rfl⟩ := r1
  exact ⟨some i, H1, I1, .int i t, q⟩
def SlR (X : Cx) (r : V → Option Int → Option Int → Hp → VK → Prop) : Prop :=
  ∀ (pins : List (Addr × Obj)) (s : Shared) (σ : St) (H : Hp) (x : V) (v vl vu : Value) (lo hi : Option Int) (sl : Addr) (Q : VK), Inv X pins σ H s → RelV x v → s.heap.IsSliceOf sl vl vu .none → IsPart vl lo → IsPart vu hi → r x lo hi H Q →
    ∃ T id, typeLookup (.type T) "__getitem__" = pure (some (.builtin id)) ∧ s.TypeIs v T ∧ wpAny (model X.prog X.w) X.A (getItem v (.ref sl)) (EP X pins σ Q) X.xe s
theorem SlR.or {r r' : V → Option Int → Option Int → Hp → VK → Prop} (h : SlR X r) (h' : SlR X r') : SlR X (fun x lo hi H Q => r x lo hi H Q ∨ r' x lo hi H Q) := by
  intro pins s σ H x v vl vu lo hi sl Q I rx hs pl pu q
  rcases q with q | q
  · exact h pins s σ H x v vl vu lo hi sl Q I rx hs pl pu q
  · exact h' pins s σ H x v vl vu lo hi sl Q I rx hs pl pu q
def tSl (r : V → Option Int → Option Int → Hp → VK → Prop) (te : TE) (tl th : TO) : TE := fun σ H Q => te σ H fun x H1 => tl σ H1 fun l H2 => th σ H2 fun u H3 => r x l u H3 Q
theorem pe_slice {r : V → Option Int → Option Int → Hp → VK → Prop} (hr : SlR X r) (he : PE X e te) (hl : PO X lo tl) (hu : PO X hi th) : PE X (.Subscript e (.Slice lo hi none p2) pos) (tSl r te tl th) := by
  intro pins s σ H Q I h
  refine Subscript_ (thn (he pins s σ H _ I h) fun v s1 ⟨x, H1, I1, r1, q1⟩ => ?_)
  refine wpAny_Slice (thn (hl pins s1 σ H1 _ I1 q1) fun vl s2 ⟨l, H2, I2, pl, q2⟩ => thn (hu pins s2 σ H2 _ I2 q2) fun vu s3 ⟨u, H3, I3, pu, q3⟩ => ?_)
  rw [evalPart_none]
  refine wpAny_pure ?_
  have I4 : Inv X pins σ H3 { s3 with heap := s3.heap.push { cls := .type "slice", data := .fields #[vl, vu, .none] } } := I3.kept (t' := s3.toks) fun b ob q => Heap.get?_push_of_some _ q
  obtain ⟨T, id, hT, ht, hg⟩ := hr pins { s3 with heap := s3.heap.push { cls := .type "slice", data := .fields #[vl, vu, .none] } } σ H3 x v vl vu l u s3.heap.objs.size Q I4 r1 (Heap.IsSliceOf.new ..) pl pu q3
  show wpAny (model X.prog X.w) X.A (subscriptTail e (.Slice lo hi none p2) v (.ref s3.heap.objs.size)) (EP X pins σ Q) X.xe { s3 with heap := s3.heap.push { cls := .type "slice", data := .fields #[vl, vu, .none] } }
  exact tail_any (ops := [.ref s3.heap.objs.size, v]) ht hT hg (by with_unfolding_all rfl)
def cutV (xs : List V) (lo hi : Option Int) : List V := (xs.drop (HT.sIx xs.length 0 lo)).take (HT.sIx xs.length xs.length hi - HT.sIx xs.length 0 lo)
theorem cutV_length (xs : List V) (lo hi : Option Int) : (cutV xs lo hi).length ≤ xs.length := by
  unfold cutV
  rw [List.length_take, List.length_drop]
  omega
def rSlT (K : PySem.W.Frag) : V → Option Int → Option Int → Hp → VK → Prop := fun x lo hi H Q => ∃ a xs, x = .ref a ∧ SqT K H a xs ∧
  ¬ (HT.sIx xs.length 0 lo = 0 ∧ HT.sIx xs.length xs.length hi = xs.length) ∧ ∀ p, H p = none → Q (.ref p) (upd H p (.tup (cutV xs lo hi)))
theorem sl_tup : SlR X (rSlT X.K) := by
  intro pins s σ H x v vl vu lo hi sl Q I rx hs pl pu h
  obtain ⟨a, xs, rfl, hx, hw, q⟩ := h
  cases rx
  obtain ⟨its, r, ht, hz⟩ := I.tuple hx
  have hlen : its.toArray.size = xs.length := by rw [List.size_toArray]; exact r.length.symm
  refine ⟨"tuple", _, PyProof.Rows.slot_tuple_getitem.lookup, ht.typeIs, ?_⟩
  refine HT.getItem_tuple_cut ht hs pl pu (by rw [hlen]; exact hw) ?_ (by rw [hlen]; exact hz)
  rw [hlen]
  refine ⟨.ref s.heap.objs.size, _, I.laid (t' := s.toks) (o := .tup (cutV xs lo hi)) (fun b ob q => Heap.get?_push_of_some _ q) (Nat.le_refl _) ?_, rfl, q _ (I.hok.fresh (Nat.le_refl _))⟩
  exact ⟨Nat.le_trans (cutV_length xs lo hi) hz, _, (r.drop (HT.sIx xs.length 0 lo)).take (HT.sIx xs.length xs.length hi - HT.sIx xs.length 0 lo), IsTup.new _ _⟩
def rCatT (K : PySem.W.Frag) : R2 := fun x y H Q => ∃ a b xs ys, x = .ref a ∧ y = .ref b ∧ SqT K H a xs ∧ SqT K H b ys ∧ xs ≠ [] ∧ xs.length + ys.length ≤ sizeLine ∧
  (ys = [] → Q (.ref a) H) ∧ (ys ≠ [] → ∀ p, H p = none → Q (.ref p) (upd H p (.tup (xs ++ ys))))
theorem Vals.nil_iff {xs : List V} {us : List Value} (r : Vals xs us) : us = [] ↔ xs = [] := by
  cases r with
  | nil => simp
  | cons _ _ => simp
theorem op_catT : OpR X (binaryOp .Add) (rCatT X.K) := by
  intro pins s σ H x y v u Q I rx ry h
  obtain ⟨a, b, xs, ys, rfl, rfl, ha, hb, hx, hz, q1, q2⟩ := h
  cases rx
  cases ry
  obtain ⟨its, r1, p1, _⟩ := I.tuple ha
  obtain ⟨its2, r2, p2, _⟩ := I.tuple hb
  refine HT.cat_tup p1 p2 (fun z => hx (r1.nil_iff.mp z)) (fun z => ⟨.ref a, H, I, rfl, q1 (r2.nil_iff.mp z)⟩) (fun z => ?_) (by rw [← r1.length, ← r2.length]; exact hz)
  refine ⟨.ref s.heap.objs.size, _, I.laid (t' := s.toks) (o := .tup (xs ++ ys)) (fun b ob q => Heap.get?_push_of_some _ q) (Nat.le_refl _) ?_, rfl, q2 (fun w => z (r2.nil_iff.mpr w)) _ (I.hok.fresh (Nat.le_refl _))⟩
  exact ⟨by rw [List.length_append]; exact hz, _, r1.append r2, IsTup.new _ _⟩
end
end L2
namespace L2
open PySem PySem.Spec PyProof.Rows
def ixN (n : Nat) (i : Int) : Option Nat := if 0 ≤ i then (if i < n then some i.toNat else none) else if -(n : Int) ≤ i then some (i + n).toNat else none
def atI {α : Type} (xs : List α) (i : Int) : Option α := (ixN xs.length i).bind fun j => xs[j]?
theorem ixN_seq {n : Nat} {i : Int} {j : Nat} (h : ixN n i = some j) : seqIndex? i n = some j ∧ j < n ∧ -(n : Int) ≤ i ∧ i < n := by
  unfold ixN at h
  by_cases h0 : 0 ≤ i
  · rw [if_pos h0] at h
    by_cases h1 : i < n
    · rw [if_pos h1] at h
      have e : i.toNat = j := Option.some.inj h
      exact ⟨by rw [seqIndex_of h0 h1, e], by omega, by omega, h1⟩
    · rw [if_neg h1] at h; cases h
  · rw [if_neg h0] at h
    by_cases h1 : -(n : Int) ≤ i
    · rw [if_pos h1] at h
      have e : (i + n).toNat = j := Option.some.inj h
      exact ⟨by rw [seqIndex_neg (by omega) h1, e], by omega, h1, by omega⟩
    · rw [if_neg h1] at h; cases h
theorem atI_get {α : Type} {xs : List α} {i : Int} {v : α} (h : atI xs i = some v) : ∃ j, seqIndex? i xs.length = some j ∧ xs[j]? = some v ∧ j < xs.length ∧ -(xs.length : Int) ≤ i ∧ i < xs.length := by
  unfold atI at h
  cases e : ixN xs.length i with
  | none => rw [e] at h; cases h
  | some j =>
    rw [e] at h
    obtain ⟨h1, h2, h3, h4⟩ := ixN_seq e
    exact ⟨j, h1, h, h2, h3, h4⟩
theorem atI_nat {α : Type} {xs : List α} {j : Nat} {v : α} (h : xs[j]? = some v) : atI xs (j : Int) = some v := by
  have hj : j < xs.length := (List.getElem?_eq_some_iff.mp h).1
  have e : ixN xs.length (j : Int) = some j := by
    unfold ixN
    rw [if_pos (by omega), if_pos (by omega)]; simp
  unfold atI; rw [e]; exact h
theorem atI_last {α : Type} (xs : List α) (v : α) : atI (xs ++ [v]) (-1) = some v := by
  have hl : (xs ++ [v]).length = xs.length + 1 := by simp
  have e : ixN (xs ++ [v]).length (-1) = some xs.length := by
    unfold ixN
    rw [hl, if_neg (by decide), if_pos (by omega)]
    congr 1
    omega
  unfold atI
  rw [e]
  show (xs ++ [v])[xs.length]? = some v
  simp
def PlainIx (b : Expr) : Prop := ∀ o i, subscripted b false o i = operate [o, i] (getItem o i)
def IxR (X : Cx) (r : R2) : Prop :=
  ∀ (value slice : Expr) (pins : List (Addr × Obj)) (s : Shared) (σ : St) (H : Hp) (x y : V) (v u : Value) (Q : VK), Inv X pins σ H s → RelV x v → RelV y u → r x y H Q →
    subscripted slice false v u = operate [v, u] (getItem v u) → wpAny (model X.prog X.w) X.A (subscriptTail value slice v u) (EP X pins σ Q) X.xe s
def MtR (X : Cx) (id : String) (r : V → List V → Hp → VK → Prop) : Prop :=
  ∀ (pins : List (Addr × Obj)) (s : Shared) (σ : St) (H : Hp) (x : V) (xs : List V) (v : Value) (us : List Value) (Q : VK), Inv X pins σ H s → RelV x v → Vals xs us → r x xs H Q →
    wpAny (model X.prog X.w) X.A (call (.builtin id) (v :: us)) (EP X pins σ Q) X.xe s
section
variable {X : Cx} {a b : Expr} {ta tb : TE} {pos : Pos}
theorem pe_ix {r : R2} (hr : IxR X r) (ha : PE X a ta) (hb : PE X b tb) (hs : PlainIx b) : PE X (.Subscript a b pos) (tOp r ta tb) := by
  intro pins s σ H Q I h
  exact Subscript_ (binT ha hb I h fun v u s2 x y H2 I2 rx ry q => hr a b pins s2 σ H2 x y v u Q I2 rx ry q (hs _ _))
def rIxL (K : PySem.W.Frag) : R2 := fun x y H Q => ∃ p xs i v, x = .ref p ∧ y = .int i ∧ SqL K H p xs ∧ atI xs i = some v ∧ Q v H
def rIxT (K : PySem.W.Frag) : R2 := fun x y H Q => ∃ p xs i v, x = .ref p ∧ y = .int i ∧ SqT K H p xs ∧ atI xs i = some v ∧ Q v H
def rIxS : R2 := fun x y H Q => ∃ z i c, x = .str z ∧ y = .int i ∧ z.length ≤ sizeLine ∧ atI z.cps.toList i = some c ∧ Q (.str ⟨#[c]⟩) H
theorem ix_list : IxR X (rIxL X.K) := by
  intro value slice pins s σ H x y v u Q I rx ry h hs
  obtain ⟨p, xs, i, z, rfl, rfl, hq, he, q⟩ := h
  cases rx
  obtain ⟨t, rfl⟩ := ry
  obtain ⟨its, r, pl, hz⟩ := I.list hq
  obtain ⟨j, h1, h2, h3, h4, h5⟩ := atI_get he
  obtain ⟨w, ew, rw'⟩ := r.get h2
  have hl := r.length
  have hn := line63
  have fin : EP X pins σ Q w s := ⟨z, H, I, rw', q⟩
  by_cases h0 : 0 ≤ i
  · have hj : i.toNat = j := by
      rw [seqIndex_of h0 h5] at h1
      exact Option.some.inj h1
    exact item_listR pl.isList h0 (by omega) (by rw [hj]; simpa using ew) fin hs
  · have hj : (i + (its.toArray.size : Int)).toNat = j := by
      rw [seqIndex_neg (by omega) h4] at h1
      rw [List.size_toArray, ← hl]
      exact Option.some.inj h1
    exact subscriptTail_builtinR (x := w) pl.isList.typeIs slot_list_getitem.lookup
      (wpAny_getItem_list_neg (Q := fun r s' => r = w ∧ EP X pins σ Q r s') pl.isList (by omega) (by rw [List.size_toArray] <;> omega) (by omega) (by rw [hj]; simpa using ew) ⟨rfl, fin⟩) hs
theorem ix_tup : IxR X (rIxT X.K) := by
  intro value slice pins s σ H x y v u Q I rx ry h hs
  obtain ⟨p, xs, i, z, rfl, rfl, hq, he, q⟩ := h
  cases rx
  obtain ⟨t, rfl⟩ := ry
  obtain ⟨its, r, pl, hz⟩ := I.tuple hq
  obtain ⟨j, h1, h2, h3, h4, h5⟩ := atI_get he
  obtain ⟨w, ew, rw'⟩ := r.get h2
  have hl := r.length
  have hn := line63
  have fin : EP X pins σ Q w s := ⟨z, H, I, rw', q⟩
  exact subscriptTail_builtinR (x := w) pl.typeIs slot_tuple_getitem.lookup
    (getItem_tuple (j := j) (Q := fun r s' => r = w ∧ EP X pins σ Q r s') pl (by omega) (by omega) (by rw [List.size_toArray, ← hl]; exact h1) (by simpa using ew) ⟨rfl, fin⟩) hs
theorem ix_str : IxR X rIxS := by
  intro value slice pins s σ H x y v u Q I rx ry h hs
  obtain ⟨z, i, c, rfl, rfl, hz, he, q⟩ := h
  obtain ⟨t, rfl⟩ := rx
  obtain ⟨t', rfl⟩ := ry
  obtain ⟨j, h1, h2, h3, h4, h5⟩ := atI_get he
  have hl : z.cps.toList.length = z.length := by simp [Str.length]
  rw [hl] at h1 h4 h5
  have hn := line63
  exact tail_any (typeIs_str s z t) slot_str_getitem.lookup (getItem_str (c := c) (by
    have e1 : decide (i < -(2 ^ 63 : Int)) = false := decide_eq_false (by omega)
    have e2 : decide (i ≥ 2 ^ 63) = false := decide_eq_false (by omega)
    rw [e1, e2, Bool.or_false]) (by rw [h1]; simpa using h2) ⟨.str ⟨#[c]⟩, H, I.tok _, ⟨_, rfl⟩, q⟩) hs
theorem mapSeq_set (its : List Value) (n j : Nat) (u : Value) : Obj.mapSeq (·.setIfInBounds j u) { cls := .type "list", data := .seq its.toArray n } = { cls := .type "list", data := .seq (its.set j u).toArray n } := by
  simp [Obj.mapSeq]
theorem Inv.lst {pins : List (Addr × Obj)} {σ : St} {H : Hp} {s : Shared} {p : Addr} {xs : List V} (I : Inv X pins σ H s) (h : H p = some (.lst xs)) :
    ∃ (its : List Value) (n : Nat), Vals xs its ∧ s.heap.get? p = some { cls := .type "list", data := .seq its.toArray n } ∧ xs.length ≤ sizeLine := by
  obtain ⟨z, its, n, r, e⟩ := I.hok p _ h
  exact ⟨its, n, r, e, z⟩
theorem Inv.lstUpd {pins : List (Addr × Obj)} {σ : St} {H : Hp} {s : Shared} {p : Addr} {xs ys : List V} {its its' : List Value} {n n' : Nat} {f : Obj → Obj} (I : Inv X pins σ H s) (h : H p = some (.lst xs))
    (ho : s.heap.get? p = some { cls := .type "list", data := .seq its.toArray n }) (hf : f { cls := .type "list", data := .seq its.toArray n } = { cls := .type "list", data := .seq its'.toArray n' }) (r : Vals ys its') (hz : ys.length ≤ sizeLine) (t : Nat) :
    Inv X pins σ (upd H p (.lst ys)) { s with heap := s.heap.update p f, toks := t } := by
  have e : (s.heap.update p f).get? p = some { cls := .type "list", data := .seq its'.toArray n' } := by
    rw [Heap.get?_update_self f ho (by rw [hf] <;> rfl), hf]
  refine I.write (x := p) (e := p) (by rw [h]; trivial) (.inl rfl) (fun b u hb q => (Heap.get?_update_other _ _ (Ne.symm hb)).trans q) ⟨_, e⟩ ?_
  exact ⟨hz, its', n', r, e⟩
def rSetL : V → V → V → Hp → (Hp → Prop) → Prop := fun o i v H Q => ∃ p xs k j, o = .ref p ∧ i = .int k ∧ H p = some (.lst xs) ∧ ixN xs.length k = some j ∧ Q (upd H p (.lst (xs.set j v)))
theorem set_list : PSet X rSetL := by
  intro pins s σ H o i v ov iv u Q I ro ri rv h
  obtain ⟨p, xs, k, j, rfl, rfl, hp, hj, q⟩ := h
  cases ro
  obtain ⟨t, rfl⟩ := ri
  obtain ⟨its, n, r, ho, hz⟩ := I.lst hp
  obtain ⟨h1, h2, h3, h4⟩ := ixN_seq hj
  have hl := r.length
  have hn := line63
  have I' : Inv X pins σ (upd H p (.lst (xs.set j v))) { s with heap := s.heap.update p (Obj.mapSeq (·.setIfInBounds j u)) } :=
    I.lstUpd hp ho (mapSeq_set its n j u) (r.set rv j) (by rw [List.length_set]; exact hz) s.toks
  by_cases h0 : 0 ≤ k
  · have hk : k.toNat = j := by
      rw [seqIndex_of h0 h4] at h1
      exact Option.some.inj h1
    exact PySem.W.ki_setAt ho h0 (by omega) (by rw [List.size_toArray, ← hl]; exact h4) (by rw [hk]; exact ⟨_, I', q⟩)
  · have hk : (k + (its.toArray.size : Int)).toNat = j := by
      rw [seqIndex_neg (by omega) h3] at h1
      rw [List.size_toArray, ← hl]
      exact Option.some.inj h1
    exact PySem.W.ki_setBack ho (by omega) (by rw [List.size_toArray, ← hl]; exact h3) (by omega) (by rw [hk]; exact ⟨_, I', q⟩)
theorem slice_bounds (lo hi : Option Int) (n : Nat) : (sliceBounds lo hi none n).1 = ((HT.sIx n 0 lo : Nat) : Int) ∧ (sliceBounds lo hi none n).2.1 = ((HT.sIx n n hi : Nat) : Int) ∧ (sliceBounds lo hi none n).2.2 = 1 := by
  refine ⟨?_, ?_, rfl⟩
  · cases lo with
    | none => simp [sliceBounds, HT.sIx]
    | some i =>
      simp only [sliceBounds, HT.sIx, Option.getD_none, show (1 : Int) > 0 by decide, if_true]
      by_cases h : i < 0
      · simp only [h, if_true] <;> omega
      · simp only [h, if_false] <;> omega
  · cases hi with
    | none => simp [sliceBounds, HT.sIx]
    | some i =>
      simp only [sliceBounds, HT.sIx, Option.getD_none, show (1 : Int) > 0 by decide, if_true]
      by_cases h : i < 0
      · simp only [h, if_true] <;> omega
      · simp only [h, if_false] <;> omega
theorem slicePick_cut (its : List Value) (lo hi : Option Int) : slicePick its.toArray lo hi none = ((its.drop (HT.sIx its.length 0 lo)).take (HT.sIx its.length its.length hi - HT.sIx its.length 0 lo)).toArray := by
  obtain ⟨h1, h2, h3⟩ := slice_bounds lo hi its.toArray.size
  unfold slicePick
  rw [h1, h2, h3]
  simp only [sliceRange_one, pick_run, List.size_toArray] <;> rfl
def rSlL (K : PySem.W.Frag) : V → Option Int → Option Int → Hp → VK → Prop := fun x lo hi H Q => ∃ a xs, x = .ref a ∧ SqL K H a xs ∧ ∀ p, H p = none → Q (.ref p) (upd H p (.lst (cutV xs lo hi)))
theorem sl_list : SlR X (rSlL X.K) := by
  intro pins s σ H x v vl vu lo hi sl Q I rx hs pl pu h
  obtain ⟨a, xs, rfl, hx, q⟩ := h
  cases rx
  obtain ⟨its, r, ht, hz⟩ := I.list hx
  have hlen := r.length
  refine ⟨"list", _, slot_list_getitem.lookup, ht.isList.typeIs, ?_⟩
  refine wpAny_getItem_list_slice ht.isList hs pl pu .none (by simp) ?_ (by rw [List.size_toArray] <;> omega)
  rw [slicePick_cut, ← hlen]
  refine ⟨.ref s.heap.objs.size, _, I.laid (t' := s.toks) (o := .lst (cutV xs lo hi)) (fun b ob q => Heap.get?_push_of_some _ q) (Nat.le_refl _) ?_, rfl, q _ (I.hok.fresh (Nat.le_refl _))⟩
  exact ⟨Nat.le_trans (cutV_length xs lo hi) hz, _, 0, (r.drop (HT.sIx xs.length 0 lo)).take (HT.sIx xs.length xs.length hi - HT.sIx xs.length 0 lo), Heap.get?_push_size _ rfl⟩
def flatV : V → Bool
  | .non => true
  | .bl _ => true
  | .int _ => true
  | .str _ => true
  | _ => false
def eqV : V → V → Bool
  | .non, .non => true
  | .bl a, .bl b => a == b
  | .bl a, .int b => (if a then 1 else 0) == b
  | .int a, .bl b => a == (if b then 1 else 0)
  | .int a, .int b => a == b
  | .str a, .str b => a == b
  | _, _ => false
theorem eqAt_V {A : Around} {s : Shared} {y x : V} {u v : Value} (ry : RelV y u) (rx : RelV x v) (fy : flatV y = true) (fx : flatV x = true) : SeqAt.EqAt A s u v (eqV y x) := by
  cases y with
  | non =>
    cases ry
    cases x with
    | non => cases rx; exact SeqAt.EqAt.same _
    | bl b => cases rx; exact SeqAt.EqAt.none_bool b
    | int b => obtain ⟨t, rfl⟩ := rx; exact SeqAt.EqAt.none_int b t
    | str b => obtain ⟨t, rfl⟩ := rx; exact SeqAt.EqAt.none_str b t
    | _ => exact absurd (show false = true from fx) Bool.false_ne_true
  | bl a =>
    cases ry
    cases x with
    | non => cases rx; exact SeqAt.EqAt.bool_none a
    | bl b => cases rx; exact SeqAt.EqAt.bool_bool a b
    | int b => obtain ⟨t, rfl⟩ := rx; exact SeqAt.EqAt.bool_int a b t
    | str b => obtain ⟨t, rfl⟩ := rx; exact SeqAt.EqAt.bool_str a b t
    | _ => exact absurd (show false = true from fx) Bool.false_ne_true
  | int a =>
    obtain ⟨t', rfl⟩ := ry
    cases x with
    | non => cases rx; exact SeqAt.EqAt.int_none a t'
    | bl b => cases rx; exact SeqAt.EqAt.int_bool a t' b
    | int b => obtain ⟨t, rfl⟩ := rx; exact SeqAt.EqAt.int_int a t' b t
    | str b => obtain ⟨t, rfl⟩ := rx; exact SeqAt.EqAt.int_str a t' b t
    | _ => exact absurd (show false = true from fx) Bool.false_ne_true
  | str a =>
    obtain ⟨t', rfl⟩ := ry
    cases x with
    | non => cases rx; exact SeqAt.EqAt.str_none a t'
    | bl b => cases rx; exact SeqAt.EqAt.str_bool a t' b
    | int b => obtain ⟨t, rfl⟩ := rx; exact SeqAt.EqAt.str_int a t' b t
    | str b => obtain ⟨t, rfl⟩ := rx; exact SeqAt.EqAt.str_str a t' b t
    | _ => exact absurd (show false = true from fx) Bool.false_ne_true
  | _ => exact absurd (show false = true from fy) Bool.false_ne_true
def eqU (x : V) (u : Value) : Bool := match u with
  | .none => eqV .non x
  | .bool b => eqV (.bl b) x
  | .int i _ => eqV (.int i) x
  | .str z _ => eqV (.str z) x
  | _ => false
theorem eqU_of {x y : V} {u : Value} (r : RelV y u) (f : flatV y = true) : eqU x u = eqV y x := by
  cases y with
  | non => cases r; rfl
  | bl b => cases r; rfl
  | int i => obtain ⟨t, rfl⟩ := r; rfl
  | str z => obtain ⟨t, rfl⟩ := r; rfl
  | _ => exact absurd (show false = true from f) Bool.false_ne_true
theorem any_eqU {x : V} : ∀ {xs : List V} {us : List Value}, Vals xs us → xs.all flatV = true → us.any (eqU x) = xs.any fun y => eqV y x
  | _, _, .nil, _ => rfl
  | y :: xs, u :: us, .cons r t, f => by
    rw [List.all_cons, Bool.and_eq_true] at f
    rw [List.any_cons, List.any_cons, eqU_of r f.1, any_eqU t f.2]
theorem mem_eqAt {A : Around} {s : Shared} {x : V} {v : Value} (rx : RelV x v) (fx : flatV x = true) : ∀ {xs : List V} {us : List Value}, Vals xs us → xs.all flatV = true → ∀ u ∈ us, SeqAt.EqAt A s u v (eqU x u)
  | _, _, .nil, _ => fun u hu => by cases hu
  | y :: xs, u :: us, .cons r t, f => fun u' hu => by
    rw [List.all_cons, Bool.and_eq_true] at f
    rcases List.mem_cons.mp hu with rfl | hu
    · rw [eqU_of r f.1]; exact eqAt_V r rx f.1 fx
    · exact mem_eqAt rx fx t f.2 u' hu
def inV (x : V) (xs : List V) : Bool := xs.any fun y => eqV y x
def rIn (K : PySem.W.Frag) (neg : Bool) : R2 := fun x y H Q => ∃ p xs, y = .ref p ∧ (SqL K H p xs ∨ SqT K H p xs) ∧ flatV x = true ∧ xs.all flatV = true ∧ Q (.bl (if neg then !inV x xs else inV x xs)) H
theorem op_in_seq : OpR X (compareOp .In) (rIn X.K false) := by
  intro pins s σ H x y v u Q I rx ry h
  obtain ⟨p, xs, rfl, hq, fx, fs, q⟩ := h
  cases ry
  rcases hq with hq | hq
  · obtain ⟨its, r, pl, hz⟩ := I.list hq
    refine SeqAt.in_listAt (eqU x) pl.isList (fun w hw => mem_eqAt rx fx r fs w (by simpa using hw)) ⟨.bl _, H, I, rfl, ?_⟩
    rw [show its.toArray.any (eqU x) = its.any (eqU x) by simp, any_eqU r fs]
    exact q
  · obtain ⟨its, r, pl, hz⟩ := I.tuple hq
    refine SeqAt.in_tupleAt (eqU x) pl (fun w hw => mem_eqAt rx fx r fs w (by simpa using hw)) ⟨.bl _, H, I, rfl, ?_⟩
    rw [show its.toArray.any (eqU x) = its.any (eqU x) by simp, any_eqU r fs]
    exact q
theorem op_notIn_seq : OpR X (compareOp .NotIn) (rIn X.K true) := by
  intro pins s σ H x y v u Q I rx ry h
  obtain ⟨p, xs, rfl, hq, fx, fs, q⟩ := h
  cases ry
  rcases hq with hq | hq
  · obtain ⟨its, r, pl, hz⟩ := I.list hq
    refine SeqAt.notIn_listAt (eqU x) pl.isList (fun w hw => mem_eqAt rx fx r fs w (by simpa using hw)) ⟨.bl _, H, I, rfl, ?_⟩
    rw [show its.toArray.any (eqU x) = its.any (eqU x) by simp, any_eqU r fs]
    exact q
  · obtain ⟨its, r, pl, hz⟩ := I.tuple hq
    refine SeqAt.notIn_tupleAt (eqU x) pl (fun w hw => mem_eqAt rx fx r fs w (by simpa using hw)) ⟨.bl _, H, I, rfl, ?_⟩
    rw [show its.toArray.any (eqU x) = its.any (eqU x) by simp, any_eqU r fs]
    exact q
theorem op_notIn_str : OpR X (compareOp .NotIn) (fun x y H Q => ∃ i j, x = .str i ∧ y = .str j ∧ Q (.bl (!(!(Builtin.Str.occurrences j i 0 j.length 1).isEmpty))) H) := by
  intro pins s σ H x y v u Q I rx ry h
  obtain ⟨i, j, rfl, rfl, q⟩ := h
  obtain ⟨t, rfl⟩ := rx
  obtain ⟨t', rfl⟩ := ry
  exact notIn_str ⟨.bl _, H, I, rfl, q⟩
theorem call_len_seq : CallR X (.builtin "len") (fun xs H Q => ∃ p ys, xs = [.ref p] ∧ (SqL X.K H p ys ∨ SqT X.K H p ys) ∧ Q (.int ys.length) H) := by
  intro pins s σ H xs us Q I r h
  obtain ⟨p, ys, rfl, hq, q⟩ := h
  obtain ⟨u, rfl, rx⟩ := vals1 r
  cases rx
  have hn := line63
  rcases hq with hq | hq
  · obtain ⟨its, r', pl, hz⟩ := I.list hq
    have hlen := r'.length
    exact Calls.call_len_list pl.isList (by simp only [List.size_toArray] <;> omega) ⟨.int ys.length, H, I.tok _, ⟨s.toks + 1, by rw [List.size_toArray, hlen]⟩, q⟩
  · obtain ⟨its, r', pl, hz⟩ := I.tuple hq
    have hlen := r'.length
    exact len_tuple pl (by simp only [List.size_toArray] <;> omega) ⟨.int ys.length, H, I.tok _, ⟨s.toks + 1, by rw [List.size_toArray, hlen]⟩, q⟩
theorem call_len_str : CallR X (.builtin "len") (fun xs H Q => ∃ z, xs = [.str z] ∧ z.length ≤ sizeLine ∧ Q (.int z.length) H) := by
  intro pins s σ H xs us Q I r h
  obtain ⟨z, rfl, hz, q⟩ := h
  obtain ⟨u, rfl, t, rfl⟩ := vals1 r
  have hn := line63
  exact len_str (by omega) ⟨.int z.length, H, I.tok _, ⟨_, rfl⟩, q⟩
theorem call_list_of : CallR X (.type "list") (fun xs H Q => ∃ p ys, xs = [.ref p] ∧ (SqL X.K H p ys ∨ SqT X.K H p ys) ∧ ∀ l, H l = none → Q (.ref l) (upd H l (.lst ys))) := by
  intro pins s σ H xs us Q I r h
  obtain ⟨p, ys, rfl, hq, q⟩ := h
  obtain ⟨u, rfl, rx⟩ := vals1 r
  cases rx
  have fin : ∀ (its : List Value), Vals ys its → ys.length ≤ sizeLine → ∀ (h' : Heap) (c' : Nat), (∀ b o', s.heap.get? b = some o' → h'.get? b = some o') →
      h'.get? s.heap.objs.size = some { cls := .type "list", dict := none, data := .seq its.toArray c', slots := #[] } → EP X pins σ Q (.ref s.heap.objs.size) { s with heap := h' } := fun its r' hz h' c' kp e =>
    ⟨.ref s.heap.objs.size, _, I.laid (t' := s.toks) kp (Nat.le_refl _) (show ObjOk X.prog X.w _ h' _ (.lst ys) from ⟨hz, its, c', r', e⟩), rfl, q _ (I.hok.fresh (Nat.le_refl _))⟩
  rcases hq with hq | hq
  · obtain ⟨its, r', pl, hz⟩ := I.list hq
    have hlen := r'.length
    obtain ⟨o, ho, hc, n, hd⟩ := pl.isList
    exact call_list_seq p (.inl rfl) ho hc hd (fun h' c' kp e => fin its r' hz h' c' kp e) (by simp only [List.size_toArray] <;> omega)
  · obtain ⟨its, r', pl, hz⟩ := I.tuple hq
    have hlen := r'.length
    obtain ⟨o, ho, hc, n, hd⟩ := pl
    exact call_list_seq p (.inr rfl) ho hc hd (fun h' c' kp e => fin its r' hz h' c' kp e) (by simp only [List.size_toArray] <;> omega)
theorem call_tuple_of : CallR X (.type "tuple") (fun xs H Q => ∃ p ys, xs = [.ref p] ∧ ((SqL X.K H p ys ∧ ∀ l, H l = none → Q (.ref l) (upd H l (.tup ys))) ∨ (SqT X.K H p ys ∧ Q (.ref p) H))) := by
  intro pins s σ H xs us Q I r h
  obtain ⟨p, ys, rfl, h⟩ := h
  obtain ⟨u, rfl, rx⟩ := vals1 r
  cases rx
  rcases h with ⟨hq, q⟩ | ⟨hq, q⟩
  · obtain ⟨its, r', pl, hz⟩ := I.list hq
    have hlen := r'.length
    refine call_tuple_list pl.isList (fun h' kp => ?_) (by simp only [List.size_toArray] <;> omega)
    have I1 : Inv X pins σ H { s with heap := h' } := I.kept (t' := s.toks) kp
    have I2 : Inv X pins σ (upd H h'.objs.size (.tup ys)) { s with heap := h'.push { cls := .type "tuple", data := .seq its.toArray } } :=
      I1.laid (t' := s.toks) (fun b o e => Heap.get?_push_of_some _ e) (Nat.le_refl _) (show ObjOk X.prog X.w _ _ _ (.tup ys) from ⟨hz, its, r', IsTup.new _ _⟩)
    exact ⟨.ref h'.objs.size, _, I2, rfl, q _ (I1.hok.fresh (Nat.le_refl _))⟩
  · obtain ⟨its, r', pl, hz⟩ := I.tuple hq
    exact call_tuple_same pl ⟨.ref p, H, I, rfl, q⟩
def tyV (K : PySem.W.Frag) (T : String) (x : V) (H : Hp) : Prop := match x with
  | .str _ => T = "str"
  | .int _ => T = "int"
  | .ref p => (T = "list" ∧ ∃ xs, SqL K H p xs) ∨ (T = "tuple" ∧ ∃ o, K.lookup p = some o ∧ o.cls = .type "tuple" ∧ o.dict = none) ∨
      (T = "dict" ∧ ((∃ kvs, H p = some (.dK kvs)) ∨ ∃ kvs, H p = some (.dT kvs))) ∨ (T = "set" ∧ ∃ S n, H p = some (.set S n))
  | _ => False
theorem tyV_is {pins : List (Addr × Obj)} {σ : St} {H : Hp} {s : Shared} {T : String} {x : V} {v : Value} (I : Inv X pins σ H s) (r : RelV x v) (ty : tyV X.K T x H) :
    s.TypeIs v T ∧ ∀ a, v = .ref a → ∃ ob, s.heap.get? a = some ob ∧ ob.dict = none := by
  cases x with
  | str z =>
    obtain ⟨t, rfl⟩ := r
    cases (show T = "str" from ty)
    exact ⟨typeIs_str s z t, fun _ e => nomatch e⟩
  | int i =>
    obtain ⟨t, rfl⟩ := r
    cases (show T = "int" from ty)
    exact ⟨typeIs_int s i t, fun _ e => nomatch e⟩
  | ref p =>
    cases r
    rcases ty with ⟨rfl, xs, hq⟩ | ⟨rfl, o, hk, hc, hd⟩ | ⟨rfl, hk⟩ | ⟨rfl, S, n, hk⟩
    · obtain ⟨its, _, pl, _⟩ := I.list hq
      refine ⟨pl.isList.typeIs, fun a e => ?_⟩
      cases e
      obtain ⟨o, n, e, c, hd, _⟩ := pl
      exact ⟨o, e, hd⟩
    · refine ⟨⟨o, I.kIn p o hk, hc⟩, fun a e => ?_⟩
      cases e
      exact ⟨o, I.kIn _ o hk, hd⟩
    · have z : ∃ o, s.heap.get? p = some o ∧ o.ExactDict := by
        rcases hk with ⟨kvs, hk⟩ | ⟨kvs, hk⟩
        · obtain ⟨_, _, _, _, o, _, _, e, ex, _⟩ := I.hok p _ hk
          exact ⟨o, e, ex⟩
        · obtain ⟨_, _, _, _, o, _, _, e, ex, _⟩ := I.hok p _ hk
          exact ⟨o, e, ex⟩
      obtain ⟨o, e, ex⟩ := z
      refine ⟨⟨o, e, ex.1⟩, fun a e2 => ?_⟩
      cases e2
      exact ⟨o, e, ex.2.1⟩
    · obtain ⟨o, _, _, _, e, ex, _⟩ := I.hok p _ hk
      refine ⟨⟨o, e, ex.1⟩, fun a e2 => ?_⟩
      cases e2
      exact ⟨o, e, ex.2.1⟩
  | _ => exact False.elim ty
def tBM (K : PySem.W.Frag) (T : String) (r : V → List V → Hp → VK → Prop) (to : TE) (t : TA) : TE := fun σ H Q => to σ H fun x H1 => tyV K T x H1 ∧ t σ H1 fun xs H2 => r x xs H2 Q
variable {o e : Expr} {es : List Expr} {to : TE} {t : TA} {name : Str} {apos cpos : Pos} {T id : String} {r : V → List V → Hp → VK → Prop}
theorem pe_bm (pa : PlainAttrs T) (slot : Slot T name id) (hty : typeOf (.builtin id) = pure (.type "method_descriptor")) (hm : MtR X id r) (ho : PE X o to) (ha : PA X (e :: es) t)
    (hbase : attributeBase o name X.env (eval o X.env) = eval o X.env := by rfl)
    (hfew : ((backTo cpos (starEach (e :: es) X.env)).all (fun x => !x.1) && (backToKw cpos (keywordEach [] X.env)).all (fun x => x.1.isSome)
      && decide ((e :: es).length + ([] : List Keyword).length + (if ([] : List Keyword).isEmpty then 0 else 1) < 30)) = true := by rfl)
    (hline : (apos.endLine == cpos.line) = true := by rfl) (hs : starEach (e :: es) X.env = (false, eval e X.env) :: starEach es X.env := by rfl) (hplain : (backTo cpos (starEach es X.env)).any (·.1) = false := by rfl) :
    PE X (.Call (.Attribute o name apos) (e :: es) [] cpos) (tBM X.K T r to t) := by
  intro pins s σ H Q I h
  refine wpAny_Call_method_late hbase hfew hline rfl (thn (ho pins s σ H _ I h) fun v s1 ⟨x, H1, I1, r1, ty, q1⟩ => ?_)
  obtain ⟨h1, h2⟩ := tyV_is I1 r1 ty
  refine ⟨T, id, pa, slot, hty, h1, h2, ?_⟩
  have hA := ha cpos pins s1 σ H1 _ I1 q1
  rw [hs] at hA ⊢
  refine Calls.callWith_builtin (by show (false || (backTo cpos (starEach es X.env)).any (·.1)) = false; rw [hplain] <;> rfl) (Calls.evalArgs_plain ?_)
  exact thn hA fun us s2 ⟨vs, H2, I2, r2, q2⟩ => hm pins s2 σ H2 x vs v us Q I2 r1 r2 q2
/- xs.append(e), list.index on a module's tuple .. are MtR facts of 06m -/
end
end L2
namespace L2
open PySem PySem.Spec PyProof.Rows
def MtM (X : Cx) (id : String) (r : V → List V → Hp → VK → Prop) : Prop :=
  ∀ (pins : List (Addr × Obj)) (s : Shared) (σ : St) (H : Hp) (x : V) (xs : List V) (v : Value) (us : List Value) (Q : VK), Inv X pins σ H s → RelV x v → Vals xs us → r x xs H Q →
    wpAny (model X.prog X.w) X.A (call (.builtin id) (v :: us)) (EP X pins σ Q) X.xe s
theorem Vals.one : ∀ {x : V} {us : List Value}, Vals [x] us → ∃ u, us = [u] ∧ RelV x u
  | _, _, .cons r .nil => ⟨_, rfl, r⟩
theorem Vals.eraseIdx : ∀ {xs : List V} {us : List Value} (i : Nat), Vals xs us → Vals (xs.eraseIdx i) (us.eraseIdx i)
  | _, _, _, .nil => .nil
  | _, _, 0, .cons _ t => t
  | _, _, i + 1, .cons r t => .cons r (Vals.eraseIdx i t)
theorem Vals.rep {xs : List V} {us : List Value} (h : Vals xs us) : ∀ k : Nat, Vals (List.replicate k xs).flatten (List.replicate k us).flatten
  | 0 => .nil
  | k + 1 => by
    rw [List.replicate_succ, List.replicate_succ, List.flatten_cons, List.flatten_cons]
    exact Vals.append h (Vals.rep h k)
theorem len_erase {α : Type} : ∀ (l : List α) (i : Nat), (l.eraseIdx i).length ≤ l.length
  | [], _ => Nat.le_refl _
  | _ :: _, 0 => Nat.le_succ _
  | _ :: r, i + 1 => Nat.succ_le_succ (len_erase r i)
theorem foldl_rep (its : List Value) : ∀ (k : Nat) (acc : List Value),
    List.foldl (fun x1 x2 => x1 ++ x2) acc.toArray (List.replicate k its.toArray) = (acc ++ (List.replicate k its).flatten).toArray
  | 0, acc => by simp
  | k + 1, acc => by
    have e : acc.toArray ++ its.toArray = (acc ++ its).toArray := by simp
    have e2 : (acc ++ its) ++ (List.replicate k its).flatten = acc ++ (List.replicate (k + 1) its).flatten := by
      rw [List.replicate_succ, List.flatten_cons, List.append_assoc]
    rw [← e2, ← foldl_rep its k (acc ++ its), ← e, List.replicate_succ, List.foldl_cons]
section
variable {X : Cx} {pins : List (Addr × Obj)} {σ : St} {H : Hp} {s : Shared} {l b : Addr} {xs ys zs : List V}
theorem Inv.lset {its its' : List Value} {n : Nat} {f : Array Value → Array Value} {t' : Nat} (I : Inv X pins σ H s) (hH : H l = some (.lst xs))
    (e : s.heap.get? l = some { cls := .type "list", data := .seq its.toArray n }) (hf : f its.toArray = its'.toArray) (hv : Vals ys its') (hz : ys.length ≤ sizeLine) :
    Inv X pins σ (upd H l (.lst ys)) { s with heap := s.heap.update l (Obj.mapSeq f), toks := t' } := by
  have q := PySem.IsL.update e f
  rw [hf] at q
  refine I.write (x := l) (e := l) (by rw [hH]; exact trivial) (.inl rfl) (fun b' u hb hu => (Heap.get?_update_other s.heap (Obj.mapSeq f) (Ne.symm hb)).trans hu) ⟨_, q⟩ ?_
  exact ⟨hz, its', _, hv, q⟩
theorem Inv.lnew {its : List Value} {t' : Nat} (I : Inv X pins σ H s) (hv : Vals ys its) (hz : ys.length ≤ sizeLine) :
    Inv X pins σ (upd H s.heap.objs.size (.lst ys)) { s with heap := s.heap.push { cls := .type "list", data := .seq its.toArray }, toks := t' } :=
  I.laid (fun _ _ q => Heap.get?_push_of_some _ q) (Nat.le_refl _) ⟨hz, its, 0, hv, Heap.get?_push_size _ rfl⟩
theorem Inv.fresh (I : Inv X pins σ H s) : H s.heap.objs.size = none := I.hok.fresh (Nat.le_refl _)
theorem Inv.lstM (I : Inv X pins σ H s) (hH : H l = some (.lst xs)) : xs.length ≤ sizeLine ∧ ∃ (its : List Value) (n : Nat), Vals xs its ∧ xs.length = its.length ∧ s.heap.get? l = some { cls := .type "list", data := .seq its.toArray n } := by
  obtain ⟨z, its, n, r, e⟩ := I.hok l _ hH
  exact ⟨z, its, n, r, r.length, e⟩
theorem notLongL {n : Nat} (h : n ≤ sizeLine) : Builtin.List.listTooLong n = false := by
  unfold Builtin.List.listTooLong
  exact decide_eq_false (by omega)
end
section
variable {X : Cx}
def rAppend : V → List V → Hp → VK → Prop := fun x vs H Q => ∃ l xs y, x = .ref l ∧ vs = [y] ∧ H l = some (.lst xs) ∧ xs.length < sizeLine ∧ Q .non (upd H l (.lst (xs ++ [y])))
theorem mt_append : MtM X "list.append" rAppend := by
  intro pins s σ H x vs v us Q I rx rv h
  obtain ⟨l, xs, y, rfl, rfl, hH, hz, q⟩ := h
  cases rx
  obtain ⟨u, rfl, ru⟩ := rv.one
  obtain ⟨z, its, n, r, hl, e⟩ := I.lstM hH
  refine call_meets F.slot_list_append ⟨_, e, rfl⟩ F.entry_list_append (F.args_list_append_2 _ _) (PySem.list_append l its.toArray n u (by rw [List.size_toArray]; omega)) ⟨e, ?_⟩
  refine ⟨.non, _, I.lset (its' := its ++ [u]) hH e (by simp) (r.append (.cons ru .nil)) ?_, rfl, q⟩
  rw [List.length_append, List.length_singleton]
  omega
def rPopAt : V → List V → Hp → VK → Prop := fun x vs H Q => ∃ l xs i k y, x = .ref l ∧ vs = [.int i] ∧ H l = some (.lst xs) ∧ -(2 ^ 63) ≤ i ∧ i < 2 ^ 63 ∧ seqIndex? i xs.length = some k ∧ xs[k]? = some y ∧ Q y (upd H l (.lst (xs.eraseIdx k)))
theorem mt_popAt : MtM X "list.pop" rPopAt := by
  intro pins s σ H x vs v us Q I rx rv h
  obtain ⟨l, xs, i, k, y, rfl, rfl, hH, h1, h2, hk, hy, q⟩ := h
  cases rx
  obtain ⟨u, rfl, ru⟩ := rv.one
  obtain ⟨t, rfl⟩ := ru
  obtain ⟨z, its, n, r, hl, e⟩ := I.lstM hH
  obtain ⟨w, hw, rw'⟩ := r.get hy
  refine call_meets F.slot_list_pop ⟨_, e, rfl⟩ F.entry_list_pop (F.args_list_pop_2 _ _)
    (MeetsSeq.list_pop_at l its.toArray n i t k w (fitsIndex_both h1 h2) (by rw [List.size_toArray, ← hl]; exact hk) (by rw [← Array.getElem?_toList]; exact hw) (by rw [List.size_toArray]; omega)) ⟨e, ?_⟩
  refine ⟨y, _, I.lset (its' := its.eraseIdx k) hH e ?_ (r.eraseIdx k) ?_, rw', q⟩
  · show its.toArray.eraseIdxIfInBounds k = (its.eraseIdx k).toArray
    rw [List.eraseIdxIfInBounds_toArray]
  · have := len_erase xs k
    omega
def rCat : R2 := fun x y H Q => ∃ l b xs zs, x = .ref l ∧ y = .ref b ∧ H l = some (.lst xs) ∧ H b = some (.lst zs) ∧ xs.length + zs.length ≤ sizeLine ∧ ∀ p, H p = none → Q (.ref p) (upd H p (.lst (xs ++ zs)))
theorem op_cat : OpR X (binaryOp .Add) rCat := by
  intro pins s σ H x y v u Q I rx ry h
  obtain ⟨l, b, xs, zs, rfl, rfl, hH, hB, hz, q⟩ := h
  cases rx
  cases ry
  obtain ⟨z, its, n, r, hl, e⟩ := I.lstM hH
  obtain ⟨z2, its2, n2, r2, hl2, e2⟩ := I.lstM hB
  refine PySem.P.add_list e e2 ?_ (by rw [List.size_toArray, List.size_toArray]; omega)
  have ea : its.toArray ++ its2.toArray = (its ++ its2).toArray := by simp
  rw [ea]
  exact ⟨.ref _, _, I.lnew (t' := s.toks) (r.append r2) (by rw [List.length_append]; omega), rfl, q _ I.fresh⟩
def rRep : R2 := fun x y H Q => ∃ l k xs, x = .ref l ∧ y = .int k ∧ H l = some (.lst xs) ∧ -(2 ^ 63) ≤ k ∧ k < 2 ^ 63 ∧ xs.length * k.toNat ≤ sizeLine ∧
  ∀ p, H p = none → Q (.ref p) (upd H p (.lst (List.replicate k.toNat xs).flatten))
theorem len_rep {α : Type} (xs : List α) (k : Nat) : (List.replicate k xs).flatten.length = k * xs.length := by
  induction k with
  | zero => simp
  | succ k ih => rw [List.replicate_succ, List.flatten_cons, List.length_append, ih, Nat.succ_mul, Nat.add_comm]
theorem op_rep : OpR X (binaryOp .Mult) rRep := by
  intro pins s σ H x y v u Q I rx ry h
  obtain ⟨l, k, xs, rfl, rfl, hH, h1, h2, hz, q⟩ := h
  cases rx
  obtain ⟨t, rfl⟩ := ry
  obtain ⟨z, its, n, r, hl, e⟩ := I.lstM hH
  have hlen : its.toArray.size * k.toNat ≤ sizeLine := by rw [List.size_toArray, ← hl]; exact hz
  have hcap : ¬ its.toArray.size * k.toNat > (2 ^ 63 - 1) / 8 := by
    have : (sizeLine : Nat) ≤ (2 ^ 63 - 1) / 8 := by decide
    omega
  have hfit : ¬ (!Builtin.List.listFitsIndex k) = true := by
    rw [fitsIndex_both h1 h2]
    exact Bool.false_ne_true
  have hlong : ¬ Builtin.List.listTooLong (its.toArray.size * k.toNat) = true := by
    rw [notLongL hlen]
    exact Bool.false_ne_true
  have hnew : List.foldl (fun x1 x2 => x1 ++ x2) #[] (List.replicate (if its.toArray.isEmpty = true then 0 else k.toNat) its.toArray) = (List.replicate k.toNat its).flatten.toArray := by
    have f0 : ∀ m : Nat, List.foldl (fun x1 x2 => x1 ++ x2) #[] (List.replicate m its.toArray) = (List.replicate m its).flatten.toArray := fun m => by
      have := foldl_rep its m []
      rw [List.nil_append] at this
      exact this
    rw [f0]
    cases its with
    | nil => simp
    | cons a r' => rw [if_neg (by simp)]
  refine wpAny_binaryOp_repeat_ref (T := "list") (U := "int") (by decide) ⟨_, e, rfl⟩ (fun s' => typeIs_int s' k t) noFill_list_mul F.fills_int_mul F.slot_int_rmul repeat_list F.slot_int_index.lookup
    (call_meets F.slot_int_rmul (typeIs_int s k t) F.entry_int_rmul (F.args_int_rmul_2 _ _) (int___rmul___int_list k t l its.toArray n)
      ⟨e, rfl, ⟨_, e, rfl⟩, call_meets F.slot_list_mul ⟨_, e, rfl⟩ F.entry_list_mul (F.args_list_mul_2 _ _) (AutoListH.list___mul___list_int_3 l its.toArray n k t hfit hcap hlong) ⟨e, ?_⟩⟩)
  rw [hnew]
  exact ⟨.ref _, _, I.lnew (t' := s.toks) (r.rep k.toNat) (by rw [len_rep, Nat.mul_comm]; exact hz), rfl, q _ I.fresh⟩
end
section
variable {prog : Program} {w : World} {A : Around} {E : Value → Shared → Prop} {s : Shared}
end
section
variable {X : Cx}
end
end L2
namespace Att
open PySem PySem.W PySem.Calls PyProof.Rows
theorem ints_of_wellAll {P : Params} {h : Heap} : ∀ (ns : List Int) (vs : List Value), WellAll P h vs (ns.map WData.int) → IntsAre vs ns := by
  intro ns
  induction ns with
  | nil =>
    intro vs w
    rw [List.map_nil] at w
    cases w
    exact .nil
  | cons n ns ih =>
    intro vs w
    rw [List.map_cons] at w
    cases w with
    | cons a b =>
      cases a
      exact .cons _ _ (ih _ b)
theorem script_of {l : OpenLaw} {n : Nat} (hn : l.most = some n) {P : Params} {h : Heap} {args : List WData} {vals : List Value}
    (hpre : l.row.toRowW.claim.pre args = true) (hwl : WellAll P h vals args) :
    ∃ a vs ns, vals = [Value.ref a] ∧ args = [WData.list (ns.map WData.int)] ∧ h.get? a = some { cls := .type "list", data := .seq vs.toArray } ∧ IntsAre vs ns ∧ ns.length ≤ n := by
  have hsh : WShape.hasAll [] args [.list .int] = true := (pre_splitW hpre).1
  have hc : l.pre.holds [] { args := args } = true := (pre_splitW hpre).2
  obtain ⟨d, r, rfl, h1, h2⟩ := hasAllW_cons hsh
  obtain rfl := hasAllW_nil h2
  obtain ⟨xs, rfl, h3⟩ := hasW_list h1
  obtain ⟨ns, rfl⟩ := items_int h3
  have hlen : ns.length ≤ n := by
    unfold OpenLaw.pre at hc
    have h4 : (WTm.not (.lt (.lit (.int (n : Int))) (.len (.arg 0)))).holds [] { args := [.list (ns.map .int)] } = true := by
      have h4 := (holds_andW hc).1
      rw [hn] at h4
      exact h4
    have h5 := condW_of h4 (w_not (w_lt w_lit (w_len_list (w_arg rfl))))
    rw [List.length_map] at h5
    refine Nat.le_of_not_lt fun q => ?_
    have q' : (n : Int) < ((ns.length : Nat) : Int) := by omega
    first
      | (rw [decide_eq_true q'] at h5; exact absurd h5 (by decide))
      | (simp at h5; omega)
  cases hwl with
  | cons w1 w2 =>
    cases w2
    cases w1 with
    | list ho hall => exact ⟨_, _, ns, rfl, rfl, ho, ints_of_wellAll ns _ hall, hlen⟩
theorem post_true (l : OpenLaw) (args : List WData) : l.row.toRowW.claim.post args (.bool true) args = true :=
  postW_of (r := l.row.toRowW) (X := (true == true))
    (show WShape.has [] (.bool true) .bool = true by first | rfl | decide | simp [WShape.has, WShape.arms, WShape.armsAll])
    (show (WTm.eq .res (.lit (.bool true))).value [] { args := args, res := some (.bool true), after := args } = some (.bool (true == true)) from w_eq_bool (w_res rfl) w_lit) rfl
theorem attach_call {l : OpenLaw} {n : Nat} {q : Program} {loose : List Str} {XP : (Str → Option Value) → Heap → Prop} {YP : World → Heap → Prop} {d : DefRec}
    (hn : l.most = some n) (hdf : d.params.defaults = [])
    (call : ∀ (w : World) (s₀ s₁ : Shared) (mg mb : Str → Option Value) (fa : Addr) (o : Obj) (pm cd doc : Value) (a : Addr) (vs : List Value) (ns : List Int),
      Ground q loose [] XP w s₀ mg mb s₁.heap → YP w s₁.heap →
      s₁.heap.get? fa = some o → o.data = .func (docDef d.name d.params d.body d.scope pm cd doc) → s₁.heap.CodeRec cd d.name → mg d.name = some (.ref fa) →
      s₁.heap.get? a = some { cls := .type "list", data := .seq vs.toArray } → IntsAre vs ns → ns.length ≤ n → s₁.gens = #[] →
      codeAny (model l.prog w) callerA (.call (.ref fa) ⟨[.ref a], []⟩) (fun r s' => r = .ok (.ret (.bool true)) ∧ OldK s₁.heap s'.heap ∧ s'.os = s₁.os ∧ AllBare s'.gens) s₁) :
    WalkO q loose XP YP l.row.toRowW d [] (fun f vs => PySem.call f vs) := by
  intro w s₀ s₁ mg mb G Y fa o pm cd doc dV kV ho hd hcd hD hmg hg args vals as hpre hlay hrd hwl hlo
  obtain rfl : dV = .none := Dflts.none hD hdf
  obtain rfl : kV = .none := Dflts.noKw hD
  obtain ⟨a, vs, ns, rfl, rfl, hobj, hints, hlen⟩ := script_of hn hpre hwl
  refine enter_call (codeAny_mono (call w s₀ s₁ mg mb fa o pm cd doc a vs ns G Y ho (fd_plain hd) hcd hmg hobj hints hlen hg) fun r s' hq => ?_)
  obtain ⟨rfl, h2, h3, h4⟩ := hq
  exact ⟨.inl ⟨.bool true, .bool true, [], rfl, fun _ => rfl, .bool true, post_true l _, fun _ => ⟨List.Pairwise.nil, fun _ hm => (nomatch hm)⟩⟩, h2, h3, h4⟩
section
variable {prog : Program} {w : World} {A : Around} {E : Value → Shared → Prop} {s : Shared} {K : Frag}
end
end Att
namespace L2
open PySem PySem.Spec PyProof.Rows
theorem vals_ints : ∀ {vs : List Value} {ns : List Int}, IntsAre vs ns → Vals (ns.map V.int) vs
  | _, _, .nil => .nil
  | _, _, .cons n t h => .cons ⟨t, rfl⟩ (vals_ints h)
def Only (H : Hp) : Prop := ∀ b, H b = none ∨ ∃ o xs, H b = some (.frz o (.lst xs))
theorem law_call {P : Program} {w : World} {K : PySem.W.Frag} {mg mb : Str → Option Value} {CX : CXT} {k : Nat} {fa a : Addr} {fd : FuncData} {x : Str} {sp : Sp} {s₁ : Shared} {vs : List Value} {ns : List Int}
    (KX : K.In s₁.heap) (hns : s₁.heap.Ns mainGlobals mg) (hb : s₁.heap.Ns builtinsNs mb) (hbb : ∀ x : Str, x ≠ "__name__" → mb x = bootBuiltins x) (hlim : s₁.heap.NoLimit) (hg : s₁.gens = #[])
    (ha : s₁.heap.get? a = some { cls := .type "list", data := .seq vs.toArray }) (hi : IntsAre vs ns) (hl : ns.length ≤ sizeLine) (hr : Room k callerA)
    (F : ∀ base : Heap, K.In base → base.Ns mainGlobals mg → FnOk P w K mg base CX k fa fd [x] sp) (hbind : ∀ (s : Shared) (u : Value), BindsTo s fd ⟨[u], []⟩ [(x, u)])
    (hsp : ∀ H : Hp, Only H → SqL K H a (ns.map V.int) → sp [.ref a] H (fun v _ => v = .bl true) fun _ _ _ => False)
    (hCX : ∀ H e s', CX [] H s₁ (fun _ _ _ => False) e s' → False) :
    codeAny (model P w) callerA (.call (.ref fa) ⟨[.ref a], []⟩) (fun r s' => r = .ok (.ret (.bool true)) ∧ OldK s₁.heap s'.heap ∧ s'.os = s₁.os ∧ AllBare s'.gens) s₁ := by
  have rv := vals_ints hi
  have lenV := hi.length
  -- from an abstract heap in which nothing but the script may be tracked
  have core : ∀ H : Hp, Only H → SqL K H a (ns.map V.int) → HOk P w H s₁.heap → (∀ b, H b ≠ none → b = a) → (H a ≠ none → K.lookup a = none) →
      codeAny (model P w) callerA (.call (.ref fa) ⟨[.ref a], []⟩) (fun r s' => r = .ok (.ret (.bool true)) ∧ OldK s₁.heap s'.heap ∧ s'.os = s₁.os ∧ AllBare s'.gens) s₁ := by
    intro H hO hS hok hA hK
    have base_of : ∀ {b : Addr} {o : Obj}, s₁.heap.get? b = some o → H b = none → (hidT s₁.heap H).get? b = some o := fun e n => hidT_get e n
    have noA : ∀ {b : Addr} {o : Obj} {es : Array DictEntry} {ep : Nat}, s₁.heap.get? b = some o → o.data = .dict es ep → H b = none := fun {b o es ep} e d => by
      cases q : H b with
      | none => rfl
      | some u =>
        have e' : b = a := hA b (by rw [q]; simp)
        subst e'
        rw [ha] at e; cases e
        have d' : Data.seq vs.toArray _ = Data.dict es ep := d
        cases d'
    have nsK : ∀ {b : Addr} {m : Str → Option Value}, s₁.heap.Ns b m → (hidT s₁.heap H).Ns b m := fun {b m} ⟨o, es, ep, e, d, r⟩ => ⟨o, es, ep, base_of e (noA e d), d, r⟩
    have hKb : K.In (hidT s₁.heap H) := fun b o e => base_of (KX b o e) (by
      cases q : H b with
      | none => rfl
      | some u =>
        have e' : b = a := hA b (by rw [q]; simp)
        subst e'
        rw [hK (by rw [q]; simp)] at e; cases e)
    have hM : Mod K mg (hidT s₁.heap H) := ⟨hKb, nsK hns, ⟨mb, nsK hb, hbb⟩, let ⟨mc, h1, h2⟩ := hlim; ⟨mc, nsK h1, h2⟩⟩
    have e0 : Env0 P w K mg (hidT s₁.heap H) callerA [] s₁ H := ⟨rfl, hM, fun b o e => of_hidT e, Nat.le_of_eq (hidT_size _ _), trivial, fun b hb => absurd (show b ∈ ([] : List Addr) from hb) (by simp), hok, .of_eq hg⟩
    refine codeAny_mono ((F _ hKb (nsK hns)).run callerA [] s₁ H ⟨[.ref a], []⟩ [.ref a] [.ref a] _ _ hr e0 (hbind s₁ (.ref a)) (.cons rfl .nil) (hsp H hO hS)) fun r s' h => ?_
    cases r with
    | error e => exact (hCX H e s' h).elim
    | ok fl =>
      cases fl with
      | next => exact False.elim h
      | brk => exact False.elim h
      | cont => exact False.elim h
      | ret u =>
        obtain ⟨v, H', os, bare, un, hok', r', q⟩ := h
        have q' : v = .bl true := q
        subst q'
        obtain rfl : u = Value.bool true := r'
        refine ⟨rfl, OldK.of_keep fun b o e => ?_, os, bare⟩
        cases q : H b with
        | none => exact un.keep b o e q (by intro z; exact absurd (show b ∈ ([] : List Addr) from z) (by simp)) (by simp)
        | some u =>
          rcases hO b with z | ⟨ob, xs, z⟩
          · rw [q] at z; cases z
          · have z2 := un.frzs b ob _ z
            obtain ⟨e1, _⟩ := hok b _ z
            obtain ⟨e2, _⟩ := hok' b _ z2
            rw [e] at e1; cases e1
            exact e2
  cases hk : K.lookup a with
  | some o =>
    -- the script is one of the module's own objects
    have e := KX a o hk
    rw [ha] at e
    cases e
    refine core (fun _ => none) (fun _ => .inl rfl) (.inr ⟨_, vs.toArray, _, hk, rfl, rfl, rfl, by rw [List.size_toArray, lenV]; exact hl, by simpa using rv⟩) (fun b u z => by have z' : (none : Option HO) = some u := z; cases z') (fun b z => absurd rfl z) fun z => absurd rfl z
  | none =>
    refine core (fun b => if b = a then some (.frz { cls := .type "list", data := .seq vs.toArray } (.lst (ns.map V.int))) else none) (fun b => ?_) (.inl (.inr ⟨{ cls := .type "list", data := .seq vs.toArray }, if_pos rfl⟩)) (fun b u z => ?_) (fun b z => ?_) fun _ => hk
    · by_cases hb : b = a
      · exact .inr ⟨_, _, if_pos hb⟩
      · exact .inl (if_neg hb)
    · by_cases hb : b = a
      · have z' := (if_pos hb).symm.trans z
        cases z'
        subst hb
        exact ⟨ha, by rw [List.length_map]; exact hl, vs, _, rv, ha⟩
      · have z' := (if_neg hb).symm.trans z
        cases z'
    · by_cases hb : b = a
      · exact hb
      · exact absurd (if_neg hb) z
end L2
namespace L2
open PySem PySem.Spec PyProof.Rows
theorem walk_of {l : PySem.W.OpenLaw} {n k : Nat} {q : Program} {loose : List Str} {XP : (Str → Option Value) → Heap → Prop} {YP : World → Heap → Prop} {d : DefRec} {K : Params → PySem.W.Frag} {CX : World → CXT} {sp : World → Sp} {x : Str}
    (hn : l.most = some n) (hn2 : n ≤ sizeLine) (hdf : d.params.defaults = []) (hr : Room k callerA)
    (hY : ∀ (w : World) (h : Heap), YP w h → (K w.params).In h)
    (F : ∀ (w : World) (mg : Str → Option Value) (fa : Addr) (h : Heap), (K w.params).In h → h.Ns mainGlobals mg → mg d.name = some (.ref fa) →
      ∃ fd : FuncData, (∀ (s : Shared) (u : Value), BindsTo s fd ⟨[u], []⟩ [(x, u)]) ∧
        ∀ base : Heap, (K w.params).In base → base.Ns mainGlobals mg → FnOk l.prog w (K w.params) mg base (CX w) k fa fd [x] (sp w))
    (hsp : ∀ (w : World) (H : Hp) (a : Addr) (ns : List Int), ns.length ≤ n → Only H → SqL (K w.params) H a (ns.map V.int) → sp w [.ref a] H (fun v _ => v = .bl true) fun _ _ _ => False)
    (hCX : ∀ (w : World) (H : Hp) (s : Shared) (e : Value) (s' : Shared), CX w [] H s (fun _ _ _ => False) e s' → False) :
    PySem.W.WalkO q loose XP YP l.row.toRowW d [] (fun f vs => PySem.call f vs) := by
  refine Att.attach_call hn hdf fun w s₀ s₁ mg mb fa o pm cd doc a vs ns G Y ho hd hcd hmg hobj hints hlen hg => ?_
  have KX := hY w _ Y
  obtain ⟨fd, hb, hF⟩ := F w mg fa _ KX G.T.g hmg
  exact law_call KX G.T.g G.T.b G.T.builtins G.T.nolimit hg hobj hints (Nat.le_trans hlen hn2) hr hF hb (fun H hO hS => hsp w H a ns hlen hO hS) fun H e s' => hCX w H s₁ e s'
end L2
/- THE LAST THEOREM (shape; LID, My.* are yours):
   My.Adr: a structure of the addresses that your layer names (classes, functions); My.Txt K t: a structure (Prop) of the equations over K;
   My.txt_mk : {K} {implicit addresses ..} (e1 : nsIn K mainGlobals "law" = some (some (.ref f))) (e2 : K.lookup f = some ⟨oc, od, .func (fnOf "law" "law" params body scope dV kV doc pm an cdv ct), sl⟩) (e3 : codeIn K cdv "law" = true) .. : ∃ t, My.Txt K t
(the tactic k_is has no namespace: write k_is) -/
namespace L2
open PySem PySem.Spec PyProof.Rows
def defArgs (s : Stmt) : Arguments := match s with
  | .FunctionDef _ a _ _ _ _ _ _ _ _ => a
  | _ => { posonlyargs := [], args := [], vararg := none, kwonlyargs := [], kw_defaults := [], kwarg := none, defaults := [] }
def defBody (s : Stmt) : List Stmt := match s with
  | .FunctionDef _ _ b _ _ _ _ _ _ _ => b
  | _ => []
def defScope (s : Stmt) : Scope := match s with
  | .FunctionDef _ _ _ _ _ _ sc _ _ _ => sc
  | _ => { kind := .function, names := [], isGenerator := false, isCoroutine := false }
abbrev CX0 : CXT := fun _ _ _ _ _ _ => False
abbrev E0 : XK := fun _ _ _ => False
theorem pass0 {X : Cx} : Passes CX0 X E0 := fun _ _ _ _ _ _ _ h => h.elim
structure Fun (K : PySem.W.Frag) (x qual : Str) (st : Stmt) (f : Addr) (fd : FuncData) : Prop where
  ex : ∃ (oc : Value) (od : Option Addr) (kV doc pm : Value) (an : Option Addr) (cdv ct : Value) (osl : Array (Option Value)),
    fd = PySem.W.fnOf x qual (defArgs st) (defBody st) (defScope st) .none kV doc pm an cdv ct ∧ K.lookup f = some ⟨oc, od, .func fd, osl⟩ ∧ PySem.W.codeIn K cdv qual = true
  kp : PySem.W.keepIn K (.ref f) = true
section
variable {P : Program} {w : World} {K : PySem.W.Frag} {mg : Str → Option Value} {base : Heap}
theorem Fun.ok {x qual : Str} {st : Stmt} {f : Addr} {fd : FuncData} {N ps : List Str} {k : Nat} {sp : Sp} (F : Fun K x qual st f fd) (S : FnScope N ps (defScope st)) (len : ∀ vs H Q E, sp vs H Q E → vs.length = ps.length)
    (hbody : ∀ (cdv : Value) (A : Around) (outer : List Env) (s : Shared) (H : Hp) (vs : List V) (Q : VK) (E : XK), Room k (A.deeper (envOfC qual (defScope st) s.heap.objs.size f cdv)) → sp vs H Q E →
      ∃ t, PSs (cxOf CX0 P w K mg base N qual (defScope st) f cdv A outer s H E).nox (defBody st) t ∧ t { nx := fun _ H' => Q .non H', rt := Q } (start N vs) H) : FnOk P w K mg base CX0 (k + 1) f fd ps sp := by
  obtain ⟨oc, od, kV, doc, pm, an, cdv, ct, osl, rfl, lk, hcd⟩ := F.ex
  refine fn_of lk hcd S len fun A outer s H vs Q E hr hsp => ?_
  obtain ⟨t, h, q⟩ := hbody cdv A outer s H vs Q E hr hsp
  exact ⟨t, h.nox, q⟩
theorem Fun.binds {x qual : Str} {st : Stmt} {f : Addr} {fd : FuncData} {ps : List Str} (F : Fun K x qual st f fd)
    (h : ∀ (kV doc pm : Value) (an : Option Addr) (cdv ct : Value) (us : List Value), us.length = ps.length → bindArgs (PySem.W.fnOf x qual (defArgs st) (defBody st) (defScope st) .none kV doc pm an cdv ct) ⟨us, []⟩ = pure (ps.zip us)) : Binds K fd ps [] := by
  obtain ⟨oc, od, kV, doc, pm, an, cdv, ct, osl, rfl, lk, hcd⟩ := F.ex
  exact .all (h kV doc pm an cdv ct)
theorem fun_mk {x qual : Str} {st : Stmt} {f : Addr} {oc : Value} {od an : Option Addr} {osl : Array (Option Value)} {kV doc pm cdv ct : Value} (l : K.lookup f = some ⟨oc, od, .func (PySem.W.fnOf x qual (defArgs st) (defBody st) (defScope st) .none kV doc pm an cdv ct), osl⟩)
    (c : PySem.W.codeIn K cdv qual = true) (k : PySem.W.keepIn K (.ref f) = true) : Fun K x qual st f (PySem.W.fnOf x qual (defArgs st) (defBody st) (defScope st) .none kV doc pm an cdv ct) := ⟨⟨oc, od, kV, doc, pm, an, cdv, ct, osl, rfl, l, c⟩, k⟩
end
theorem hu_of {A : Around} {k : Nat} (hr : Room k A) : A.units + 1 < cLine := Nat.lt_of_le_of_lt (Nat.add_le_add_left (by decide : 1 ≤ 64) _) hr.units
section
variable {X : Cx}
theorem pv (i : Nat) {x : Str} {pos : Pos} (hN : X.N[i]? = some x := by rfl) (hv : Vis X.env.scope x := by first | exact Or.inl rfl | exact Or.inr (Or.inl rfl) | exact Or.inr (Or.inr rfl)) (hd : (x == ("__debug__" : Str)) = false := by decide)
    (hcd : (x == ("__classdict__" : Str)) = false := by decide) : PE X (.Name x pos) (tVar i) := pe_var hN hv hd hcd
end
theorem ite2 {c A B : Prop} [Decidable c] (h1 : c → A) (h2 : ¬ c → B) : if c then A else B := by
  by_cases h : c
  · rw [if_pos h]
    exact h1 h
  · rw [if_neg h]
    exact h2 h
end L2
namespace L2
open PySem PySem.Spec PyProof.Rows
section
variable {κ : Type} [DecidableEq κ]
end
section
variable {P : Program} {w : World} {H : Hp} {h : Heap} {a : Addr}
end
section
variable {X : Cx} {pins : List (Addr × Obj)} {σ : St} {H : Hp} {s : Shared} {a : Addr} {y v : V} {u r : Value} {o : Option V} {A : Around} {E : Value → Shared → Prop}
end
section
variable {X : Cx} {pins : List (Addr × Obj)} {σ : St} {H : Hp} {s : Shared} {a : Addr} {kvs : List (Key × V)} {k : Key} {u : Value} {A : Around} {E : Value → Shared → Prop}
end
section
variable {X : Cx} {o i e value : Expr} {pos pos' tpos : Pos} {td ty tv : TE}
end
section
variable {X : Cx} {pos : Pos}
end
section
variable {X : Cx} {pins : List (Addr × Obj)} {σ : St} {H : Hp} {s : Shared} {a : Addr} {y d : V} {u r : Value} {o : Option V} {A : Around} {E : Value → Shared → Prop}
end
section
variable {X : Cx} {o e f : Expr} {apos cpos : Pos} {td ty tx : TE}
end
section
variable {X : Cx} {pins : List (Addr × Obj)} {σ : St} {H : Hp} {s : Shared} {a : Addr} {kvs : List (Key × V)} {A : Around} {E : Value → Shared → Prop}
end
section
variable {X : Cx} {pins : List (Addr × Obj)} {σ : St} {H : Hp} {s : Shared} {a : Addr} {y : V} {u : Value} {A : Around} {E : Value → Shared → Prop}
end
end L2
namespace L2
open PySem PySem.Spec PyProof.Rows
section
variable {κ : Type} [DecidableEq κ]
end
end L2
set_option Elab.async false
set_option linter.all false
set_option maxRecDepth 100000
set_option maxHeartbeats 4000000
namespace L2
open PySem PySem.Spec PyProof.Rows
structure Kp (S : List Addr) (H H' : Hp) : Prop where
  old : ∀ a o, H a = some o → a ∉ S → H' a = some o
  tup : ∀ a xs, H a = some (.tup xs) → H' a = some (.tup xs)
  dom : ∀ a o, H a = some o → ∃ o', H' a = some o'
theorem Kp.refl (S : List Addr) (H : Hp) : Kp S H H := ⟨fun _ _ e _ => e, fun _ _ e => e, fun _ o e => ⟨o, e⟩⟩
theorem Kp.trans {S : List Addr} {H H1 H2 : Hp} (a : Kp S H H1) (b : Kp S H1 H2) : Kp S H H2 :=
  ⟨fun c o e n => b.old c o (a.old c o e n) n, fun c xs e => b.tup c xs (a.tup c xs e), fun c o e => let ⟨o', e'⟩ := a.dom c o e; b.dom c o' e'⟩
theorem Kp.mono {S S' : List Addr} {H H1 : Hp} (a : Kp S H H1) (h : ∀ x ∈ S, x ∈ S') : Kp S' H H1 := ⟨fun c o e n => a.old c o e fun z => n (h c z), a.tup, a.dom⟩
theorem Kp.free {S : List Addr} {H H1 : Hp} (k : Kp S H H1) {p : Addr} (h : H1 p = none) : H p = none := by
  cases e : H p with
  | none => rfl
  | some o => obtain ⟨o', e'⟩ := k.dom p o e; rw [h] at e'; cases e'
theorem Kp.trans' {S S' : List Addr} {H H1 H2 : Hp} (a : Kp S H H1) (b : Kp S' H1 H2) (h : ∀ x ∈ S', x ∈ S ∨ H x = none) : Kp S H H2 :=
  ⟨fun c o e n => b.old c o (a.old c o e n) fun z => by
    rcases h c z with q | q
    · exact n q
    · (rw [q] at e; exact nomatch e), fun c xs e => b.tup c xs (a.tup c xs e), fun c o e => let ⟨o', e'⟩ := a.dom c o e; b.dom c o' e'⟩
theorem Kp.new {S : List Addr} {H H1 : Hp} (k : Kp S H H1) {p : Addr} {o : HO} (h : H1 p = none) : Kp S H (upd H1 p o) :=
  ⟨fun c u e n => by rw [upd_ne (ne_of_none (k.old c u e n) h)]; exact k.old c u e n, fun c xs e => by rw [upd_ne (ne_of_none (k.tup c xs e) h)]; exact k.tup c xs e,
    fun c u e => by
      obtain ⟨o', e'⟩ := k.dom c u e
      exact ⟨o', by rw [upd_ne (ne_of_none e' h)]; exact e'⟩⟩
theorem Kp.set {S : List Addr} {H H1 : Hp} (k : Kp S H H1) {b : Addr} {xs : List V} {o : HO} (hb : H1 b = some (.lst xs)) (h : b ∈ S ∨ H b = none) : Kp S H (upd H1 b o) :=
  ⟨fun c u e n => by
    have : c ≠ b := by
      rintro rfl
      rcases h with h | h
      · exact n h
      · rw [h] at e; cases e
    rw [upd_ne this]; exact k.old c u e n,
   fun c ys e => by
    have e1 := k.tup c ys e
    rw [upd_ne (ne_of e1 hb (by intro z; cases z))]; exact e1,
   fun c u e => by
    obtain ⟨o', e'⟩ := k.dom c u e
    by_cases q : c = b
    · subst q; exact ⟨o, upd_same⟩
    · exact ⟨o', by rw [upd_ne q]; exact e'⟩⟩
def lstOf : Option HO → Option (List V)
  | some (.lst xs) => some xs
  | _ => none
def tupOf : Option HO → Option (List V)
  | some (.tup xs) => some xs
  | _ => none
def seqOf : Option HO → Option (List V)
  | some (.lst xs) => some xs
  | some (.tup xs) => some xs
  | _ => none
theorem lstOf_lst (xs : List V) : lstOf (some (.lst xs)) = some xs := rfl
theorem tupOf_tup (xs : List V) : tupOf (some (.tup xs)) = some xs := rfl
theorem seqOf_lst (xs : List V) : seqOf (some (.lst xs)) = some xs := rfl
theorem seqOf_tup (xs : List V) : seqOf (some (.tup xs)) = some xs := rfl
theorem of_lstOf {o : Option HO} {xs : List V} (h : lstOf o = some xs) : o = some (.lst xs) := by
  unfold lstOf at h
  split at h
  · cases h; rfl
  · cases h
theorem of_tupOf {o : Option HO} {xs : List V} (h : tupOf o = some xs) : o = some (.tup xs) := by
  unfold tupOf at h
  split at h
  · cases h; rfl
  · cases h
theorem of_seqOf {o : Option HO} {xs : List V} (h : seqOf o = some xs) : o = some (.lst xs) ∨ o = some (.tup xs) := by
  unfold seqOf at h
  split at h
  · cases h; exact .inl rfl
  · cases h; exact .inr rfl
  · cases h
section
variable {X : Cx}
def rLtU : R2 := fun x y H Q => match x, y with
  | .int i, .int j => Q (.bl (decide (i < j))) H
  | .str i, .str j => Q (.bl (decide (i.cps.toList < j.cps.toList))) H
  | _, _ => False
theorem op_ltU : OpR X (compareOp .Lt) rLtU := by
  intro pins s σ H x y v u Q I rx ry h
  cases x with
  | int i => cases y with
    | int j => exact op_lt pins s σ H _ _ v u Q I rx ry ⟨i, j, rfl, rfl, h⟩
    | _ => exact False.elim h
  | str i => cases y with
    | str j => exact op_lt_str pins s σ H _ _ v u Q I rx ry ⟨i, j, rfl, rfl, h⟩
    | _ => exact False.elim h
  | _ => exact False.elim h
def rIxU : R2 := fun x y H Q => match x, y with
  | .str z, .int i => z.length ≤ sizeLine ∧ ∃ c, atI z.cps.toList i = some c ∧ Q (.str ⟨#[c]⟩) H
  | .ref p, .int i => ∃ xs, seqOf (H p) = some xs ∧ ∃ v, atI xs i = some v ∧ Q v H
  | _, _ => False
theorem ix_U : IxR X rIxU := by
  intro value slice pins s σ H x y v u Q I rx ry h hs
  cases x with
  | str z => cases y with
    | int i => obtain ⟨h1, c, h2, h3⟩ := h; exact ix_str value slice pins s σ H _ _ v u Q I rx ry ⟨z, i, c, rfl, rfl, h1, h2, h3⟩ hs
    | _ => exact False.elim h
  | ref p => cases y with
    | int i =>
      obtain ⟨xs, e, w, h2, h3⟩ := h
      rcases of_seqOf e with e | e
      · exact ix_list value slice pins s σ H _ _ v u Q I rx ry ⟨p, xs, i, w, rfl, rfl, SqL.of e, h2, h3⟩ hs
      · exact ix_tup value slice pins s σ H _ _ v u Q I rx ry ⟨p, xs, i, w, rfl, rfl, SqT.of e, h2, h3⟩ hs
    | _ => exact False.elim h
  | _ => exact False.elim h
theorem atI_0 {α : Type} (x : α) (r : List α) : atI (x :: r) 0 = some x := atI_nat (j := 0) rfl
theorem atI_1 {α : Type} (x y : α) (r : List α) : atI (x :: y :: r) 1 = some y := atI_nat (j := 1) rfl
theorem atI_2 {α : Type} (x y z : α) (r : List α) : atI (x :: y :: z :: r) 2 = some z := atI_nat (j := 2) rfl
theorem atI_of {α : Type} {xs : List α} {i : Int} {v : α} (h0 : 0 ≤ i) (h : xs[i.toNat]? = some v) : atI xs i = some v := by
  have := atI_nat (xs := xs) (j := i.toNat) h
  rwa [Int.toNat_of_nonneg h0] at this
def rSetU : V → V → V → Hp → (Hp → Prop) → Prop := fun o i v H Q => match o, i with
  | .ref p, .int k => ∃ xs, lstOf (H p) = some xs ∧ ∃ j, ixN xs.length k = some j ∧ Q (upd H p (.lst (xs.set j v)))
  | _, _ => False
theorem set_U : PSet X rSetU := by
  intro pins s σ H o i v ov iv u Q I ro ri rv h
  cases o with
  | ref p => cases i with
    | int k =>
      obtain ⟨xs, e, j, h1, h2⟩ := h
      exact set_list pins s σ H _ _ v ov iv u Q I ro ri rv ⟨p, xs, k, j, rfl, rfl, of_lstOf e, h1, h2⟩
    | _ => exact False.elim h
  | _ => exact False.elim h
def rLenU : List V → Hp → VK → Prop := fun xs H Q => match xs with
  | [.str z] => z.length ≤ sizeLine ∧ Q (.int z.length) H
  | [.ref p] => ∃ ys, seqOf (H p) = some ys ∧ Q (.int ys.length) H
  | _ => False
theorem call_lenU : CallR X (.builtin "len") rLenU := by
  intro pins s σ H xs us Q I r h
  unfold rLenU at h
  split at h
  · rename_i z; exact call_len_str pins s σ H _ us Q I r ⟨z, rfl, h⟩
  · rename_i p
    obtain ⟨ys, e, h⟩ := h
    rcases of_seqOf e with e | e
    · exact call_len_seq pins s σ H _ us Q I r ⟨p, ys, rfl, .inl (SqL.of e), h⟩
    · exact call_len_seq pins s σ H _ us Q I r ⟨p, ys, rfl, .inr (SqT.of e), h⟩
  · exact h.elim
def rIntU : List V → Hp → VK → Prop := fun xs H Q => match xs with
  | [.int i] => Q (.int i) H
  | [.bl k] => Q (.int (if k then 1 else 0)) H
  | _ => False
theorem call_intU : CallR X (.type "int") rIntU := by
  intro pins s σ H xs us Q I r h
  unfold rIntU at h
  split at h
  · rename_i i; exact call_int1 pins s σ H _ us Q I r (.inl ⟨i, rfl, h⟩)
  · rename_i k; exact call_int1 pins s σ H _ us Q I r (.inr ⟨k, rfl, h⟩)
  · exact h.elim
def sgn (z : Str) : List V := z.cps.toList.map fun c => V.str ⟨#[c]⟩
theorem sgn_len (z : Str) : (sgn z).length = z.length := by simp [sgn, Str.length]
theorem vals_sgn {z : Str} {acc : Array Value} (h : ItemsOf (SignAt z) acc z.cps.size) : Vals (sgn z) acc.toList := by
  obtain ⟨h1, h2⟩ := h
  have hl : (sgn z).length = acc.toList.length := by simp [sgn, h1]
  have gen : ∀ (xs : List V) (us : List Value), xs.length = us.length → (∀ (i : Nat) (x : V) (u : Value), xs[i]? = some x → us[i]? = some u → RelV x u) → Vals xs us := by
    intro xs
    induction xs with
    | nil => intro us hl _; cases us with
      | nil => exact .nil
      | cons _ _ => simp at hl
    | cons x xs ih => intro us hl h; cases us with
      | nil => simp at hl
      | cons u us => exact .cons (h 0 x u rfl rfl) (ih us (by simpa using hl) fun i a b e1 e2 => h (i + 1) a b (by simpa using e1) (by simpa using e2))
  refine gen _ _ hl fun i x u e1 e2 => ?_
  obtain ⟨c, t, hc, hu⟩ := h2 i u (by simpa using e2)
  subst hu
  simp only [sgn, List.getElem?_map] at e1
  have : z.cps.toList[i]? = some c := by simpa using hc
  rw [this] at e1
  have e1' : V.str ⟨#[c]⟩ = x := Option.some.inj e1
  subst e1'
  exact ⟨t, rfl⟩
def rListU : List V → Hp → VK → Prop := fun xs H Q => match xs with
  | [.str z] => z.length ≤ sizeLine ∧ ∀ l, H l = none → Q (.ref l) (upd H l (.lst (sgn z)))
  | [.ref p] => ∃ ys, seqOf (H p) = some ys ∧ ∀ l, H l = none → Q (.ref l) (upd H l (.lst ys))
  | _ => False
theorem call_listU (hc : X.calm = true) : CallR X (.type "list") rListU := by
  intro pins s σ H xs us Q I r h
  unfold rListU at h
  split at h
  · rename_i z
    obtain ⟨u, rfl, t, rfl⟩ := vals1 r
    obtain ⟨hz, q⟩ := h
    refine call_list_str (I.ok.hd hc) z t (fun h' tk acc c hk hn hi => ?_) hz
    have hf := I.hok.fresh (Nat.le_refl s.heap.objs.size)
    refine ⟨.ref s.heap.objs.size, upd H s.heap.objs.size (.lst (sgn z)), I.laid hk (Nat.le_refl _) ⟨by rw [sgn_len]; exact hz, acc.toList, c, vals_sgn hi, by simpa using hn⟩, rfl, q _ hf⟩
  · rename_i p
    obtain ⟨ys, e, h⟩ := h
    rcases of_seqOf e with e | e
    · exact call_list_of pins s σ H _ us Q I r ⟨p, ys, rfl, .inl (SqL.of e), h⟩
    · exact call_list_of pins s σ H _ us Q I r ⟨p, ys, rfl, .inr (SqT.of e), h⟩
  · exact h.elim
def rPopU : V → List V → Hp → VK → Prop := fun x vs H Q => match x, vs with
  | .ref l, [.int i] => ∃ xs, lstOf (H l) = some xs ∧ 0 ≤ i ∧ ∃ y, xs[i.toNat]? = some y ∧ Q y (upd H l (.lst (xs.eraseIdx i.toNat)))
  | _, _ => False
theorem mt_popU : MtM X "list.pop" rPopU := by
  intro pins s σ H x vs v us Q I rx rv h
  unfold rPopU at h
  split at h
  · rename_i l i
    obtain ⟨xs, e, h0, y, hy, q⟩ := h
    have e := of_lstOf e
    have hz := (I.lstM e).1
    have hlt : i.toNat < xs.length := (List.getElem?_eq_some_iff.mp hy).1
    have hs : sizeLine = 16777216 := sizeLine_eq
    refine mt_popAt pins s σ H _ _ v us Q I rx rv ⟨l, xs, i, i.toNat, y, rfl, rfl, e, by omega, by omega, ?_, hy, q⟩
    exact seqIndex_of h0 (by omega)
  · exact h.elim
def rIsU (K : PySem.W.Frag) : List V → Hp → VK → Prop := fun xs H Q => match xs with
  | [x, .ty c] => ∃ t b, TyOf K H x t ∧ PySem.W.kitOne K t (.type c) = some b ∧ Q (.bl b) H
  | _ => False
theorem call_isinstanceU : CallR X (.builtin "isinstance") (rIsU X.K) := by
  intro pins s σ H xs us Q I r h
  unfold rIsU at h
  split at h
  · rename_i x c
    obtain ⟨t, b, ty, e, q⟩ := h
    obtain ⟨u, w', rfl, rx, rc⟩ := vals2 r
    cases rc
    exact isinst_ok I rx ty e fun tk => ⟨.bl b, H, I.tok tk, rfl, q⟩
  · exact h.elim
def ItS (z : Str) : It := ⟨fun i _ => i < z.length, fun i H x H' => H' = H ∧ ∃ c, z.cps.toList[i]? = some c ∧ x = .str ⟨#[c]⟩, fun i _ => z.length ≤ i⟩
theorem turn_strA {P : Program} {w : World} {K : PySem.W.Frag} {tg : Expr} (z : Str) (t : Tok) (it : Addr) : Turn P w K tg (ItS z) [it] it (fun i h => h.IsStrIter it "str_ascii_iterator" z t i) where
  mem := by simp
  obj := fun i h st b hb => by
    have e : b = it := by simpa using hb
    subst e
    obtain ⟨o, e, c, d⟩ := st
    exact ⟨o, e, fun v z => by rw [d] at z; cases z⟩
  keep := fun i h h' st k => let ⟨o, ho, r⟩ := st; ⟨o, k it (by simp) o ho, r⟩
  item := by
    intro X hP hw hK hc i pins s σ H E I hf st hg
    subst hP hw hK
    obtain ⟨f0, f1, f2, f3, f4, f5⟩ := hf it (by simp)
    have hi : i < z.cps.size := hg
    refine wpAny_pyNext_ascii_item st (c := z.cps[i]) (by simp [hi]) fun h' st' sb => ?_
    have I1 : Inv X pins σ H { s with heap := h', toks := s.toks + 1 } := I.turned (t' := s.toks + 1) (fun b o hb e => (sb.2 b hb).trans e) f0 f1 f3 f4 f5
    obtain ⟨o, e, c, d⟩ := id st'
    exact ⟨_, rfl, go_of (s := { s with heap := h', toks := s.toks + 1 }) e c d (by decide) ⟨.str ⟨#[z.cps[i]]⟩, H, I1, ⟨_, rfl⟩, ⟨rfl, _, by simp [hi], rfl⟩, st', fun b hb => (hf b hb).1⟩⟩
  done := by
    intro X hP hw hK hc i pins s σ H E I hf st hg
    subst hP hw hK
    obtain ⟨f0, f1, f2, f3, f4, f5⟩ := hf it (by simp)
    have hi : z.cps.size ≤ i := hg
    exact wpAny_pyNext_ascii_end (I.ok.hd hc) st (by simp [hi]) fun h' eb => ⟨rfl, I.turned (t' := s.toks) (fun b o hb e => eb b o hb e) f0 f1 f3 f4 f5⟩
  self := fun _ _ _ _ _ st h => wpAny_pyIter_striter_ascii st h
theorem turn_strW {P : Program} {w : World} {K : PySem.W.Frag} {tg : Expr} (z : Str) (t : Tok) (it : Addr) : Turn P w K tg (ItS z) [it] it (fun i h => h.IsStrIter it "str_iterator" z t i) where
  mem := by simp
  obj := fun i h st b hb => by
    have e : b = it := by simpa using hb
    subst e
    obtain ⟨o, e, c, d⟩ := st
    exact ⟨o, e, fun v z => by rw [d] at z; cases z⟩
  keep := fun i h h' st k => let ⟨o, ho, r⟩ := st; ⟨o, k it (by simp) o ho, r⟩
  item := by
    intro X hP hw hK hc i pins s σ H E I hf st hg
    subst hP hw hK
    obtain ⟨f0, f1, f2, f3, f4, f5⟩ := hf it (by simp)
    have hi : i < z.cps.size := hg
    refine wpAny_pyNext_wide_item st (c := z.cps[i]) (by simp [hi]) fun h' st' sb => ?_
    have I1 : Inv X pins σ H { s with heap := h', toks := s.toks + 1 } := I.turned (t' := s.toks + 1) (fun b o hb e => (sb.2 b hb).trans e) f0 f1 f3 f4 f5
    obtain ⟨o, e, c, d⟩ := id st'
    exact ⟨_, rfl, go_of (s := { s with heap := h', toks := s.toks + 1 }) e c d (by decide) ⟨.str ⟨#[z.cps[i]]⟩, H, I1, ⟨_, rfl⟩, ⟨rfl, _, by simp [hi], rfl⟩, st', fun b hb => (hf b hb).1⟩⟩
  done := by
    intro X hP hw hK hc i pins s σ H E I hf st hg
    subst hP hw hK
    obtain ⟨f0, f1, f2, f3, f4, f5⟩ := hf it (by simp)
    have hi : z.cps.size ≤ i := hg
    exact wpAny_pyNext_wide_end (I.ok.hd hc) st (by simp [hi]) fun h' eb => ⟨rfl, I.turned (t' := s.toks) (fun b o hb e => eb b o hb e) f0 f1 f3 f4 f5⟩
  self := fun _ _ _ _ _ st h => wpAny_pyIter_striter_wide st h
def iAny (K : PySem.W.Frag) (t : TE) : TI := fun σ H R => t σ H fun x H1 => match x with
  | .str z => R (ItS z) H1
  | .ref a => match H1 a with
    | some (.lst _) => R (Itl K a) H1
    | some (.tup _) => R (Itt K a) H1
    | _ => False
  | _ => False
theorem pi_any {tg l : Expr} {tl : TE} (hl : PE X l tl) : PI X tg l (iAny X.K tl) := by
  intro pins s σ H R I h
  refine thn (hl pins s σ H _ I h) fun v s1 ⟨x, H1, I1, r1, q1⟩ => ?_
  cases x with
  | str z =>
    obtain ⟨t, rfl⟩ := r1
    have fr : ∀ b ∈ [s1.heap.objs.size], FpOk X pins H1 b := fun b hb => by
      have e : b = s1.heap.objs.size := by simpa using hb
      subst e
      exact I1.fpOk (Nat.le_refl _) (I1.hok.fresh (Nat.le_refl _))
    cases ha : z.cps.all (· < 128)
    · exact wpAny_pyIter_wide ha ⟨s1.heap.objs.size, [s1.heap.objs.size], _, _, H1, rfl, I1.kept (t' := s1.toks) fun b o e => Heap.get?_push_of_some _ e, turn_strW z t _, ⟨_, Heap.get?_push_size _ rfl, rfl, rfl⟩, fr, q1⟩
    · exact wpAny_pyIter_ascii ha ⟨s1.heap.objs.size, [s1.heap.objs.size], _, _, H1, rfl, I1.kept (t' := s1.toks) fun b o e => Heap.get?_push_of_some _ e, turn_strA z t _, ⟨_, Heap.get?_push_size _ rfl, rfl, rfl⟩, fr, q1⟩
  | ref a =>
    cases r1
    have fr : ∀ b ∈ [s1.heap.objs.size], FpOk X pins H1 b := fun b hb => by
      have e : b = s1.heap.objs.size := by simpa using hb
      subst e
      exact I1.fpOk (Nat.le_refl _) (I1.hok.fresh (Nat.le_refl _))
    simp only at q1
    split at q1
    · rename_i xs e
      obtain ⟨its, rv, p, hz⟩ := I1.list (SqL.of e)
      exact wpAny_pyIter_list p.isList ⟨s1.heap.objs.size, [s1.heap.objs.size], _, _, H1, rfl, I1.kept (t' := s1.toks) fun b o e => Heap.get?_push_of_some _ e, turn_list a _, ⟨_, Heap.get?_push_size _ rfl, rfl, rfl⟩, fr, q1⟩
    · rename_i xs e
      obtain ⟨its, rv, p, hz⟩ := I1.tuple (SqT.of e)
      exact wpAny_pyIter_tuple (show s1.heap.IsTuple a its.toArray from p) ⟨s1.heap.objs.size, [s1.heap.objs.size], _, _, H1, rfl, I1.kept (t' := s1.toks) fun b o e => Heap.get?_push_of_some _ e, turn_tuple a _, ⟨_, Heap.get?_push_size _ rfl, rfl, rfl⟩, fr, q1⟩
    · exact q1.elim
  | _ => exact False.elim q1
mutual
def Rep (H : Hp) : V → PyData → Prop
  | v, .none => v = .non
  | v, .bool b => v = .bl b
  | v, .int i => v = .int i
  | v, .str x => v = .str x
  | v, .list ds => ∃ a vs, v = .ref a ∧ H a = some (.lst vs) ∧ Reps H vs ds
  | v, .tuple ds => ∃ a vs, v = .ref a ∧ H a = some (.tup vs) ∧ Reps H vs ds
  | _, .dict _ => False
def Reps (H : Hp) : List V → List PyData → Prop
  | [], [] => True
  | v :: vs, d :: ds => Rep H v d ∧ Reps H vs ds
  | _, _ => False
end
theorem Reps.strs (H : Hp) : ∀ l : List Str, Reps H (l.map V.str) (l.map PyData.str)
  | [] => by simp [Reps]
  | x :: r => by simp [Reps, Rep, Reps.strs H r]
section
variable {pins : List (Addr × Obj)} {σ : L2.St} {H : Hp} {s : Shared}
mutual
theorem Rep.reads (I : Inv X pins σ H s) : ∀ {d : PyData} {v : V} {u : Value}, Rep H v d → RelV v u → ∃ as, Reads s.heap u d as
  | .none, v, u, h, r => by simp only [Rep] at h; subst h; cases r; exact ⟨_, .none⟩
  | .bool b, v, u, h, r => by simp only [Rep] at h; subst h; cases r; exact ⟨_, .bool b⟩
  | .int i, v, u, h, r => by simp only [Rep] at h; subst h; obtain ⟨t, rfl⟩ := r; exact ⟨_, .int i t⟩
  | .str x, v, u, h, r => by simp only [Rep] at h; subst h; obtain ⟨t, rfl⟩ := r; exact ⟨_, .str x t⟩
  | .list ds, v, u, h, r => by
    simp only [Rep] at h
    obtain ⟨a, vs, rfl, e, h⟩ := h
    cases r
    obtain ⟨its, rv, ⟨o, n, e1, e2, e3, e4⟩, hz⟩ := I.list (SqL.of e)
    obtain ⟨as, q⟩ := Reps.reads I h rv
    exact ⟨_, reads_list_at e1 e2 e4 (by simpa using q)⟩
  | .tuple ds, v, u, h, r => by
    simp only [Rep] at h
    obtain ⟨a, vs, rfl, e, h⟩ := h
    cases r
    obtain ⟨its, rv, ⟨o, e1, e2, n, e4⟩, hz⟩ := I.tuple (SqT.of e)
    obtain ⟨as, q⟩ := Reps.reads I h rv
    exact ⟨_, reads_tuple_at e1 e2 e4 (by simpa using q)⟩
  | .dict _, v, u, h, r => by simp only [Rep] at h
theorem Reps.reads (I : Inv X pins σ H s) : ∀ {ds : List PyData} {vs : List V} {us : List Value}, Reps H vs ds → Vals vs us → ∃ as, ReadsAll s.heap us ds as
  | [], [], us, h, r => by cases r; exact ⟨_, .nil⟩
  | [], v :: vs, us, h, r => by simp only [Reps] at h
  | d :: ds, [], us, h, r => by simp only [Reps] at h
  | d :: ds, v :: vs, us, h, r => by
    simp only [Reps] at h
    cases r with
    | cons r1 r2 =>
      obtain ⟨as, q⟩ := Rep.reads I h.1 r1
      obtain ⟨bs, q2⟩ := Reps.reads I h.2 r2
      exact ⟨_, .cons q q2⟩
end
end
def rEqD : R2 := fun x y H Q => ∃ d e, Rep H x d ∧ Rep H y e ∧ SeqAt.shaped d = true ∧ SeqAt.shaped e = true ∧ Q (.bl (PyData.eqv d e)) H
theorem op_eqD (hu : X.A.units + 64 < cLine) : OpR X (compareOp .Eq) rEqD := by
  intro pins s σ H x y v u Q I rx ry h
  obtain ⟨d, e, hd, he, sd, se, q⟩ := h
  obtain ⟨as, r1⟩ := hd.reads I rx
  obtain ⟨bs, r2⟩ := he.reads I ry
  exact eq_dataH r1 r2 sd se hu ⟨.bl _, H, I, rfl, q⟩
def rNeD : R2 := fun x y H Q => ∃ d e, Rep H x d ∧ Rep H y e ∧ SeqAt.shaped d = true ∧ SeqAt.shaped e = true ∧ Q (.bl (!PyData.eqv d e)) H
theorem op_neD (hu : X.A.units + 64 < cLine) : OpR X (compareOp .NotEq) rNeD := by
  intro pins s σ H x y v u Q I rx ry h
  obtain ⟨d, e, hd, he, sd, se, q⟩ := h
  obtain ⟨as, r1⟩ := hd.reads I rx
  obtain ⟨bs, r2⟩ := he.reads I ry
  exact ne_dataH r1 r2 sd se hu ⟨.bl _, H, I, rfl, q⟩
end
end L2
set_option Elab.async false
set_option linter.all false
set_option maxRecDepth 100000
set_option maxHeartbeats 4000000
namespace L2
open PySem PySem.Spec PyProof.Rows
theorem bt_len : bootBuiltins "len" = some (.builtin "len") := by decide +kernel
theorem bt_max : bootBuiltins "max" = some (.builtin "max") := by decide +kernel
theorem bt_isinstance : bootBuiltins "isinstance" = some (.builtin "isinstance") := by decide +kernel
theorem bt_sorted : bootBuiltins "sorted" = some (.builtin "sorted") := by decide +kernel
theorem bt_int : bootBuiltins "int" = some (.type "int") := by decide +kernel
theorem bt_list : bootBuiltins "list" = some (.type "list") := by decide +kernel
theorem bt_tuple : bootBuiltins "tuple" = some (.type "tuple") := by decide +kernel
theorem bt_set : bootBuiltins "set" = some (.type "set") := by decide +kernel
theorem bt_bool : bootBuiltins "bool" = some (.type "bool") := by decide +kernel
theorem bt_range : bootBuiltins "range" = some (.type "range") := by decide +kernel
section
variable {X : Cx}
def isL (x : V) (H : Hp) : Prop := match x with
  | .ref p => (lstOf (H p)).isSome = true
  | _ => False
def tBML (r : V → List V → Hp → VK → Prop) (to : TE) (t : TA) : TE := fun σ H Q => to σ H fun x H1 => isL x H1 ∧ t σ H1 fun xs H2 => r x xs H2 Q
theorem isL.ty {K : PySem.W.Frag} {x : V} {H : Hp} (h : isL x H) : tyV K "list" x H := by
  unfold isL at h
  split at h
  · rename_i p
    cases e : lstOf (H p) with
    | none => rw [e] at h; cases h
    | some ys => exact .inl ⟨rfl, ys, SqL.of (of_lstOf e)⟩
  · exact h.elim
variable {o e : Expr} {es : List Expr} {to : TE} {t : TA} {name : Str} {apos cpos : Pos} {id : String} {r : V → List V → Hp → VK → Prop}
theorem PE.imp {e : Expr} {t t' : TE} (h : PE X e t) (hi : ∀ σ H Q, t' σ H Q → t σ H Q) : PE X e t' := fun pins s σ H Q I hw => h pins s σ H Q I (hi σ H Q hw)
theorem pe_bmL (slot : Slot "list" name id) (hty : typeOf (.builtin id) = pure (.type "method_descriptor")) (hm : MtM X id r) (ho : PE X o to) (ha : PA X (e :: es) t) (mono : ∀ σ H Q Q', (∀ v H', Q v H' → Q' v H') → to σ H Q → to σ H Q')
    (hbase : attributeBase o name X.env (eval o X.env) = eval o X.env := by rfl)
    (hfew : ((backTo cpos (starEach (e :: es) X.env)).all (fun x => !x.1) && (backToKw cpos (keywordEach [] X.env)).all (fun x => x.1.isSome)
      && decide ((e :: es).length + ([] : List Keyword).length + (if ([] : List Keyword).isEmpty then 0 else 1) < 30)) = true := by rfl)
    (hline : (apos.endLine == cpos.line) = true := by rfl) (hs : starEach (e :: es) X.env = (false, eval e X.env) :: starEach es X.env := by rfl) (hplain : (backTo cpos (starEach es X.env)).any (·.1) = false := by rfl) :
    PE X (.Call (.Attribute o name apos) (e :: es) [] cpos) (tBML r to t) :=
  (pe_bm PySem.F.plainAttrs_list slot hty hm ho ha hbase hfew hline hs hplain).imp fun σ H Q h => mono σ H _ _ (fun v H' q => ⟨q.1.ty, q.2⟩) h
theorem mono_var {i : Nat} : ∀ σ H Q Q', (∀ v H', Q v H' → Q' v H') → tVar i σ H Q → tVar i σ H Q' := fun _ _ _ _ h ⟨v, e, q⟩ => ⟨v, e, h v _ q⟩
def rAppendU : V → List V → Hp → VK → Prop := fun x vs H Q => match x, vs with
  | .ref l, [y] => ∃ xs, lstOf (H l) = some xs ∧ xs.length < sizeLine ∧ Q .non (upd H l (.lst (xs ++ [y])))
  | _, _ => False
theorem mt_appendU : MtM X "list.append" rAppendU := by
  intro pins s σ H x vs v us Q I rx rv h
  unfold rAppendU at h
  split at h
  · rename_i l y
    obtain ⟨xs, e, h⟩ := h
    exact mt_append pins s σ H _ _ v us Q I rx rv ⟨l, xs, y, rfl, rfl, of_lstOf e, h⟩
  · exact h.elim
def rEqU : R2 := fun x y H Q => match x, y with
  | .int i, .int j => Q (.bl (decide (i = j))) H
  | .bl i, .bl j => Q (.bl (decide (i = j))) H
  | .str i, .str j => Q (.bl (decide (i = j))) H
  | .ref a, .ref b => rEqD (.ref a) (.ref b) H Q
  | x, y => scal x y = true ∧ Q (.bl (decide (x = y))) H
def rNeU : R2 := fun x y H Q => match x, y with
  | .int i, .int j => Q (.bl (!decide (i = j))) H
  | .bl i, .bl j => Q (.bl (!decide (i = j))) H
  | .str i, .str j => Q (.bl (!decide (i = j))) H
  | .ref a, .ref b => rNeD (.ref a) (.ref b) H Q
  | x, y => scal x y = true ∧ Q (.bl (!decide (x = y))) H
theorem op_eqU (hu : X.A.units + 64 < cLine) : OpR X (compareOp .Eq) rEqU := by
  intro pins s σ H x y v u Q I rx ry h
  unfold rEqU at h
  split at h
  · exact op_eq pins s σ H _ _ v u Q I rx ry ⟨rfl, by simpa using h⟩
  · exact op_eq pins s σ H _ _ v u Q I rx ry ⟨rfl, by simpa using h⟩
  · exact op_eq pins s σ H _ _ v u Q I rx ry ⟨rfl, by simpa using h⟩
  · exact op_eqD hu pins s σ H _ _ v u Q I rx ry h
  · exact op_eq pins s σ H _ _ v u Q I rx ry h
theorem op_neU (hu : X.A.units + 64 < cLine) : OpR X (compareOp .NotEq) rNeU := by
  intro pins s σ H x y v u Q I rx ry h
  unfold rNeU at h
  split at h
  · exact op_ne pins s σ H _ _ v u Q I rx ry ⟨rfl, by simpa using h⟩
  · exact op_ne pins s σ H _ _ v u Q I rx ry ⟨rfl, by simpa using h⟩
  · exact op_ne pins s σ H _ _ v u Q I rx ry ⟨rfl, by simpa using h⟩
  · exact op_neD hu pins s σ H _ _ v u Q I rx ry h
  · exact op_ne pins s σ H _ _ v u Q I rx ry h
theorem rLtU_int (H : Hp) (Q : VK) (i j : Int) : rLtU (.int i) (.int j) H Q = (Q (.bl (decide (i < j))) H) := rfl
theorem rLtU_str (H : Hp) (Q : VK) (i j : Str) : rLtU (.str i) (.str j) H Q = (Q (.bl (decide (i.cps.toList < j.cps.toList))) H) := rfl
theorem rIxU_str (H : Hp) (Q : VK) (z : Str) (i : Int) : rIxU (.str z) (.int i) H Q = (z.length ≤ sizeLine ∧ ∃ c, atI z.cps.toList i = some c ∧ Q (.str ⟨#[c]⟩) H) := rfl
theorem rIxU_ref (H : Hp) (Q : VK) (p : Addr) (i : Int) : rIxU (.ref p) (.int i) H Q = (∃ xs, seqOf (H p) = some xs ∧ ∃ v, atI xs i = some v ∧ Q v H) := rfl
theorem rLenU_str (H : Hp) (Q : VK) (z : Str) : rLenU [.str z] H Q = (z.length ≤ sizeLine ∧ Q (.int z.length) H) := rfl
theorem rLenU_ref (H : Hp) (Q : VK) (p : Addr) : rLenU [.ref p] H Q = (∃ ys, seqOf (H p) = some ys ∧ Q (.int ys.length) H) := rfl
theorem rIntU_int (H : Hp) (Q : VK) (i : Int) : rIntU [.int i] H Q = (Q (.int i) H) := rfl
theorem rIntU_bl (H : Hp) (Q : VK) (k : Bool) : rIntU [.bl k] H Q = (Q (.int (if k then 1 else 0)) H) := rfl
theorem rListU_str (H : Hp) (Q : VK) (z : Str) : rListU [.str z] H Q = (z.length ≤ sizeLine ∧ ∀ l, H l = none → Q (.ref l) (upd H l (.lst (sgn z)))) := rfl
theorem rListU_ref (H : Hp) (Q : VK) (p : Addr) : rListU [.ref p] H Q = (∃ ys, seqOf (H p) = some ys ∧ ∀ l, H l = none → Q (.ref l) (upd H l (.lst ys))) := rfl
theorem rPopU_ref (H : Hp) (Q : VK) (l : Addr) (i : Int) : rPopU (.ref l) [.int i] H Q = (∃ xs, lstOf (H l) = some xs ∧ 0 ≤ i ∧ ∃ y, xs[i.toNat]? = some y ∧ Q y (upd H l (.lst (xs.eraseIdx i.toNat)))) := rfl
theorem rAppendU_ref (H : Hp) (Q : VK) (l : Addr) (y : V) : rAppendU (.ref l) [y] H Q = (∃ xs, lstOf (H l) = some xs ∧ xs.length < sizeLine ∧ Q .non (upd H l (.lst (xs ++ [y])))) := rfl
theorem rEqU_int (H : Hp) (Q : VK) (i j : Int) : rEqU (.int i) (.int j) H Q = (Q (.bl (decide (i = j))) H) := rfl
theorem rEqU_bl (H : Hp) (Q : VK) (i j : Bool) : rEqU (.bl i) (.bl j) H Q = (Q (.bl (decide (i = j))) H) := rfl
theorem rEqU_str (H : Hp) (Q : VK) (i j : Str) : rEqU (.str i) (.str j) H Q = (Q (.bl (decide (i = j))) H) := rfl
theorem rEqU_ref (H : Hp) (Q : VK) (i j : Addr) : rEqU (.ref i) (.ref j) H Q = (rEqD (.ref i) (.ref j) H Q) := rfl
theorem rNeU_int (H : Hp) (Q : VK) (i j : Int) : rNeU (.int i) (.int j) H Q = (Q (.bl (!decide (i = j))) H) := rfl
theorem rNeU_bl (H : Hp) (Q : VK) (i j : Bool) : rNeU (.bl i) (.bl j) H Q = (Q (.bl (!decide (i = j))) H) := rfl
theorem rNeU_str (H : Hp) (Q : VK) (i j : Str) : rNeU (.str i) (.str j) H Q = (Q (.bl (!decide (i = j))) H) := rfl
theorem rNeU_ref (H : Hp) (Q : VK) (i j : Addr) : rNeU (.ref i) (.ref j) H Q = (rNeD (.ref i) (.ref j) H Q) := rfl
theorem rIsU_ty (K : PySem.W.Frag) (x : V) (c : String) (H : Hp) (Q : VK) : rIsU K [x, .ty c] H Q = (∃ t b, TyOf K H x t ∧ PySem.W.kitOne K t (.type c) = some b ∧ Q (.bl b) H) := rfl
theorem rSetU_ref (p : Addr) (k : Int) (v : V) (H : Hp) (Q : Hp → Prop) : rSetU (.ref p) (.int k) v H Q = (∃ xs, lstOf (H p) = some xs ∧ ∃ j, ixN xs.length k = some j ∧ Q (upd H p (.lst (xs.set j v)))) := rfl
theorem isL_ref (p : Addr) (H : Hp) : isL (.ref p) H = ((lstOf (H p)).isSome = true) := rfl
def LoopR (J : It) (g : TG) (tb : TS) (D : Ends) (σ : L2.St) (H1 : Hp) : Prop := ∃ W : Nat → Nat → L2.St → Hp → Prop, (∃ m, W 0 m σ H1) ∧ ∀ i m σ H, W i m σ H →
  (J.stop i H ∧ D.nx σ H) ∨ (J.go i H ∧ ∃ N : L2.St → Hp → Prop, (∀ σ' H', N σ' H' → ∃ m', m' < m ∧ W (i + 1) m' σ' H') ∧ ∀ x H', J.yld i H x H' → g x σ H' fun σ2 H2 => tb { D with nx := N, ct := N, bk := D.nx } σ2 H2)
theorem tFor_eq (wi : TI) (g : TG) (tb : TS) (D : Ends) (σ : L2.St) (H : Hp) : tFor wi g tb D σ H = wi σ H fun J H1 => LoopR J g tb D σ H1 := rfl
theorem loop_range {lo : Int} {n : Nat} {g : TG} {tb : TS} {D : Ends} {σ : L2.St} {H : Hp} (Pv : Nat → L2.St → Hp → Prop) (h0 : Pv 0 σ H)
    (hs : ∀ i σ H, i < n → Pv i σ H → g (.int (lo + i)) σ H fun σ2 H2 => tb { D with nx := Pv (i + 1), ct := Pv (i + 1), bk := D.nx } σ2 H2) (hd : ∀ σ H, Pv n σ H → D.nx σ H) : LoopR (Itr lo n) g tb D σ H := for_range Pv h0 hs hd
theorem loop_list {K : PySem.W.Frag} {a : Addr} {xs : List V} {g : TG} {tb : TS} {D : Ends} {σ : L2.St} {H : Hp} (Pv : Nat → L2.St → Hp → Prop) (h0 : Pv 0 σ H) (hl : ∀ i σ H, i ≤ xs.length → Pv i σ H → H a = some (.lst xs))
    (hs : ∀ i x σ H, xs[i]? = some x → Pv i σ H → g x σ H fun σ2 H2 => tb { D with nx := Pv (i + 1), ct := Pv (i + 1), bk := D.nx } σ2 H2) (hd : ∀ σ H, Pv xs.length σ H → D.nx σ H) : LoopR (Itl K a) g tb D σ H :=
  for_list Pv h0 (fun i σ H h p => SqL.of (hl i σ H h p)) hs hd
theorem loop_tup {K : PySem.W.Frag} {a : Addr} {xs : List V} {g : TG} {tb : TS} {D : Ends} {σ : L2.St} {H : Hp} (Pv : Nat → L2.St → Hp → Prop) (h0 : Pv 0 σ H) (hl : ∀ i σ H, i ≤ xs.length → Pv i σ H → H a = some (.tup xs))
    (hs : ∀ i x σ H, xs[i]? = some x → Pv i σ H → g x σ H fun σ2 H2 => tb { D with nx := Pv (i + 1), ct := Pv (i + 1), bk := D.nx } σ2 H2) (hd : ∀ σ H, Pv xs.length σ H → D.nx σ H) : LoopR (Itt K a) g tb D σ H :=
  for_tup Pv h0 (fun i σ H h p => SqT.of (hl i σ H h p)) hs hd
end
end L2
set_option Elab.async false
set_option linter.all false
set_option maxRecDepth 100000
set_option maxHeartbeats 4000000
namespace L2
open PySem PySem.Spec PyProof.Rows
def clOf (env : Env) : List (Str × NameKind) → List (Str × Addr) → List (Str × Addr)
  | [], cs => cs
  | (n, k) :: r, cs => clOf env r (if k == .free then (n, (env.cells.lookup n).getD 0) :: cs else cs)
theorem closure_of {env : Env} {scope : Scope} (h : ∀ y ∈ scope.names, y.2 = .free → ∃ c, env.cells.lookup y.1 = some c) : closureFor scope env = pure (clOf env scope.names []) := by
  have gen : ∀ (l : List (Str × NameKind)) (cs : List (Str × Addr)), (∀ y ∈ l, y.2 = .free → ∃ c, env.cells.lookup y.1 = some c) →
      (forIn l cs fun x r => (match x with | (name, kind) => if (kind == NameKind.free) = true then do let c ← cellOf env name; pure (ForInStep.yield ((name, c) :: r)) else pure (ForInStep.yield r)) : Sem (List (Str × Addr))) = pure (clOf env l cs) := by
    intro l
    induction l with
    | nil => intro cs _; rfl
    | cons y l ih =>
      intro cs hy
      obtain ⟨n, k⟩ := y
      rw [List.forIn_cons]
      have hr := fun z hz => hy z (List.mem_cons_of_mem _ hz)
      by_cases hk : k = .free
      · subst hk
        obtain ⟨c, hc⟩ := hy _ (List.mem_cons_self ..) rfl
        have hc' : env.cells.lookup n = some c := hc
        have e : cellOf env n = pure c := by unfold cellOf; rw [hc']
        simp only [beq_self_eq_true, if_true, e, pure_bind]
        rw [ih _ hr]
        simp [clOf, hc']
      · have hb : (k == NameKind.free) = false := by simpa using hk
        simp only [hb, Bool.false_eq_true, if_false, pure_bind]
        rw [ih _ hr]
        simp [clOf, hb]
  exact (congrArg (· >>= fun s => pure s) (gen scope.names [] h)).trans (by rfl)
theorem clOf_sub {env : Env} : ∀ (l : List (Str × NameKind)) (cs : List (Str × Addr)) (x : Str) (c : Addr), (∀ y ∈ l, y.2 = .free → ∃ c, env.cells.lookup y.1 = some c) → (∀ x c, cs.lookup x = some c → env.cells.lookup x = some c) →
    (clOf env l cs).lookup x = some c → env.cells.lookup x = some c
  | [], cs, x, c, _, hc, h => hc x c h
  | (n, k) :: r, cs, x, c, hl, hc, h => by
    unfold clOf at h
    refine clOf_sub r _ x c (fun y hy => hl y (List.mem_cons_of_mem _ hy)) (fun z d hz => ?_) h
    split at hz
    · rename_i hk
      rw [List.lookup_cons] at hz
      cases hzn : z == n with
      | true =>
        rw [hzn] at hz
        obtain ⟨c', hc'⟩ := hl _ (List.mem_cons_self ..) (by simpa using hk)
        have hc'' : env.cells.lookup n = some c' := hc'
        have ez : z = n := by simpa using hzn
        subst ez
        rw [hc''] at hz
        rw [hc'']
        exact hz
      | false => rw [hzn] at hz; exact hc z d hz
    · exact hc z d hz
theorem clOf_keep {env : Env} : ∀ (l : List (Str × NameKind)) (cs : List (Str × Addr)) (x : Str), (∃ c, cs.lookup x = some c) → ∃ c, (clOf env l cs).lookup x = some c
  | [], cs, x, h => h
  | (n, k) :: r, cs, x, h => by
    unfold clOf
    refine clOf_keep r _ x ?_
    split
    · rw [List.lookup_cons]
      cases x == n with
      | true => exact ⟨_, rfl⟩
      | false => exact h
    · exact h
theorem clOf_has {env : Env} : ∀ (l : List (Str × NameKind)) (cs : List (Str × Addr)) (x : Str), (x, NameKind.free) ∈ l → ∃ c, (clOf env l cs).lookup x = some c
  | (n, k) :: r, cs, x, h => by
    unfold clOf
    rcases List.mem_cons.mp h with h | h
    · cases h
      refine clOf_keep r _ _ ?_
      simp [List.lookup_cons]
    · exact clOf_has r _ x h
abbrev Cx.comp (X : Cx) (scope : Scope) (C : Addr) (Nc : List Str) (s3 : Shared) (H3 : Hp) (fp : List Addr) : Cx :=
  { X with N := Nc, s₀ := s3, H₀ := H3, env := compEnvC scope (clOf X.env scope.names []) C X.env, outer := X.stack, stack := X.stack, ex := fp, fn := fun _ => false, pn := [], xe := fun _ _ => False }
def compSt (js : List (Option Nat)) (σ : L2.St) : L2.St := js.map fun o => o.bind fun j => (σ[j]?).getD none
def tEmit (D : Addr) (te : TE) : TS := fun E σ H => te σ H fun v H1 => ∃ ys, lstOf (H1 D) = some ys ∧ ys.length < sizeLine ∧ E.nx σ (upd H1 D (.lst (ys ++ [v])))
def tComp (wi : TI) (g : TG) (js : List (Option Nat)) (te : TE) : TE := fun σ H Q => wi σ H fun J H1 => ∀ D, H1 D = none →
  LoopR J g (tEmit D te) { nx := fun _ H' => Q (.ref D) H', rt := fun _ _ => False } (compSt js σ) (upd H1 D (.lst []))
structure CompOk (X : Cx) (scope : Scope) (Nc : List Str) (js : List (Option Nat)) : Prop where
  kind : scope.kind = .function
  nocell : ∀ y ∈ scope.names, y.2 ≠ .cell
  loc : ∀ y ∈ scope.names, y.2 = .local → scope.names.lookup y.1 = some .local
  free : ∀ y ∈ scope.names, y.2 = .free → X.env.kindOf y.1 = some .cell ∨ X.env.kindOf y.1 = some .free
  len : js.length = Nc.length
  nol : ∀ x, (x, NameKind.free) ∈ scope.names → scope.names.lookup x ≠ some .local
  see : ∀ (i j : Nat) (x : Str), js[i]? = some (some j) → Nc[i]? = some x → X.N[j]? = some x ∧ (x, NameKind.free) ∈ scope.names
section
variable {X : Cx} {pins : List (Addr × Obj)} {σ : L2.St} {H : Hp} {s : Shared} {scope : Scope} {Nc : List Str} {js : List (Option Nat)} {fp : List Addr}
theorem CompOk.has (c : CompOk X scope Nc js) (I : Inv X pins σ H s) : ∀ y ∈ scope.names, y.2 = .free → ∃ a, X.env.cells.lookup y.1 = some a := fun y hy hf => I.ok.has _ (c.free y hy hf)
theorem relabel_kind {env : Env} {x : Str} : ∀ {l : List (Str × NameKind)}, (∀ y ∈ l, y.2 ≠ .cell) →
    ((l.map fun (n, k) => if (k == NameKind.free && env.scope.kind == .function && env.kindOf n == some .cell) then (n, NameKind.cell) else (n, k)).lookup x = some .cell ∨
     (l.map fun (n, k) => if (k == NameKind.free && env.scope.kind == .function && env.kindOf n == some .cell) then (n, NameKind.cell) else (n, k)).lookup x = some .free) → (x, NameKind.free) ∈ l
  | [], _, h => by simp at h
  | (n, k) :: r, hc, h => by
    rw [List.map_cons] at h
    by_cases hx : x = n
    · subst hx
      have hk : k = .free := by
        have hk' : k ≠ .cell := hc _ (List.mem_cons_self ..)
        by_cases hcond : (k == NameKind.free && env.scope.kind == .function && env.kindOf x == some .cell) = true
        · rw [Bool.and_eq_true, Bool.and_eq_true] at hcond
          simpa using hcond.1.1
        · simp only [hcond, Bool.false_eq_true, if_false, List.lookup_cons, beq_self_eq_true] at h
          rcases h with h | h
          · exact absurd (Option.some.inj h) hk'
          · exact Option.some.inj h
      subst hk
      exact List.mem_cons_self ..
    · refine List.mem_cons_of_mem _ (relabel_kind (env := env) (fun y hy => hc y (List.mem_cons_of_mem _ hy)) ?_)
      have hxn : (x == n) = false := by simpa using hx
      by_cases hcond : (k == NameKind.free && env.scope.kind == .function && env.kindOf n == some .cell) = true
      · simpa only [hcond, if_true, List.lookup_cons, hxn] using h
      · simpa only [hcond, Bool.false_eq_true, if_false, List.lookup_cons, hxn] using h
theorem relabel_loc {env : Env} {x : Str} : ∀ {l : List (Str × NameKind)},
    (l.map fun (n, k) => if (k == NameKind.free && env.scope.kind == .function && env.kindOf n == some .cell) then (n, NameKind.cell) else (n, k)).lookup x = some .local → l.lookup x = some .local
  | [], h => by simp at h
  | (n, k) :: r, h => by
    rw [List.map_cons] at h
    by_cases hx : x = n
    · subst hx
      by_cases hcond : (k == NameKind.free && env.scope.kind == .function && env.kindOf x == some .cell) = true
      · simp only [hcond, if_true, List.lookup_cons, beq_self_eq_true] at h
        cases h
      · simp only [hcond, Bool.false_eq_true, if_false, List.lookup_cons, beq_self_eq_true] at h
        simp only [List.lookup_cons, beq_self_eq_true]
        exact h
    · have hxn : (x == n) = false := by simpa using hx
      rw [List.lookup_cons, hxn]
      refine relabel_loc (env := env) ?_
      by_cases hcond : (k == NameKind.free && env.scope.kind == .function && env.kindOf n == some .cell) = true
      · simpa only [hcond, if_true, List.lookup_cons, hxn] using h
      · simpa only [hcond, Bool.false_eq_true, if_false, List.lookup_cons, hxn] using h
theorem comp_ok (c : CompOk X scope Nc js) (I : Inv X pins σ H s) (hf : ∀ b ∈ fp, FpOk X pins H b) (ho : ∀ b ∈ fp, ∃ o, s.heap.get? b = some o) : (X.comp scope s.heap.objs.size Nc s H fp).Ok := by
  have hs := c.has I
  have sub : ∀ x a, (clOf X.env scope.names []).lookup x = some a → X.env.cells.lookup x = some a := fun x a => clOf_sub _ _ x a hs (fun _ _ z => nomatch z)
  refine ⟨I.ok.mod, c.kind, I.ok.glob, I.ok.blt, Nat.le_refl _, fun x y a e1 e2 => I.ok.inj x y a (sub x a e1) (sub y a e2), fun x h => clOf_has _ _ x (relabel_kind (env := X.env) c.nocell h), (fun x a h => nomatch h), I.ok.hd, I.ok.frames, .inl rfl, fun b hb => ⟨?_, fun x a e => ?_⟩, I.bs,
    Nat.le_trans I.ok.bsz I.sz, fun b o e hb => ?_, fun b hb hb' => ?_, I.stack, I.stkFree⟩
  · obtain ⟨o, e⟩ := ho b hb
    exact Nat.ne_of_lt (Heap.lt_size e)
  · exact (hf b hb).2.2.2.2.1 x a (sub x a e)
  · rcases (hf b hb).2.2.2.1 with z | z
    · exact I.ok.noex b o e z
    · exact absurd (Nat.lt_of_lt_of_le (Heap.lt_size (I.ok.bs b o e).1) z) (Nat.lt_irrefl _)
  · rcases List.mem_cons.mp (I.stkSub b hb') with z | z
    · exact (hf b hb).2.1 z
    · exact (hf b hb).2.2.1 z
theorem comp_inv (c : CompOk X scope Nc js) (I : Inv X pins σ H s) (hf : ∀ b ∈ fp, FpOk X pins H b) (ho : ∀ b ∈ fp, ∃ o, s.heap.get? b = some o) {h' : Heap} {m : Str → Option Value} {tk : Nat} (hn : h'.Ns s.heap.objs.size m)
    (hk : ∀ b o, s.heap.get? b = some o → h'.get? b = some o) : Inv (X.comp scope s.heap.objs.size Nc s H fp) [] (compSt js σ) H { s with heap := h', toks := tk } := by
  have hs := c.has I
  have sub : ∀ x a, (clOf X.env scope.names []).lookup x = some a → X.env.cells.lookup x = some a := fun x a => clOf_sub _ _ x a hs (fun _ _ z => nomatch z)
  refine ⟨comp_ok c I hf ho, rfl, I.bare, Un.kept hk, ⟨m, hn, fun i x v e1 e2 e3 => ?_⟩, fun x a e => ?_, I.hok.fresh (Nat.le_refl _), fun x a e => I.freeC x a (sub x a e), (fun p hp => nomatch hp), I.hok.kept hk, by simp only [compSt, List.length_map]; exact c.len⟩
  · have e2' : (compSt js σ)[i]? = some (some v) := e2
    unfold compSt at e2'
    rw [List.getElem?_map] at e2'
    cases ej : js[i]? with
    | none => rw [ej] at e2'; cases e2'
    | some o =>
      rw [ej] at e2'
      cases o with
      | none => cases e2'
      | some j =>
        have e4 : (σ[j]?).getD none = some v := Option.some.inj e2'
        have e5 : σ[j]? = some (some v) := by
          cases q : σ[j]? with
          | none => rw [q] at e4; cases e4
          | some w => rw [q] at e4; exact congrArg some e4
        obtain ⟨n1, n2⟩ := c.see i j x ej e1
        have hkd := c.free _ n2 rfl
        obtain ⟨a, ha⟩ := clOf_has (env := X.env) scope.names [] x n2
        obtain ⟨m0, _, hl⟩ := I.loc
        obtain ⟨u, r, l⟩ := hl j x v n1 e5 (by
          rcases hkd with z | z
          · exact .inr (.inl z)
          · exact .inr (.inr z))
        refine ⟨u, r, ?_⟩
        rcases l with ⟨k, _⟩ | ⟨_, a', ha', hcell⟩
        · rcases hkd with z | z
          · rw [z] at k; cases k
          · rw [z] at k; cases k
        · have : a' = a := Option.some.inj (ha'.symm.trans (sub x a ha))
          subst this
          refine .inr ⟨?_, a', ha, ?_⟩
          · rcases e3 with z | z | z
            · exfalso
              have q : (relabel scope X.env).names.lookup x = some .local := z
              exact c.nol x n2 (relabel_loc q)
            · exact .inl z
            · exact .inr z
          · obtain ⟨o, q, d⟩ := hcell
            exact ⟨o, hk _ o q, d⟩
  · obtain ⟨v, o, q, d⟩ := I.cell x a (sub x a e)
    exact ⟨v, o, hk _ o q, d⟩
theorem comp_after (I : Inv X pins σ H s) (hf : ∀ b ∈ fp, FpOk X pins H b) {σ' : L2.St} {H' : Hp} {s' : Shared} {h'' : Heap} (J : Inv (X.comp scope s.heap.objs.size Nc s H fp) [] σ' H' s') (hs : Heap.SameBut s.heap.objs.size s'.heap h'') :
    Inv X pins σ H' { s' with heap := h'' } := by
  have ne : ∀ b o, s.heap.get? b = some o → b ≠ s.heap.objs.size := fun b o e => Nat.ne_of_lt (Heap.lt_size e)
  have u : Un (frs X.stack) fp H H' s.heap s'.heap := J.base
  refine I.call' (s' := { s' with heap := h'' }) (ch := fp) J.os ⟨fun b o e n hb hx => ?_, fun b o e n hb hx => ?_, u.free, fun b o e hx => ?_, u.tups, u.frzs, u.tbls⟩ (fun b o e => ?_) J.bare fun b hb => ?_
  · exact (hs.2 b (ne b o e)).trans (u.keep b o e n hb hx)
  · obtain ⟨sl, q⟩ := u.slot b o e n hb hx
    exact ⟨sl, (hs.2 b (ne b o e)).trans q⟩
  · obtain ⟨o', q⟩ := u.there b o e hx
    exact ⟨o', (hs.2 b (ne b o e)).trans q⟩
  · have hC : H' s.heap.objs.size = none := J.free
    refine (J.hok b o e).stay (fun d v hd q => (hs.2 d ?_).trans q) (fun _ q => q) fun _ _ q => q
    rintro rfl
    rcases hd with z | z
    · rw [← z, hC] at e; cases e
    · rw [hC] at z; cases z
  · obtain ⟨_, f1, _, f3, f4, f5⟩ := hf b hb
    exact ⟨f3, f1, f4, f5⟩
end
section
variable {X : Cx} {scope : Scope} {Nc : List Str} {js : List (Option Nat)} {elt tg iter : Expr} {pos : Pos} {wi : TI} {g : TG} {te : TE}
theorem comp_core (hc : X.calm = true) (c : CompOk X scope Nc js) (hi : PI X tg iter wi) (hg : ∀ C s3 H3 fp, PG (X.comp scope C Nc s3 H3 fp) tg g) (he : ∀ C s3 H3 fp, PE (X.comp scope C Nc s3 H3 fp) elt te)
    {pins : List (Addr × Obj)} {s : Shared} {σ : L2.St} {H : Hp} (I : Inv X pins σ H s) {RR : Value → Addr → Result → Shared → Prop} {NX : Addr → Hp → Prop}
    (h : wi σ H fun J H1 => ∀ D, H1 D = none → LoopR J g (tEmit D te) { nx := fun _ H' => NX D H', rt := fun _ _ => False } (compSt js σ) (upd H1 D (.lst [])))
    (fin : ∀ D H3 s3 fp σ5 H5 s6, Inv X pins σ H3 s3 → (∀ b ∈ fp, FpOk X pins H3 b) → Inv (X.comp scope s3.heap.objs.size Nc s3 H3 fp) [] σ5 H5 s6 → NX D H5 → RR (.ref D) s3.heap.objs.size (.ok .next) s6) :
    wpAny (model X.prog X.w) X.A (eval iter X.env) (fun x s₁ => wpAny (model X.prog X.w) X.A (pyIter x) (fun it s₂ => wpAny (model X.prog X.w) X.A (newList []) (fun acc s₃ =>
      wpAny (model X.prog X.w) X.A (newFunctionEnv scope X.env.globals (clOf X.env scope.names []) [] X.env.qual none .none (some X.env)) (fun cenv s₄ =>
        codeAny (model X.prog X.w) X.A (.compStart (.ListComp elt [⟨tg, iter, [], 0⟩] scope pos) 0 it acc { cenv with scope := relabel scope X.env }) (RR acc cenv.locals) s₄) X.xe s₃) X.xe s₂) X.xe s₁) X.xe s := by
  refine thn (hi pins s σ H _ I h) fun v s1 h1 => thn h1 fun itv s2 h2 => ?_
  obtain ⟨it, fp, tn, J, H2, rfl, I2, T, st2, f2, h2⟩ := h2
  -- the list
  refine wpAny_newObj_type ?_ (by show 0 ≤ sizeLine; decide)
  have hD : H2 s2.heap.objs.size = none := I2.hok.fresh (Nat.le_refl _)
  have I3 : Inv X pins σ (upd H2 s2.heap.objs.size (.lst [])) { s2 with heap := s2.heap.push { cls := .type "list", data := .seq ([] : List Value).toArray } } :=
    I2.laid (t' := s2.toks) (fun b u e => Heap.get?_push_of_some _ e) (Nat.le_refl _) ⟨by show 0 ≤ sizeLine; decide, [], 0, .nil, Heap.get?_push_size _ rfl⟩
  have f3 : ∀ b ∈ fp, FpOk X pins (upd H2 s2.heap.objs.size (.lst [])) b := fun b hb => by
    obtain ⟨q0, q⟩ := f2 b hb
    obtain ⟨o, e, _⟩ := T.obj _ _ st2 b hb
    exact ⟨by rw [upd_ne (Nat.ne_of_lt (Heap.lt_size e))]; exact q0, q⟩
  have o3 : ∀ b ∈ fp, ∃ o, (s2.heap.push { cls := .type "list", data := .seq ([] : List Value).toArray }).get? b = some o := fun b hb => by
    obtain ⟨o, e, _⟩ := T.obj _ _ st2 b hb
    exact ⟨o, Heap.get?_push_of_some _ e⟩
  have st3 : tn 0 (s2.heap.push { cls := .type "list", data := .seq ([] : List Value).toArray }) := T.keep _ _ _ st2 fun b _ o e => Heap.get?_push_of_some _ e
  generalize hh3 : s2.heap.push { cls := .type "list", data := .seq ([] : List Value).toArray } = h3 at I3 o3 st3 ⊢
  refine wpAny_newFunctionEnv c.nocell (by intro y hy; simp at hy) (fun h4 hn4 hs4 => ?_) c.kind
  have k4 : ∀ b o, h3.get? b = some o → h4.get? b = some o := fun b o e => (hs4.2 b (Nat.ne_of_lt (Heap.lt_size e))).trans (Heap.get?_push_of_some _ e)
  have I4 := comp_inv (tk := s2.toks + ([] : List (Str × Value)).length) c I3 f3 o3 hn4 k4
  have st4 : tn 0 h4 := T.keep _ _ _ st3 fun b _ o e => k4 b o e
  obtain ⟨W, ⟨m0, w0⟩, turn⟩ := h2 _ hD
  let s3 : Shared := { s2 with heap := h3 }
  let Y : Cx := X.comp scope h3.objs.size Nc s3 (upd H2 s2.heap.objs.size (.lst [])) fp
  have stat : ∀ {H' : Hp}, (∀ b ∈ fp, H' b = none) → ∀ b ∈ fp, FpOk Y [] H' b := fun hn b hb => ⟨hn b hb, (I4.ok.exf b hb).1, I4.ok.exfs b hb, .inl hb, (I4.ok.exf b hb).2, (fun p hp => nomatch hp)⟩
  have loop : codeAny (model X.prog X.w) X.A (.compLoop (.ListComp elt [⟨tg, iter, [], 0⟩] scope pos) 0 (.ref it) (.ref s2.heap.objs.size) Y.env)
      (RR (.ref s2.heap.objs.size) h3.objs.size) { s2 with heap := h4, toks := s2.toks + ([] : List (Str × Value)).length } := by
    refine codeAny_loop rfl (fun n s' => ∃ i σ' H', Inv Y [] σ' H' s' ∧ tn i s'.heap ∧ (∀ b ∈ fp, H' b = none) ∧ W i n σ' H') (fun n s5 hI => ?_) m0 ⟨0, _, _, I4, st4, fun b hb => (f3 b hb).1, w0⟩
    obtain ⟨i, σ5, H5, I5, st5, fr5, w5⟩ := hI
    show wpAny _ X.A ((compTurn (.ListComp elt [⟨tg, iter, [], 0⟩] scope pos) 0 (.ref it) (.ref s2.heap.objs.size) Y.env).onRaise (fun x => do noteFrame x Y.env; theTreesLotGoes x)) _ _ s5
    refine wpAny_noted (wpAny_mono (E := fun _ _ => False) ?_ (fun _ _ q => q) fun _ _ z => z.elim)
    rw [compTurn_list1]
    refine wpAny_bind (wpAny_standAt (wpAny_bind ?_))
    rcases turn i n σ5 H5 w5 with ⟨stop, qn⟩ | ⟨go, N, hN, step⟩
    · refine thn (T.done Y rfl rfl rfl hc i [] s5 σ5 H5 _ I5 (stat fr5) st5 stop) fun r s6 ⟨hr, I6⟩ => ?_
      subst hr
      refine wpAny_pure ?_
      exact fin _ _ s3 fp σ5 H5 s6 I3 f3 I6 qn
    · refine thn (T.item Y rfl rfl rfl hc i [] s5 σ5 H5 _ I5 (stat fr5) st5 go) fun r s6 ⟨u, hr, h6⟩ => ?_
      subst hr
      refine wpAny_bind (thn h6 fun _ s7 ⟨x, H7, I7, r7, y7, st7, fr7⟩ => ?_)
      have I7' := I7.pinned (stat fr7) (T.obj _ _ st7)
      refine wpAny_bind (thn (hg _ _ _ _ _ s7 σ5 H7 x u _ I7' r7 (step x H7 y7)) fun _ s8 ⟨σ8, H8, I8, q8⟩ => ?_)
      refine wpAny_bind (wpAny_bind (thn (he _ _ _ _ _ s8 σ8 H8 _ I8 q8) fun v s9 ⟨y, H9, I9, r9, ys, e9, z9, n9⟩ => ?_))
      refine wpAny_bind (thn (mt_append (X := Y) _ s9 σ8 H9 (.ref s2.heap.objs.size) [y] (.ref s2.heap.objs.size) [v] (fun w H' => N σ8 H') I9 rfl (.cons r9 .nil) ⟨_, ys, y, rfl, rfl, of_lstOf e9, z9, n9⟩) fun w s10 ⟨_, H10, I10, _, n10⟩ => ?_)
      refine wpAny_pure (wpAny_pure ⟨rfl, ?_⟩)
      obtain ⟨m', hm, w10⟩ := hN σ8 H10 n10
      refine ⟨m', hm, i + 1, σ8, H10, I10.unpinned, T.keep _ _ _ st7 fun b hb o e => (I10.pin (b, o) (List.mem_append_right _ (List.mem_append_right _ (mem_pinsAt hb e)))).1, fun b hb => ?_, w10⟩
      obtain ⟨o, e, d⟩ := T.obj _ _ st7 b hb
      exact (I10.pin (b, o) (List.mem_append_right _ (List.mem_append_right _ (mem_pinsAt hb e)))).2.1
  exact codeAny_compStart_list loop (T.self _ 0 _ _ _ st4 loop)
theorem pe_comp (hc : X.calm = true) (c : CompOk X scope Nc js) (hi : PI X tg iter wi) (hg : ∀ C s3 H3 fp, PG (X.comp scope C Nc s3 H3 fp) tg g) (he : ∀ C s3 H3 fp, PE (X.comp scope C Nc s3 H3 fp) elt te)
    (hs : ∀ x, foldedSetIterable iter X.env x = pure x := by intro _; rfl) : PE X (.ListComp elt [⟨tg, iter, [], 0⟩] scope pos) (tComp wi g js te) := by
  intro pins s σ H Q I h
  rw [eval_ListComp]
  refine wpAny_comprehension_free (use := none) (g := ⟨tg, iter, [], 0⟩) (gs := []) rfl hs (closure_of (c.has I)) c.kind c.loc
    (comp_core (RR := fun acc C => compPost (model X.prog X.w) X.A X.xe none (EP X pins σ Q) acc C) (NX := fun D H' => Q (.ref D) H') hc c hi hg he I h fun D H3 s3 fp σ5 H5 s6 I3 f3 I6 qn => ?_)
  obtain ⟨m, hn, _⟩ := I6.loc
  exact ⟨m, hn, fun h' hs' => ⟨.ref D, H5, comp_after I3 f3 I6 hs', rfl, qn⟩⟩
theorem ps_setc {i : Nat} {y : Str} {py spos : Pos} (hN : X.N.Nodup) (hiN : X.N[i]? = some y) (hy : Loc X.env.scope y) (hc : X.calm = true) (c : CompOk X scope Nc js) (hi : PI X tg iter wi) (hg : ∀ C s3 H3 fp, PG (X.comp scope C Nc s3 H3 fp) tg g)
    (he : ∀ C s3 H3 fp, PE (X.comp scope C Nc s3 H3 fp) elt te) (hsw : swapsWith (.ListComp elt [⟨tg, iter, [], 0⟩] scope pos) (some (.Name y py)) spos.line X.env = pure true := by rfl)
    (hs : ∀ x, foldedSetIterable iter X.env x = pure x := by intro _; rfl) (hf : X.fn y = true ∨ X.env.scope.names.lookup y = some .local := by first | exact .inl rfl | exact .inr rfl | assumption) :
    PS X (.Assign [.Name y py] (.ListComp elt [⟨tg, iter, [], 0⟩] scope pos) spos) (tAsg (tComp wi g js te) (gName i)) := by
  intro pins s σ H D I h
  rw [exec_Assign_Name_used _ _ _ _ hsw]
  refine wpAny_bind (wpAny_standAt (wpAny_bind ?_))
  show wpAny _ X.A (do let _ ← comprehension (.ListComp elt [⟨tg, iter, [], 0⟩] scope pos) scope X.env _ (newList []) false (eval iter X.env) (some (assign (.Name y py) X.env))) _ _ s
  refine wpAny_bind (wpAny_mono (wpAny_comprehension_free (use := some (assign (.Name y py) X.env)) (g := ⟨tg, iter, [], 0⟩) (gs := []) (Q := fun _ s' => SP X pins D .next s') rfl hs (closure_of (c.has I)) c.kind c.loc
    (comp_core (RR := fun acc C => compPost (model X.prog X.w) X.A X.xe (some (assign (.Name y py) X.env)) (fun _ s' => SP X pins D .next s') acc C) (NX := fun Da H' => D.nx (σ.set i (some (.ref Da))) H') hc c hi hg he I h fun Da H3 s3 fp σ5 H5 s6 I3 f3 I6 qn => ?_))
    (fun _ s' hq => wpAny_pure (wpAny_pure hq)) fun _ _ e => e)
  obtain ⟨m, hn, _⟩ := id I6.loc
  have I7 : Inv X pins σ H5 s6 := comp_after I3 f3 I6 (.refl ..)
  have hC : H5 s3.heap.objs.size = none := I6.free
  have nL : s3.heap.objs.size ≠ X.env.locals := Nat.ne_of_gt I3.lt
  have nc : ∀ x a, X.env.cells.lookup x = some a → a ≠ s3.heap.objs.size := fun x a e => by
    obtain ⟨v, q⟩ := I3.cell x a e
    exact Nat.ne_of_lt q.lt
  have np : ∀ p ∈ X.pn ++ pins, p.1 ≠ s3.heap.objs.size := fun p hp => Nat.ne_of_lt (Heap.lt_size (I3.pin p hp).1)
  show wpAny _ _ (assign (.Name y py) X.env (.ref Da)) _ _ _
  refine wpAny_assign_Name (store_ok2 (v := .ref Da) I7 hN hiN hy rfl (fun s8 I8 hb => ?_) hf)
  obtain ⟨a, hs8, ha⟩ := hb
  have nCa : s3.heap.objs.size ≠ a := by
    rcases ha with z | z
    · rw [z]; exact nL
    · exact (nc y a z).symm
  refine ⟨m, hn.sameBut hs8 nCa, fun h9 hs9 => ?_⟩
  exact ⟨_, H5, I8.turned (t' := s8.toks) (fun b o hb e => (hs9.2 b hb).trans e) hC nL (.inr (Nat.le_trans I3.sz (Nat.le_refl _))) nc np, qn⟩
end
end L2
set_option Elab.async false
set_option linter.all false
set_option maxRecDepth 100000
set_option maxHeartbeats 4000000
namespace L2
open PySem PySem.Spec PyProof.Rows
section
variable {X : Cx}
def rTupleU : List V → Hp → VK → Prop := fun xs H Q => match xs with
  | [.ref p] => (∃ ys, lstOf (H p) = some ys ∧ ∀ l, H l = none → Q (.ref l) (upd H l (.tup ys))) ∨ (∃ ys, tupOf (H p) = some ys ∧ Q (.ref p) H)
  | _ => False
theorem call_tupleU : CallR X (.type "tuple") rTupleU := by
  intro pins s σ H xs us Q I r h
  unfold rTupleU at h
  split at h
  · rename_i p
    rcases h with ⟨ys, e, h⟩ | ⟨ys, e, h⟩
    · exact call_tuple_of pins s σ H _ us Q I r ⟨p, ys, rfl, .inl ⟨SqL.of (of_lstOf e), h⟩⟩
    · exact call_tuple_of pins s σ H _ us Q I r ⟨p, ys, rfl, .inr ⟨SqT.of (of_tupOf e), h⟩⟩
  · exact h.elim
theorem rTupleU_lst {p : Addr} {H : Hp} {Q : VK} {ys : List V} (e : H p = some (.lst ys)) (h : ∀ l, H l = none → Q (.ref l) (upd H l (.tup ys))) : rTupleU [.ref p] H Q := .inl ⟨ys, by rw [e]; rfl, h⟩
def rMulW : R2 := fun x y H Q => match x, y with
  | .int i, .int j => CMul i j ∧ Q (.int (i * j)) H
  | .ref l, .int k => ∃ xs, lstOf (H l) = some xs ∧ 0 ≤ k ∧ k < 2 ^ 62 ∧ xs.length * k.toNat ≤ sizeLine ∧ ∀ p, H p = none → Q (.ref p) (upd H p (.lst (List.replicate k.toNat xs).flatten))
  | _, _ => False
theorem op_mulW : OpR X (binaryOp .Mult) rMulW := by
  intro pins s σ H x y v u Q I rx ry h
  cases x with
  | int i => cases y with
    | int j => exact op_mul pins s σ H _ _ v u Q I rx ry ⟨i, j, rfl, rfl, h⟩
    | _ => exact False.elim h
  | ref l => cases y with
    | int k =>
      obtain ⟨xs, e, k0, k1, h⟩ := h
      exact op_rep pins s σ H _ _ v u Q I rx ry ⟨l, k, xs, rfl, rfl, of_lstOf e, by omega, by omega, h⟩
    | _ => exact False.elim h
  | _ => exact False.elim h
theorem rMulW_int (H : Hp) (Q : VK) (i j : Int) : rMulW (.int i) (.int j) H Q = (CMul i j ∧ Q (.int (i * j)) H) := rfl
theorem rMulW_ref (H : Hp) (Q : VK) (l : Addr) (k : Int) : rMulW (.ref l) (.int k) H Q = (∃ xs, lstOf (H l) = some xs ∧ 0 ≤ k ∧ k < 2 ^ 62 ∧ xs.length * k.toNat ≤ sizeLine ∧ ∀ p, H p = none → Q (.ref p) (upd H p (.lst (List.replicate k.toNat xs).flatten))) := rfl
def isS (x : V) : Prop := match x with
  | .str _ => True
  | _ => False
def tBMS (r : V → List V → Hp → VK → Prop) (to : TE) (t : TA) : TE := fun σ H Q => to σ H fun x H1 => isS x ∧ t σ H1 fun xs H2 => r x xs H2 Q
theorem isS.ty {K : PySem.W.Frag} {x : V} {H : Hp} (h : isS x) : tyV K "str" x H := by
  unfold isS at h
  split at h
  · rfl
  · exact h.elim
theorem isS_str (z : Str) : isS (.str z) = True := rfl
theorem mono_c {v : V} : ∀ σ H Q Q', (∀ v H', Q v H' → Q' v H') → tC v σ H Q → tC v σ H Q' := fun _ _ _ _ h q => h _ _ q
variable {o e : Expr} {es : List Expr} {to : TE} {t : TA} {name : Str} {apos cpos : Pos} {id : String} {r : V → List V → Hp → VK → Prop}
theorem pe_bmS (slot : Slot "str" name id) (hty : typeOf (.builtin id) = pure (.type "method_descriptor")) (hm : MtM X id r) (ho : PE X o to) (ha : PA X (e :: es) t) (mono : ∀ σ H Q Q', (∀ v H', Q v H' → Q' v H') → to σ H Q → to σ H Q')
    (hbase : attributeBase o name X.env (eval o X.env) = eval o X.env := by rfl)
    (hfew : ((backTo cpos (starEach (e :: es) X.env)).all (fun x => !x.1) && (backToKw cpos (keywordEach [] X.env)).all (fun x => x.1.isSome)
      && decide ((e :: es).length + ([] : List Keyword).length + (if ([] : List Keyword).isEmpty then 0 else 1) < 30)) = true := by rfl)
    (hline : (apos.endLine == cpos.line) = true := by rfl) (hs : starEach (e :: es) X.env = (false, eval e X.env) :: starEach es X.env := by rfl) (hplain : (backTo cpos (starEach es X.env)).any (·.1) = false := by rfl) :
    PE X (.Call (.Attribute o name apos) (e :: es) [] cpos) (tBMS r to t) :=
  (pe_bm PySem.F.plainAttrs_str slot hty hm ho ha hbase hfew hline hs hplain).imp fun σ H Q h => mono σ H _ _ (fun v H' q => ⟨q.1.ty, q.2⟩) h
theorem strsAre_of : ∀ {ys : List Str} {us : List Value}, Vals (ys.map V.str) us → StrsAre us ys
  | [], us, r => by rw [List.map_nil] at r; cases r; exact .nil
  | y :: ys, us, r => by
    rw [List.map_cons] at r
    cases r with
    | cons r1 r2 =>
      obtain ⟨t, rfl⟩ := r1
      exact .cons y t (strsAre_of r2)
def rJoinU : V → List V → Hp → VK → Prop := fun x vs H Q => match x, vs with
  | .str z, [.ref p] => ∃ ys : List Str, H p = some (.lst (ys.map V.str)) ∧ (ys.map (·.length)).sum + ys.length * z.length ≤ 16777216 ∧ Q (.str (Txt.join z ys)) H
  | _, _ => False
theorem mt_joinU : MtM X "str.join" rJoinU := by
  intro pins s σ H x vs v us Q I rx rv h
  unfold rJoinU at h
  split at h
  · rename_i z p
    obtain ⟨ys, e, hz, q⟩ := h
    obtain ⟨t, rfl⟩ := rx
    obtain ⟨u, rfl, ru⟩ := rv.one
    cases ru
    obtain ⟨its, rr, pl, _⟩ := I.list (SqL.of e)
    exact join_list pl.isList (by simpa using strsAre_of rr) hz fun t' k => ⟨.str _, H, I.tok k, ⟨_, rfl⟩, q⟩
  · exact h.elim
def cutS (z : Str) (lo hi : Option Int) : Str := ⟨((z.cps.toList.drop (HT.sIx z.length 0 lo)).take (HT.sIx z.length z.length hi - HT.sIx z.length 0 lo)).toArray⟩
theorem strIx_eq (lo hi : Option Int) (n : Nat) : Builtin.Str.strSliceIndices lo hi 1 n = (List.range (HT.sIx n n hi - HT.sIx n 0 lo)).map (HT.sIx n 0 lo + ·) := by
  rw [← sliceRange_one]
  unfold Builtin.Str.strSliceIndices
  have e1 : (match lo with | none => (if (1 : Int) > 0 then (0 : Int) else (n : Int) - 1) | some i => let i := if i < 0 then i + (n : Int) else i; if (1 : Int) > 0 then max 0 (min i (n : Int)) else max (-1) (min i ((n : Int) - 1))) = ((HT.sIx n 0 lo : Nat) : Int) := by
    cases lo with
    | none => simp [HT.sIx]
    | some v =>
      simp only [show (1 : Int) > 0 by decide, if_true, HT.sIx]
      by_cases h : v < 0
      · simp only [h, if_true]; omega
      · simp only [h, if_false]; omega
  have e2 : (match hi with | none => (if (1 : Int) > 0 then (n : Int) else -1) | some i => let i := if i < 0 then i + (n : Int) else i; if (1 : Int) > 0 then max 0 (min i (n : Int)) else max (-1) (min i ((n : Int) - 1))) = ((HT.sIx n n hi : Nat) : Int) := by
    cases hi with
    | none => simp [HT.sIx]
    | some v =>
      simp only [show (1 : Int) > 0 by decide, if_true, HT.sIx]
      by_cases h : v < 0
      · simp only [h, if_true]; omega
      · simp only [h, if_false]; omega
  have key : ∀ a b a' b' : Int, a = a' → b = b' → sliceRange a b 1 = sliceRange a' b' 1 := by
    intro a b a' b' h1 h2
    rw [h1, h2]
  exact key _ _ _ _ e1 e2
theorem cutS_eq (z : Str) (lo hi : Option Int) : Txt.slice z lo hi = cutS z lo hi := by
  have e : (Builtin.Str.strSliceIndices lo hi 1 z.length).filterMap (z.cps[·]?) = (z.cps.toList.drop (HT.sIx z.length 0 lo)).take (HT.sIx z.length z.length hi - HT.sIx z.length 0 lo) := by
    rw [strIx_eq, pick_run]
  unfold Txt.slice cutS
  split
  · rename_i h
    have h2 : ((Builtin.Str.strSliceIndices lo hi 1 z.length).length == z.length) = true := by simpa using h
    have h3 : (Builtin.Str.strSliceIndices lo hi 1 z.length).length = z.length := eq_of_beq h2
    rw [strIx_eq, List.length_map, List.length_range] at h3
    have hl : z.cps.toList.length = z.length := by simp [Str.length]
    have q : ((z.cps.toList.drop (HT.sIx z.length 0 lo)).take (HT.sIx z.length z.length hi - HT.sIx z.length 0 lo)) = z.cps.toList := by
      have hb : HT.sIx z.length z.length hi ≤ z.length := by
        cases hi with
        | none => exact Nat.le_refl _
        | some v => simp only [HT.sIx]; split <;> omega
      by_cases h0 : z.length = 0
      · have : z.cps.toList = [] := List.length_eq_zero_iff.mp (by omega)
        rw [this]; simp
      · have ha : HT.sIx z.length 0 lo = 0 := by omega
        rw [h3, ha, List.drop_zero]
        exact List.take_of_length_le (by omega)
    rw [q]
  · rw [e]
def rSlS : V → Option Int → Option Int → Hp → VK → Prop := fun x lo hi H Q => ∃ z, x = .str z ∧ z.length ≤ sizeLine ∧ Q (.str (cutS z lo hi)) H
theorem sl_str : SlR X rSlS := by
  intro pins s σ H x v vl vu lo hi sl Q I rx hs pl pu h
  obtain ⟨z, rfl, hz, q⟩ := h
  obtain ⟨t, rfl⟩ := rx
  have gen : ∀ (l u : Option (Int × Tok)), vl = partValue l → vu = partValue u → lo = l.map (·.1) → hi = u.map (·.1) →
      wpAny (model X.prog X.w) X.A (getItem (.str z t) (.ref sl)) (EP X pins σ Q) X.xe s := by
    intro l u e1 e2 e3 e4
    subst e1 e2 e3 e4
    refine wpAny_getItem_str_slice (l := l) (u := u) (st := none) hs (by rfl) ?_
    have e : (if ((((none : Option (Int × Tok)).map (·.1)).getD 1 == 1 && (slicePicked z l u none).length == z.length) = true) then z else ⟨((slicePicked z l u none).filterMap (z.cps[·]?)).toArray⟩) = cutS z (l.map (·.1)) (u.map (·.1)) := by
      rw [← cutS_eq]; rfl
    refine post_val_or_str ⟨?_, fun t' c => ⟨.str (cutS z (l.map (·.1)) (u.map (·.1))), H, I.tok c, ⟨t', congrArg (Value.str · t') e⟩, q⟩⟩
    rw [e, ← cutS_eq]
    exact Nat.le_trans (Txt.slice_le _ _ _) hz
  refine ⟨"str", _, F.slot_str_getitem.lookup, typeIs_str _ _ _, ?_⟩
  cases pl with
  | none => cases pu with
    | none => exact gen none none rfl rfl rfl rfl
    | int j tj => exact gen none (some (j, tj)) rfl rfl rfl rfl
  | int i ti => cases pu with
    | none => exact gen (some (i, ti)) none rfl rfl rfl rfl
    | int j tj => exact gen (some (i, ti)) (some (j, tj)) rfl rfl rfl rfl
def compChk (sc : Scope) (N : List Str) (scope : Scope) (Nc : List Str) (js : List (Option Nat)) : Bool :=
  (scope.kind == .function) && scope.names.all (fun y => !(y.2 == .cell)) && scope.names.all (fun y => !(y.2 == .local) || scope.names.lookup y.1 == some .local) &&
  scope.names.all (fun y => !(y.2 == .free) || ((sc.names.lookup y.1 == some .cell || sc.names.lookup y.1 == some .free) && !(scope.names.lookup y.1 == some .local))) && (js.length == Nc.length) &&
  (List.range js.length).all (fun i => match js[i]? with
    | some (some j) => (N[j]? == Nc[i]?) && (match Nc[i]? with | some x => scope.names.any (fun y => y.1 == x && y.2 == .free) | none => true)
    | _ => true)
theorem compOk_of {sc scope : Scope} {N Nc : List Str} {js : List (Option Nat)} (hd : compChk sc N scope Nc js = true) (hsc : X.env.scope = sc := by rfl) (hN : X.N = N := by rfl) : CompOk X scope Nc js := by
  simp only [compChk, Bool.and_eq_true, List.all_eq_true, Bool.or_eq_true, Bool.not_eq_true', beq_iff_eq, List.mem_range] at hd
  obtain ⟨⟨⟨⟨⟨h1, h2⟩, h3⟩, h4⟩, h5⟩, h6⟩ := hd
  have kk : ∀ x, X.env.kindOf x = sc.names.lookup x := fun x => by rw [← hsc]; rfl
  refine ⟨h1, fun y hy e => ?_, fun y hy e => ?_, fun y hy e => ?_, h5, fun x hx => ?_, fun i j x e1 e2 => ?_⟩
  · have := h2 y hy
    rw [e] at this; cases this
  · rcases h3 y hy with q | q
    · rw [e] at q; cases q
    · exact q
  · rcases h4 y hy with q | q
    · rw [e] at q; cases q
    · rw [kk]
      exact q.1
  · rcases h4 _ hx with q | q
    · cases q
    · intro z
      have q2 := q.2
      rw [z] at q2
      cases q2
  · have hi : i < js.length := (List.getElem?_eq_some_iff.mp e1).1
    have q := h6 i hi
    rw [e1, e2] at q
    simp only [Bool.and_eq_true, beq_iff_eq, List.any_eq_true] at q
    refine ⟨by rw [hN]; exact q.1, ?_⟩
    obtain ⟨y, hy, hy1, hy2⟩ := q.2
    obtain ⟨a, b⟩ := y
    simp only at hy1 hy2
    subst hy1 hy2
    exact hy
end
end L2
set_option Elab.async false
set_option linter.all false
set_option maxRecDepth 100000
set_option maxHeartbeats 4000000
namespace L2
open PySem PySem.Spec PyProof.Rows
section
variable {X : Cx}
def rRangeU : List V → Hp → VK → Prop := fun xs H Q => match xs with
  | [.int j] => -(2 ^ 62) ≤ j ∧ j < 2 ^ 62 ∧ ∀ p, H p = none → Q (.ref p) (upd H p (.rng 0 j))
  | [.int i, .int j] => -(2 ^ 62) ≤ i ∧ i < 2 ^ 62 ∧ -(2 ^ 62) ≤ j ∧ j < 2 ^ 62 ∧ ∀ p, H p = none → Q (.ref p) (upd H p (.rng i j))
  | _ => False
theorem call_rangeU : CallR X (.type "range") rRangeU := by
  intro pins s σ H xs us Q I r h
  unfold rRangeU at h
  split at h
  · rename_i j
    obtain ⟨u, rfl, t, rfl⟩ := vals1 r
    obtain ⟨h1, h2, q⟩ := h
    refine call_range_1 ⟨.ref s.heap.objs.size, upd H s.heap.objs.size (.rng 0 j), I.laid (fun b o e => Heap.get?_push_of_some _ e) (Nat.le_refl _) ⟨_, _, _, Heap.get?_push_size _ rfl⟩, rfl, q _ (I.hok.fresh (Nat.le_refl _))⟩
  · rename_i i j
    obtain ⟨u, w', rfl, ⟨t, rfl⟩, ⟨t', rfl⟩⟩ := vals2 r
    obtain ⟨h1, h2, h3, h4, q⟩ := h
    refine call_range_2 ⟨.ref s.heap.objs.size, upd H s.heap.objs.size (.rng i j), I.laid (fun b o e => Heap.get?_push_of_some _ e) (Nat.le_refl _) ⟨_, _, _, Heap.get?_push_size _ rfl⟩, rfl, q _ (I.hok.fresh (Nat.le_refl _))⟩
  · exact h.elim
end
end L2
set_option Elab.async false
set_option linter.all false
set_option maxRecDepth 100000
set_option maxHeartbeats 4000000
namespace L2
open PySem PySem.Spec PyProof.Rows
section
variable {X : Cx}
def rListR : List V → Hp → VK → Prop := fun xs H Q => match xs with
  | [.ref p] => ∃ lo hi : Int, H p = some (.rng lo hi) ∧ -(2 ^ 62) ≤ lo ∧ lo < 2 ^ 62 ∧ -(2 ^ 62) ≤ hi ∧ hi < 2 ^ 62 ∧ (hi - lo).toNat ≤ sizeLine ∧ ∀ l, H l = none → Q (.ref l) (upd H l (.lst ((List.range (hi - lo).toNat).map fun i => V.int (lo + (i : Nat)))))
  | _ => False
theorem vals_of {xs : List V} {us : List Value} (hl : xs.length = us.length) (h : ∀ (i : Nat) (x : V) (u : Value), xs[i]? = some x → us[i]? = some u → RelV x u) : Vals xs us := by
  induction xs generalizing us with
  | nil => cases us with
    | nil => exact .nil
    | cons _ _ => simp at hl
  | cons x xs ih => cases us with
    | nil => simp at hl
    | cons u us => exact .cons (h 0 x u rfl rfl) (ih (by simpa using hl) fun i a b e1 e2 => h (i + 1) a b (by simpa using e1) (by simpa using e2))
theorem call_listR (hc : X.calm = true) : CallR X (.type "list") rListR := by
  intro pins s σ H xs us Q I r h
  unfold rListR at h
  split at h
  · rename_i p
    obtain ⟨lo, hi, e, h1, h2, h3, h4, hz, q⟩ := h
    obtain ⟨u, rfl, ru⟩ := vals1 r
    cases ru
    obtain ⟨t, u, v, e'⟩ := (show ObjOk X.prog X.w H s.heap p (.rng lo hi) from I.hok p _ e)
    have hsz : sizeLine = 16777216 := sizeLine_eq
    refine call_list_range (n := (hi - lo).toNat) (I.ok.hd hc) (show IsRange s.heap p lo hi 1 t u v from e') (small_one h1 h2 h3 h4) (by rw [rangeSize_one]; split <;> omega) (by omega) fun h' tk acc c hk hn hit => ?_
    refine ⟨.ref s.heap.objs.size, _, I.laid (o := .lst ((List.range (hi - lo).toNat).map fun i => V.int (lo + (i : Nat)))) hk (Nat.le_refl _) ⟨?_, acc.toList, c, ?_, by simpa using hn⟩, rfl, q _ (I.hok.fresh (Nat.le_refl _))⟩
    · rw [List.length_map, List.length_range]; exact hz
    · obtain ⟨i1, i2⟩ := hit
      refine vals_of (by simp [i1]) fun i x u e1 e2 => ?_
      obtain ⟨t', ht⟩ := i2 i u (by simpa using e2)
      subst ht
      rw [List.getElem?_map] at e1
      cases q : (List.range (hi - lo).toNat)[i]? with
      | none => rw [q] at e1; cases e1
      | some j =>
        rw [q] at e1
        have ej : j = i := by
          have := List.getElem?_eq_some_iff.mp q
          obtain ⟨_, e⟩ := this
          simpa using e.symm
        subst ej
        have e1' : V.int (lo + (j : Nat)) = x := Option.some.inj e1
        subst e1'
        exact ⟨t', by rw [Int.mul_one]⟩
  · exact h.elim
def rAddW : R2 := fun x y H Q => match x, y with
  | .int i, .int j => Q (.int (i + j)) H
  | .str i, .str j => i.length + j.length ≤ sizeLine ∧ Q (.str (i ++ j)) H
  | .ref l, .ref b => (∃ xs zs, lstOf (H l) = some xs ∧ lstOf (H b) = some zs ∧ xs.length + zs.length ≤ sizeLine ∧ ∀ p, H p = none → Q (.ref p) (upd H p (.lst (xs ++ zs)))) ∨
      (∃ xs zs, tupOf (H l) = some xs ∧ tupOf (H b) = some zs ∧ xs ≠ [] ∧ zs ≠ [] ∧ xs.length + zs.length ≤ sizeLine ∧ ∀ p, H p = none → Q (.ref p) (upd H p (.tup (xs ++ zs))))
  | _, _ => False
theorem op_addW : OpR X (binaryOp .Add) rAddW := by
  intro pins s σ H x y v u Q I rx ry h
  cases x with
  | int i => cases y with
    | int j => exact op_add pins s σ H _ _ v u Q I rx ry ⟨i, j, rfl, rfl, h⟩
    | _ => exact False.elim h
  | str i => cases y with
    | str j => exact op_add_str pins s σ H _ _ v u Q I rx ry ⟨i, j, rfl, rfl, h⟩
    | _ => exact False.elim h
  | ref l => cases y with
    | ref b =>
      rcases h with ⟨xs, zs, e1, e2, h⟩ | ⟨xs, zs, e1, e2, n1, n2, hz, h⟩
      · exact op_cat pins s σ H _ _ v u Q I rx ry ⟨l, b, xs, zs, rfl, rfl, of_lstOf e1, of_lstOf e2, h⟩
      · exact op_catT pins s σ H _ _ v u Q I rx ry ⟨l, b, xs, zs, rfl, rfl, SqT.of (of_tupOf e1), SqT.of (of_tupOf e2), n1, hz, fun z => absurd z n2, fun _ => h⟩
    | _ => exact False.elim h
  | _ => exact False.elim h
theorem rAddW_int (H : Hp) (Q : VK) (i j : Int) : rAddW (.int i) (.int j) H Q = (Q (.int (i + j)) H) := rfl
theorem rAddW_str (H : Hp) (Q : VK) (i j : Str) : rAddW (.str i) (.str j) H Q = (i.length + j.length ≤ sizeLine ∧ Q (.str (i ++ j)) H) := rfl
theorem rAddW.lst {H : Hp} {Q : VK} {l b : Addr} {xs zs : List V} (e1 : H l = some (.lst xs)) (e2 : H b = some (.lst zs)) (hz : xs.length + zs.length ≤ sizeLine)
    (h : ∀ p, H p = none → Q (.ref p) (upd H p (.lst (xs ++ zs)))) : rAddW (.ref l) (.ref b) H Q := .inl ⟨xs, zs, by rw [e1]; rfl, by rw [e2]; rfl, hz, h⟩
end
end L2
set_option Elab.async false
set_option linter.all false
set_option maxRecDepth 100000
set_option maxHeartbeats 4000000
namespace L2
open PySem PySem.Spec PyProof.Rows
section
variable {X : Cx} {pos : Pos} {k v : Expr} {tk tv : TE}
end
end L2
set_option Elab.async false
set_option linter.all false
set_option maxRecDepth 100000
set_option maxHeartbeats 4000000
namespace L2
open PySem PySem.Spec PyProof.Rows
section
variable {X : Cx}
def rSlU (K : PySem.W.Frag) : V → Option Int → Option Int → Hp → VK → Prop := fun x lo hi H Q => match x with
  | .str z => z.length ≤ sizeLine ∧ Q (.str (cutS z lo hi)) H
  | .ref a => (∃ xs, SqL K H a xs ∧ ∀ p, H p = none → Q (.ref p) (upd H p (.lst (cutV xs lo hi)))) ∨
      ∃ xs, SqT K H a xs ∧ ¬ (HT.sIx xs.length 0 lo = 0 ∧ HT.sIx xs.length xs.length hi = xs.length) ∧ ∀ p, H p = none → Q (.ref p) (upd H p (.tup (cutV xs lo hi)))
  | _ => False
theorem sl_U : SlR X (rSlU X.K) := by
  intro pins s σ H x v vl vu lo hi sl Q I rx hs pl pu h
  unfold rSlU at h
  split at h
  · rename_i z
    exact sl_str pins s σ H (.str z) v vl vu lo hi sl Q I rx hs pl pu ⟨z, rfl, h⟩
  · rename_i a
    rcases h with ⟨xs, hx, q⟩ | ⟨xs, hx, nw, q⟩
    · exact sl_list pins s σ H (.ref a) v vl vu lo hi sl Q I rx hs pl pu ⟨a, xs, rfl, hx, q⟩
    · exact sl_tup pins s σ H (.ref a) v vl vu lo hi sl Q I rx hs pl pu ⟨a, xs, rfl, hx, nw, q⟩
  · exact h.elim
theorem rSlU_str (K : PySem.W.Frag) (H : Hp) (Q : VK) (z : Str) (lo hi : Option Int) : rSlU K (.str z) lo hi H Q = (z.length ≤ sizeLine ∧ Q (.str (cutS z lo hi)) H) := rfl
theorem rSlU.lst {K : PySem.W.Frag} {H : Hp} {Q : VK} {a : Addr} {xs : List V} {lo hi : Option Int} (e : H a = some (.lst xs)) (h : ∀ p, H p = none → Q (.ref p) (upd H p (.lst (cutV xs lo hi)))) : rSlU K (.ref a) lo hi H Q := .inl ⟨xs, SqL.of e, h⟩
theorem rSlU.tup {K : PySem.W.Frag} {H : Hp} {Q : VK} {a : Addr} {xs : List V} {lo hi : Option Int} (e : H a = some (.tup xs)) (nw : ¬ (HT.sIx xs.length 0 lo = 0 ∧ HT.sIx xs.length xs.length hi = xs.length)) (h : ∀ p, H p = none → Q (.ref p) (upd H p (.tup (cutV xs lo hi)))) : rSlU K (.ref a) lo hi H Q := .inr ⟨xs, SqT.of e, nw, h⟩
end
end L2
set_option Elab.async false
set_option linter.all false
set_option maxRecDepth 100000
set_option maxHeartbeats 4000000
namespace L2
open PySem PySem.Spec PyProof.Rows
section
variable {X : Cx}
def hasS (z y : Str) : Bool := !(Builtin.Str.occurrences z y 0 z.length 1).isEmpty
def rInU (K : PySem.W.Frag) (neg : Bool) : R2 := fun x y H Q => match x, y with
  | .str i, .str j => Q (.bl (if neg then !hasS j i else hasS j i)) H
  | x, .ref p => ∃ xs, (SqL K H p xs ∨ SqT K H p xs) ∧ flatV x = true ∧ xs.all flatV = true ∧ Q (.bl (if neg then !inV x xs else inV x xs)) H
  | _, _ => False
theorem rInU_str (K : PySem.W.Frag) (neg : Bool) (H : Hp) (Q : VK) (i j : Str) : rInU K neg (.str i) (.str j) H Q = Q (.bl (if neg then !hasS j i else hasS j i)) H := rfl
theorem op_inU {K : PySem.W.Frag} (hK : X.K = K) : OpR X (compareOp .In) (rInU K false) := by
  subst hK
  intro pins s σ H x y v u Q I rx ry h
  unfold rInU at h
  split at h
  · rename_i i j
    exact op_in_str pins s σ H _ _ v u Q I rx ry ⟨i, j, rfl, rfl, h⟩
  · rename_i p
    obtain ⟨xs, h⟩ := h
    exact op_in_seq pins s σ H _ _ v u Q I rx ry ⟨p, xs, rfl, h⟩
  · exact h.elim
theorem op_notinU {K : PySem.W.Frag} (hK : X.K = K) : OpR X (compareOp .NotIn) (rInU K true) := by
  subst hK
  intro pins s σ H x y v u Q I rx ry h
  unfold rInU at h
  split at h
  · rename_i i j
    exact op_notIn_str pins s σ H _ _ v u Q I rx ry ⟨i, j, rfl, rfl, h⟩
  · rename_i p
    obtain ⟨xs, h⟩ := h
    exact op_notIn_seq pins s σ H _ _ v u Q I rx ry ⟨p, xs, rfl, h⟩
  · exact h.elim
theorem rInU.lst {K : PySem.W.Frag} {neg : Bool} {H : Hp} {Q : VK} {x : V} {p : Addr} {xs : List V} (e : H p = some (.lst xs)) (fx : flatV x = true) (fs : xs.all flatV = true) (q : Q (.bl (if neg then !inV x xs else inV x xs)) H) : rInU K neg x (.ref p) H Q := by
  cases x <;> exact ⟨xs, .inl (SqL.of e), fx, fs, q⟩
theorem rInU.tupS {K : PySem.W.Frag} {neg : Bool} {H : Hp} {Q : VK} {x : V} {p : Addr} {xs : List V} (e : SqT K H p xs) (fx : flatV x = true) (fs : xs.all flatV = true) (q : Q (.bl (if neg then !inV x xs else inV x xs)) H) : rInU K neg x (.ref p) H Q := by
  cases x <;> exact ⟨xs, .inr e, fx, fs, q⟩
end
end L2
set_option Elab.async false
set_option linter.all false
set_option maxRecDepth 100000
set_option maxHeartbeats 4000000
namespace L2
open PySem PySem.Spec PyProof.Rows
theorem upd_D {H : Hp} {D : Addr} {a b : HO} : upd (upd H D a) D b = upd H D b := upd_upd
section
variable {D : Addr} {te : TE} {E : Ends} {r : L2.St} {H : Hp}
theorem comp_list {K : PySem.W.Frag} {a : Addr} {xs : List V} (f : V → V) (ha : H a = some (.lst xs)) (hD : H D = none) (hz : xs.length ≤ sizeLine) (he : ∀ x ∈ xs, ∀ l Q, Q (f x) (upd H D (.lst l)) → te (some x :: r) (upd H D (.lst l)) Q)
    (hn : ∀ v, E.nx (v :: r) (upd H D (.lst (xs.map f)))) : LoopR (Itl K a) (gName 0) (tEmit D te) E (none :: r) (upd H D (.lst [])) := by
  have ne : a ≠ D := ne_of_none ha hD
  refine loop_list (xs := xs) (fun i σ H' => ∃ v : Option V, σ = v :: r ∧ H' = upd H D (.lst ((xs.take i).map f))) ⟨none, rfl, rfl⟩ ?_ ?_ ?_
  · rintro i σ H' _ ⟨v, _, rfl⟩
    rw [upd_ne ne]; exact ha
  · rintro i x σ H' hx ⟨v, rfl, rfl⟩
    have hl : i < xs.length := (List.getElem?_eq_some_iff.mp hx).1
    refine he x (List.mem_of_getElem? hx) _ _ ⟨_, by rw [upd_same]; rfl, by simp; omega, some x, rfl, ?_⟩
    rw [upd_D, List.take_succ, hx]
    simp
  · rintro σ H' ⟨v, rfl, rfl⟩
    rw [List.take_of_length_le (Nat.le_refl _)]
    exact hn v
theorem comp_tup {K : PySem.W.Frag} {a : Addr} {xs : List V} (f : V → V) (ha : H a = some (.tup xs)) (hD : H D = none) (hz : xs.length ≤ sizeLine) (he : ∀ x ∈ xs, ∀ l Q, Q (f x) (upd H D (.lst l)) → te (some x :: r) (upd H D (.lst l)) Q)
    (hn : ∀ v, E.nx (v :: r) (upd H D (.lst (xs.map f)))) : LoopR (Itt K a) (gName 0) (tEmit D te) E (none :: r) (upd H D (.lst [])) := by
  have ne : a ≠ D := ne_of_none ha hD
  refine loop_tup (xs := xs) (fun i σ H' => ∃ v : Option V, σ = v :: r ∧ H' = upd H D (.lst ((xs.take i).map f))) ⟨none, rfl, rfl⟩ ?_ ?_ ?_
  · rintro i σ H' _ ⟨v, _, rfl⟩
    rw [upd_ne ne]; exact ha
  · rintro i x σ H' hx ⟨v, rfl, rfl⟩
    have hl : i < xs.length := (List.getElem?_eq_some_iff.mp hx).1
    refine he x (List.mem_of_getElem? hx) _ _ ⟨_, by rw [upd_same]; rfl, by simp; omega, some x, rfl, ?_⟩
    rw [upd_D, List.take_succ, hx]
    simp
  · rintro σ H' ⟨v, rfl, rfl⟩
    rw [List.take_of_length_le (Nat.le_refl _)]
    exact hn v
end
end L2
set_option Elab.async false
set_option linter.all false
set_option maxRecDepth 100000
set_option maxHeartbeats 4000000
set_option autoImplicit true
set_option relaxedAutoImplicit true
namespace L2
open PySem PySem.Spec PyProof.Rows
structure QE (X : Cx) (e : Expr) (t : TE) : Prop where
  h : PE X e t
structure QT (X : Cx) (e : Expr) (t : TT) : Prop where
  h : PT X e t
structure QW (X : Cx) (e : Expr) (t : TT) : Prop where
  h : PW X e t
structure QA (X : Cx) (es : List Expr) (t : TA) : Prop where
  h : PA X es t
structure QS (X : Cx) (st : Stmt) (t : TS) : Prop where
  h : PS X st t
structure QSs (X : Cx) (st : List Stmt) (t : TS) : Prop where
  h : PSs X st t
structure QG (X : Cx) (e : Expr) (t : TG) : Prop where
  h : PG X e t
structure QI (X : Cx) (tg iter : Expr) (wi : TI) : Prop where
  h : PI X tg iter wi
structure QO (X : Cx) (e : Option Expr) (t : TO) : Prop where
  h : PO X e t
theorem qpss_nil : QSs X [] tNext := ⟨pss_nil⟩
theorem qpss_one (h1 : QS X stm t) : QSs X [stm] t := ⟨pss_one h1.h⟩
theorem qpss_cons (h1 : QS X stm t) (h2 : QSs X rst u) : QSs X (stm :: rst) (tSeq t u) := ⟨pss_cons h1.h h2.h⟩
theorem qpv (i : Nat) {x : Str} {pos : Pos} (hN : X.N[i]? = some x := by rfl) (hv : Vis X.env.scope x := by first | exact Or.inl rfl | exact Or.inr (Or.inl rfl) | exact Or.inr (Or.inr rfl))
    (hd : (x == ("__debug__" : Str)) = false := by decide) (hcd : (x == ("__classdict__" : Str)) = false := by decide) : QE X (.Name x pos) (tVar i) := ⟨pv i hN hv hd hcd⟩
theorem qpe_int : QE X (.Constant (.int i) j pos) (tC (.int i)) := ⟨pe_int⟩
theorem qpe_bl : QE X (.Constant (.bool b) j pos) (tC (.bl b)) := ⟨pe_bl⟩
theorem qpe_str : QE X (.Constant (.str x) j pos) (tC (.str x)) := ⟨pe_str⟩
theorem qpe_glob {x : Str} {v : V} {u : Value} {pos : Pos} (hg : Gl X x) (hm : X.mg x = some u) (r : RelV v u) (hd : (x == ("__debug__" : Str)) = false := by decide) : QE X (.Name x pos) (tC v) := ⟨pe_glob hg hm r hd⟩
theorem qpe_bltn {x : Str} {v : V} {u : Value} {pos : Pos} (hg : Gl X x) (hm : X.mg x = none) (hv : bootBuiltins x = some u) (r : RelV v u) (hn : x ≠ "__name__" := by decide) (hd : (x == ("__debug__" : Str)) = false := by decide) :
    QE X (.Name x pos) (tC v) := ⟨pe_bltn hg hm hv r hn hd⟩
theorem qpe_op (ho : OpR X (binaryOp op) r) (ha : QE X a ta) (hb : QE X b tb) : QE X (.BinOp a op b pos) (tOp r ta tb) := ⟨pe_op ho ha.h hb.h⟩
theorem qpe_not (ha : QE X a ta) : QE X (.UnaryOp .Not a pos) (tNotV ta) := ⟨pe_not ha.h⟩
theorem qpe_un (ho : UnR X (unaryOp op) r) (ha : QE X a ta) : QE X (.UnaryOp op a pos) (tUn r ta) := ⟨pe_un ho ha.h⟩
theorem qpe_cmpR (ho : OpR X (compareOp op) r) (ha : QE X a ta) (hb : QE X b tb) (hm : behindInMarks op b = false) : QE X (.Compare a [op] [b] pos) (tOp r ta tb) := ⟨pe_cmpR ho ha.h hb.h hm⟩
theorem qpt_cmpR (ho : OpR X (compareOp op) r) (ha : QE X a ta) (hb : QE X b tb) (hm : behindInMarks op b = false) : QT X (.Compare a [op] [b] pos) (tTest (tOp r ta tb)) := ⟨pt_cmpR ho ha.h hb.h hm⟩
theorem qpt_not (ha : QT X a tA) : QT X (.UnaryOp .Not a pos) (tNot tA) := ⟨pt_not ha.h⟩
theorem QW.pt (h : QW X e t) : QT X e t := ⟨PW.pt h.h⟩
theorem qpw_and (ha : QT X a tA) (hb : QW X (.BoolOp .And (b :: rst) pos) tB') : QW X (.BoolOp .And (a :: b :: rst) pos) (tAnd tA tB') := ⟨pw_and ha.h hb.h⟩
theorem qpw_or (ha : QT X a tA) (hb : QW X (.BoolOp .Or (b :: rst) pos) tB') : QW X (.BoolOp .Or (a :: b :: rst) pos) (tOr tA tB') := ⟨pw_or ha.h hb.h⟩
theorem qpw_and1 (ha : QT X a tA) : QW X (.BoolOp .And [a] pos) tA := ⟨pw_and1 ha.h⟩
theorem qpw_or1 (ha : QT X a tA) : QW X (.BoolOp .Or [a] pos) tA := ⟨pw_or1 ha.h⟩
theorem qpt_val {e : Expr} (h : QE X e t) (he : ∀ whole, isTrue e X.env whole = (do let v ← whole; standAt e.pos; holding [v] (truthy v)) := by intro _; rfl) : QT X e (tB t) := ⟨pt_val h.h he⟩
theorem qpe_one (h : QE X a t) : QE X (.BoolOp op [a] pos) t := ⟨pe_one h.h⟩
theorem qpe_and (ha : QE X a ta) (hb : QE X (.BoolOp .And (b :: rst) pos) tb) : QE X (.BoolOp .And (a :: b :: rst) pos) (tAndV ta tb) := ⟨pe_and ha.h hb.h⟩
theorem qpe_ifExp (hc : QT X c tA) (ha : QE X a ta) (hb : QE X b tb) : QE X (.IfExp c a b pos) (tIf tA ta tb) := ⟨pe_ifExp hc.h ha.h hb.h⟩
theorem qpe_lst (h : QA X es t) : QE X (.List es pos) (tLst t) := ⟨pe_lst h.h⟩
theorem qpe_tup (h : QA X es t) : QE X (.Tuple es x1 pos) (tTup t) := ⟨pe_tup h.h⟩
theorem qpe_slice (hr : SlR X r) (he : QE X e te) (hl : QO X lw tl) (hu : QO X hi th) : QE X (.Subscript e (.Slice lw hi none p2) pos) (tSl r te tl th) := ⟨pe_slice hr he.h hl.h hu.h⟩
theorem qpo_none : QO X none tNoPart := ⟨po_none⟩
theorem qpo_some (h : QE X e te) : QO X (some e) (tPart te) := ⟨po_some h.h⟩
theorem qpe_ix (hr : IxR X r) (ha : QE X a ta) (hb : QE X b tb) (hs : PlainIx b) : QE X (.Subscript a b pos) (tOp r ta tb) := ⟨pe_ix hr ha.h hb.h hs⟩
theorem qpe_comp (hc : X.calm = true) (c : CompOk X scope Nc js) (hi : QI X tg iter wi) (hg : ∀ C s3 H3 fp, QG (X.comp scope C Nc s3 H3 fp) tg g) (he : ∀ C s3 H3 fp, QE (X.comp scope C Nc s3 H3 fp) elt te)
    (hs : ∀ x, foldedSetIterable iter X.env x = pure x := by intro _; rfl) : QE X (.ListComp elt [⟨tg, iter, [], 0⟩] scope pos) (tComp wi g js te) := ⟨pe_comp hc c hi.h (fun C s H f => (hg C s H f).h) (fun C s H f => (he C s H f).h) hs⟩
theorem qps_setc {i : Nat} {y : Str} {py spos : Pos} (hN : X.N.Nodup) (hiN : X.N[i]? = some y) (hy : Loc X.env.scope y) (hc : X.calm = true) (c : CompOk X scope Nc js) (hi : QI X tg iter wi) (hg : ∀ C s3 H3 fp, QG (X.comp scope C Nc s3 H3 fp) tg g)
    (he : ∀ C s3 H3 fp, QE (X.comp scope C Nc s3 H3 fp) elt te) (hsw : swapsWith (.ListComp elt [⟨tg, iter, [], 0⟩] scope pos) (some (.Name y py)) spos.line X.env = pure true := by rfl)
    (hs : ∀ x, foldedSetIterable iter X.env x = pure x := by intro _; rfl) (hf : X.fn y = true ∨ X.env.scope.names.lookup y = some .local := by first | exact .inl rfl | exact .inr rfl | assumption) :
    QS X (.Assign [.Name y py] (.ListComp elt [⟨tg, iter, [], 0⟩] scope pos) spos) (tAsg (tComp wi g js te) (gName i)) := ⟨ps_setc hN hiN hy hc c hi.h (fun C s H f => (hg C s H f).h) (fun C s H f => (he C s H f).h) hsw hs hf⟩
theorem qpe_call (F : FnOk X.prog X.w X.K X.mg X.base CX k f fd ps sp) (hr : Room k X.A) (hg : Gl X x) (hm : X.mg x = some (.ref f)) (hk : PySem.W.keepIn X.K (.ref f) = true) (hb : Binds X.K fd ps ds) (hd : Vals dvs ds) (hx : Passes CX X E)
    (ha : QA X (e :: es) t) (hdb : (x == ("__debug__" : Str)) = false := by decide) (he : starEach (e :: es) X.env = (false, eval e X.env) :: starEach es X.env := by rfl) (hpl : (backTo pos (starEach es X.env)).any (·.1) = false := by rfl) :
    QE X (.Call (.Name x p) (e :: es) [] pos) (tCall sp dvs E t) := ⟨pe_call F hr hg hm hk hb hd hx ha.h hdb he hpl⟩
theorem qpe_callTy (hc : CallR X (.type T) r) (hg : Gl X x) (hm : X.mg x = none) (hv : bootBuiltins x = some (.type T)) (ha : QA X (e :: es) t) (hn : x ≠ "__name__" := by decide) (hdb : (x == ("__debug__" : Str)) = false := by decide)
    (he : starEach (e :: es) X.env = (false, eval e X.env) :: starEach es X.env := by rfl) (hpl : (backTo pos (starEach es X.env)).any (·.1) = false := by rfl) : QE X (.Call (.Name x p) (e :: es) [] pos) (tCB r t) := ⟨pe_callTy hc hg hm hv ha.h hn hdb he hpl⟩
theorem qpe_callB (hc : CallR X (.builtin idn) r) (hg : Gl X x) (hm : X.mg x = none) (hv : bootBuiltins x = some (.builtin idn)) (ha : QA X (e :: es) t) (hn : x ≠ "__name__" := by decide) (hdb : (x == ("__debug__" : Str)) = false := by decide)
    (he : starEach (e :: es) X.env = (false, eval e X.env) :: starEach es X.env := by rfl) (hpl : (backTo pos (starEach es X.env)).any (·.1) = false := by rfl) : QE X (.Call (.Name x p) (e :: es) [] pos) (tCB r t) := ⟨pe_callB hc hg hm hv ha.h hn hdb he hpl⟩
theorem qpe_bmL (slot : Slot "list" name idn) (hty : typeOf (.builtin idn) = pure (.type "method_descriptor")) (hm : MtM X idn r) (ho : QE X o to) (ha : QA X (e :: es) t) (mono : ∀ σ H Q Q', (∀ v H', Q v H' → Q' v H') → to σ H Q → to σ H Q')
    (hbase : attributeBase o name X.env (eval o X.env) = eval o X.env := by rfl)
    (hfew : ((backTo cpos (starEach (e :: es) X.env)).all (fun x => !x.1) && (backToKw cpos (keywordEach [] X.env)).all (fun x => x.1.isSome)
      && decide ((e :: es).length + ([] : List Keyword).length + (if ([] : List Keyword).isEmpty then 0 else 1) < 30)) = true := by rfl)
    (hline : (apos.endLine == cpos.line) = true := by rfl) (hs : starEach (e :: es) X.env = (false, eval e X.env) :: starEach es X.env := by rfl) (hplain : (backTo cpos (starEach es X.env)).any (·.1) = false := by rfl) :
    QE X (.Call (.Attribute o name apos) (e :: es) [] cpos) (tBML r to t) := ⟨pe_bmL slot hty hm ho.h ha.h mono hbase hfew hline hs hplain⟩
theorem qpe_bmS (slot : Slot "str" name idn) (hty : typeOf (.builtin idn) = pure (.type "method_descriptor")) (hm : MtM X idn r) (ho : QE X o to) (ha : QA X (e :: es) t) (mono : ∀ σ H Q Q', (∀ v H', Q v H' → Q' v H') → to σ H Q → to σ H Q')
    (hbase : attributeBase o name X.env (eval o X.env) = eval o X.env := by rfl)
    (hfew : ((backTo cpos (starEach (e :: es) X.env)).all (fun x => !x.1) && (backToKw cpos (keywordEach [] X.env)).all (fun x => x.1.isSome)
      && decide ((e :: es).length + ([] : List Keyword).length + (if ([] : List Keyword).isEmpty then 0 else 1) < 30)) = true := by rfl)
    (hline : (apos.endLine == cpos.line) = true := by rfl) (hs : starEach (e :: es) X.env = (false, eval e X.env) :: starEach es X.env := by rfl) (hplain : (backTo cpos (starEach es X.env)).any (·.1) = false := by rfl) :
    QE X (.Call (.Attribute o name apos) (e :: es) [] cpos) (tBMS r to t) := ⟨pe_bmS slot hty hm ho.h ha.h mono hbase hfew hline hs hplain⟩
theorem qpa_nil : QA X [] tNil := ⟨pa_nil⟩
theorem qpa_cons (ha : QE X e te) (hr : QA X es t) (hs : starEach (e :: es) X.env = (false, eval e X.env) :: starEach es X.env := by rfl) : QA X (e :: es) (tCons te t) := ⟨pa_cons ha.h hr.h hs⟩
theorem qpg_name {i : Nat} {x : Str} (hN : X.N.Nodup) (hi : X.N[i]? = some x) (hx : Loc X.env.scope x) (hf : X.fn x = true ∨ X.env.scope.names.lookup x = some .local := by first | exact .inl rfl | exact .inr rfl | assumption) : QG X (.Name x pos) (gName i) := ⟨pg_name hN hi hx hf⟩
theorem qpg_sub {o i : Expr} (ho : QE X o to) (hi : QE X i ti) (hs : PSet X t)
    (ha : ∀ v, assign (.Subscript o i pos) X.env v = (do
      let ov ← holding [v] (eval o X.env)
      let iv ← holding [v, ov] (eval i X.env)
      standAt pos
      holding [v, ov, iv] (setItem ov iv v)
      release [v, ov, iv] []) := by intro _; rfl) : QG X (.Subscript o i pos) (gSub to ti t) := ⟨pg_sub ho.h hi.h hs ha⟩
theorem qps_set {i : Nat} {x : Str} {e : Expr} {te : TE} {pos' : Pos} (hN : X.N.Nodup) (hi : X.N[i]? = some x) (hx : Loc X.env.scope x) (he : QE X e te) (hs : swapsWith e (some (.Name x pos')) pos.line X.env = pure false := by rfl)
    (hf : X.fn x = true ∨ X.env.scope.names.lookup x = some .local := by first | exact .inl rfl | exact .inr rfl | assumption) : QS X (.Assign [.Name x pos'] e pos) (tAsg te (gName i)) := ⟨ps_set hN hi hx he.h hs hf⟩
theorem qps_asg {tg e : Expr} (he : QE X e te) (hg : QG X tg g) (hs : swapsWithSole [tg] e pos.line X.env = pure false := by rfl) (hw : swappedStores [tg] e X.env = pure none := by rfl)
    (h1 : (assignEach [tg] X.env).map (·.2) = [assign tg X.env] := by rfl) : QS X (.Assign [tg] e pos) (tAsg te g) := ⟨ps_asg he.h hg.h hs hw h1⟩
theorem qps_ret (he : QE X e te) : QS X (.Return (some e) pos) (tRet te) := ⟨ps_ret he.h⟩
theorem qps_expr (he : QE X e te) (hs : swapsWith e none pos.line X.env = pure false := by rfl) : QS X (.Expr e pos) (tDrop te) := ⟨ps_expr he.h hs⟩
theorem qps_if (hc : QT X c tc) (ha : QSs X a t) (hb : QSs X b u) : QS X (.If c a b pos) (tIfS tc t u) := ⟨ps_if hc.h ha.h hb.h⟩
theorem qps_for {iter : Expr} (hp : PassesOwn (model X.prog X.w) X.A X.env X.xe) (hc : X.calm = true) (hi : QI X tg iter wi) (hg : QG X tg g) (hb : QSs X body tb) (hs : ∀ x, foldedSetIterable iter X.env x = pure x := by intro _; rfl) :
    QS X (.For tg iter body [] pos) (tFor wi g tb) := ⟨ps_for hp hc hi.h hg.h hb.h hs⟩
theorem qps_while (hp : PassesOwn (model X.prog X.w) X.A X.env X.xe) (hc : QT X c tc) (hb : QSs X body tb) : QS X (.While c body [] pos) (tWhile tc tb) := ⟨ps_while hp hc.h hb.h⟩
theorem qpi_range1 {a : Expr} {ta : TA} {p pos : Pos} (hg : Gl X "range") (hm : X.mg "range" = none) (ha : QA X [a] ta) (hs : starEach [a] X.env = [(false, eval a X.env)] := by rfl) : QI X tg (.Call (.Name "range" p) [a] [] pos) (iRng1 ta) := ⟨pi_range1 hg hm ha.h hs⟩
theorem qpi_any {K : PySem.W.Frag} (hl : QE X l tl) (hK : X.K = K) : QI X tg l (iAny K tl) := by subst hK; exact ⟨pi_any hl.h⟩
end L2
set_option Elab.async false
set_option linter.all false
set_option maxRecDepth 100000
set_option maxHeartbeats 4000000
namespace L2
open PySem PySem.Spec PyProof.Rows
def tEmitIf (D : Addr) (tt : TT) (te : TE) : TS := fun E σ H => tt σ H fun b H1 => if b = true then tEmit D te E σ H1 else E.nx σ H1
def tCompIf (wi : TI) (g : TG) (js : List (Option Nat)) (tt : TT) (te : TE) : TE := fun σ H Q => wi σ H fun J H1 => ∀ D, H1 D = none →
  LoopR J g (tEmitIf D tt te) { nx := fun _ H' => Q (.ref D) H', rt := fun _ _ => False } (compSt js σ) (upd H1 D (.lst []))
theorem compTurn_if1 (elt target iter cd : Expr) (scope : Scope) (pos : Pos) (it acc : Value) (env : Env) :
    compTurn (.ListComp elt [⟨target, iter, [cd], 0⟩] scope pos) 0 it acc env = (standAt iter.pos >>= fun _ => pyNext it >>= fun r => match r with
      | none => pure (.done .next)
      | some v => letOwnedTupleGo target it v >>= fun _ => assign target env v >>= fun _ =>
        (forIn [cd] true fun c ok => if ok = true then (isTrue c env (eval c env) >>= fun b => pure (ForInStep.yield b)) else pure (ForInStep.yield ok)) >>= fun ok =>
        if ok = true then ((eval elt env >>= fun x => call (.builtin "list.append") [acc, x] >>= fun _ => pure ()) >>= fun _ => again (.compLoop (.ListComp elt [⟨target, iter, [cd], 0⟩] scope pos) 0 it acc env))
        else again (.compLoop (.ListComp elt [⟨target, iter, [cd], 0⟩] scope pos) 0 it acc env)) := by rfl
section
variable {X : Cx} {scope : Scope} {Nc : List Str} {js : List (Option Nat)} {elt tg iter cd : Expr} {pos : Pos} {wi : TI} {g : TG} {te : TE} {tt : TT}
theorem comp_coreIf (hc : X.calm = true) (c : CompOk X scope Nc js) (hi : PI X tg iter wi) (hg : ∀ C s3 H3 fp, PG (X.comp scope C Nc s3 H3 fp) tg g) (ht : ∀ C s3 H3 fp, PT (X.comp scope C Nc s3 H3 fp) cd tt) (he : ∀ C s3 H3 fp, PE (X.comp scope C Nc s3 H3 fp) elt te)
    {pins : List (Addr × Obj)} {s : Shared} {σ : L2.St} {H : Hp} (I : Inv X pins σ H s) {RR : Value → Addr → Result → Shared → Prop} {NX : Addr → Hp → Prop}
    (h : wi σ H fun J H1 => ∀ D, H1 D = none → LoopR J g (tEmitIf D tt te) { nx := fun _ H' => NX D H', rt := fun _ _ => False } (compSt js σ) (upd H1 D (.lst [])))
    (fin : ∀ D H3 s3 fp σ5 H5 s6, Inv X pins σ H3 s3 → (∀ b ∈ fp, FpOk X pins H3 b) → Inv (X.comp scope s3.heap.objs.size Nc s3 H3 fp) [] σ5 H5 s6 → NX D H5 → RR (.ref D) s3.heap.objs.size (.ok .next) s6) :
    wpAny (model X.prog X.w) X.A (eval iter X.env) (fun x s₁ => wpAny (model X.prog X.w) X.A (pyIter x) (fun it s₂ => wpAny (model X.prog X.w) X.A (newList []) (fun acc s₃ =>
      wpAny (model X.prog X.w) X.A (newFunctionEnv scope X.env.globals (clOf X.env scope.names []) [] X.env.qual none .none (some X.env)) (fun cenv s₄ =>
        codeAny (model X.prog X.w) X.A (.compStart (.ListComp elt [⟨tg, iter, [cd], 0⟩] scope pos) 0 it acc { cenv with scope := relabel scope X.env }) (RR acc cenv.locals) s₄) X.xe s₃) X.xe s₂) X.xe s₁) X.xe s := by
  refine thn (hi pins s σ H _ I h) fun v s1 h1 => thn h1 fun itv s2 h2 => ?_
  obtain ⟨it, fp, tn, J, H2, rfl, I2, T, st2, f2, h2⟩ := h2
  -- the list
  refine wpAny_newObj_type ?_ (by show 0 ≤ sizeLine; decide)
  have hD : H2 s2.heap.objs.size = none := I2.hok.fresh (Nat.le_refl _)
  have I3 : Inv X pins σ (upd H2 s2.heap.objs.size (.lst [])) { s2 with heap := s2.heap.push { cls := .type "list", data := .seq ([] : List Value).toArray } } :=
    I2.laid (t' := s2.toks) (fun b u e => Heap.get?_push_of_some _ e) (Nat.le_refl _) ⟨by show 0 ≤ sizeLine; decide, [], 0, .nil, Heap.get?_push_size _ rfl⟩
  have f3 : ∀ b ∈ fp, FpOk X pins (upd H2 s2.heap.objs.size (.lst [])) b := fun b hb => by
    obtain ⟨q0, q⟩ := f2 b hb
    obtain ⟨o, e, _⟩ := T.obj _ _ st2 b hb
    exact ⟨by rw [upd_ne (Nat.ne_of_lt (Heap.lt_size e))]; exact q0, q⟩
  have o3 : ∀ b ∈ fp, ∃ o, (s2.heap.push { cls := .type "list", data := .seq ([] : List Value).toArray }).get? b = some o := fun b hb => by
    obtain ⟨o, e, _⟩ := T.obj _ _ st2 b hb
    exact ⟨o, Heap.get?_push_of_some _ e⟩
  have st3 : tn 0 (s2.heap.push { cls := .type "list", data := .seq ([] : List Value).toArray }) := T.keep _ _ _ st2 fun b _ o e => Heap.get?_push_of_some _ e
  generalize hh3 : s2.heap.push { cls := .type "list", data := .seq ([] : List Value).toArray } = h3 at I3 o3 st3 ⊢
  refine wpAny_newFunctionEnv c.nocell (by intro y hy; simp at hy) (fun h4 hn4 hs4 => ?_) c.kind
  have k4 : ∀ b o, h3.get? b = some o → h4.get? b = some o := fun b o e => (hs4.2 b (Nat.ne_of_lt (Heap.lt_size e))).trans (Heap.get?_push_of_some _ e)
  have I4 := comp_inv (tk := s2.toks + ([] : List (Str × Value)).length) c I3 f3 o3 hn4 k4
  have st4 : tn 0 h4 := T.keep _ _ _ st3 fun b _ o e => k4 b o e
  obtain ⟨W, ⟨m0, w0⟩, turn⟩ := h2 _ hD
  let s3 : Shared := { s2 with heap := h3 }
  let Y : Cx := X.comp scope h3.objs.size Nc s3 (upd H2 s2.heap.objs.size (.lst [])) fp
  have stat : ∀ {H' : Hp}, (∀ b ∈ fp, H' b = none) → ∀ b ∈ fp, FpOk Y [] H' b := fun hn b hb => ⟨hn b hb, (I4.ok.exf b hb).1, I4.ok.exfs b hb, .inl hb, (I4.ok.exf b hb).2, (fun p hp => nomatch hp)⟩
  have loop : codeAny (model X.prog X.w) X.A (.compLoop (.ListComp elt [⟨tg, iter, [cd], 0⟩] scope pos) 0 (.ref it) (.ref s2.heap.objs.size) Y.env)
      (RR (.ref s2.heap.objs.size) h3.objs.size) { s2 with heap := h4, toks := s2.toks + ([] : List (Str × Value)).length } := by
    refine codeAny_loop rfl (fun n s' => ∃ i σ' H', Inv Y [] σ' H' s' ∧ tn i s'.heap ∧ (∀ b ∈ fp, H' b = none) ∧ W i n σ' H') (fun n s5 hI => ?_) m0 ⟨0, _, _, I4, st4, fun b hb => (f3 b hb).1, w0⟩
    obtain ⟨i, σ5, H5, I5, st5, fr5, w5⟩ := hI
    show wpAny _ X.A ((compTurn (.ListComp elt [⟨tg, iter, [cd], 0⟩] scope pos) 0 (.ref it) (.ref s2.heap.objs.size) Y.env).onRaise (fun x => do noteFrame x Y.env; theTreesLotGoes x)) _ _ s5
    refine wpAny_noted (wpAny_mono (E := fun _ _ => False) ?_ (fun _ _ q => q) fun _ _ z => z.elim)
    rw [compTurn_if1]
    refine wpAny_bind (wpAny_standAt (wpAny_bind ?_))
    rcases turn i n σ5 H5 w5 with ⟨stop, qn⟩ | ⟨go, N, hN, step⟩
    · refine thn (T.done Y rfl rfl rfl hc i [] s5 σ5 H5 _ I5 (stat fr5) st5 stop) fun r s6 ⟨hr, I6⟩ => ?_
      subst hr
      refine wpAny_pure ?_
      exact fin _ _ s3 fp σ5 H5 s6 I3 f3 I6 qn
    · refine thn (T.item Y rfl rfl rfl hc i [] s5 σ5 H5 _ I5 (stat fr5) st5 go) fun r s6 ⟨u, hr, h6⟩ => ?_
      subst hr
      refine wpAny_bind (thn h6 fun _ s7 ⟨x, H7, I7, r7, y7, st7, fr7⟩ => ?_)
      have I7' := I7.pinned (stat fr7) (T.obj _ _ st7)
      refine wpAny_bind (thn (hg _ _ _ _ _ s7 σ5 H7 x u _ I7' r7 (step x H7 y7)) fun _ s8 ⟨σ8, H8, I8, q8⟩ => ?_)
      have fin2 : ∀ {H' : Hp} {s' : Shared}, Inv Y ([] ++ pinsAt fp s7.heap) σ8 H' s' → N σ8 H' → ∃ m, m < n ∧ ∃ i σ1 H1, Inv Y [] σ1 H1 s' ∧ tn i s'.heap ∧ (∀ b ∈ fp, H1 b = none) ∧ W i m σ1 H1 := fun {H'} {s'} I10 n10 => by
        obtain ⟨m', hm, w10⟩ := hN σ8 H' n10
        refine ⟨m', hm, i + 1, σ8, H', I10.unpinned, T.keep _ _ _ st7 fun b hb o e => (I10.pin (b, o) (List.mem_append_right _ (List.mem_append_right _ (mem_pinsAt hb e)))).1, fun b hb => ?_, w10⟩
        obtain ⟨o, e, d⟩ := T.obj _ _ st7 b hb
        exact (I10.pin (b, o) (List.mem_append_right _ (List.mem_append_right _ (mem_pinsAt hb e)))).2.1
      rw [List.forIn_cons, if_pos rfl]
      refine wpAny_bind (wpAny_bind (wpAny_bind (thn (ht _ _ _ _ _ s8 σ8 H8 _ I8 q8) fun ok s9 ⟨H9, I9, q9⟩ => wpAny_pure ?_)))
      simp only [List.forIn_nil]
      refine wpAny_pure ?_
      cases ok with
      | false =>
        simp only [Bool.false_eq_true, if_false] at q9 ⊢
        exact wpAny_pure ⟨rfl, fin2 I9 q9⟩
      | true =>
        simp only [if_true] at q9 ⊢
        refine wpAny_bind (wpAny_bind (thn (he _ _ _ _ _ s9 σ8 H9 _ I9 q9) fun v s10 ⟨y, H10, I10, r10, ys, e10, z10, n10⟩ => ?_))
        refine wpAny_bind (thn (mt_append (X := Y) _ s10 σ8 H10 (.ref s2.heap.objs.size) [y] (.ref s2.heap.objs.size) [v] (fun w H' => N σ8 H') I10 rfl (.cons r10 .nil) ⟨_, ys, y, rfl, rfl, of_lstOf e10, z10, n10⟩) fun w s11 ⟨_, H11, I11, _, n11⟩ => ?_)
        exact wpAny_pure (wpAny_pure ⟨rfl, fin2 I11 n11⟩)
  exact codeAny_compStart_list loop (T.self _ 0 _ _ _ st4 loop)
theorem pe_compIf (hc : X.calm = true) (c : CompOk X scope Nc js) (hi : PI X tg iter wi) (hg : ∀ C s3 H3 fp, PG (X.comp scope C Nc s3 H3 fp) tg g) (ht : ∀ C s3 H3 fp, PT (X.comp scope C Nc s3 H3 fp) cd tt) (he : ∀ C s3 H3 fp, PE (X.comp scope C Nc s3 H3 fp) elt te)
    (hs : ∀ x, foldedSetIterable iter X.env x = pure x := by intro _; rfl) : PE X (.ListComp elt [⟨tg, iter, [cd], 0⟩] scope pos) (tCompIf wi g js tt te) := by
  intro pins s σ H Q I h
  rw [eval_ListComp]
  refine wpAny_comprehension_free (use := none) (g := ⟨tg, iter, [cd], 0⟩) (gs := []) rfl hs (closure_of (c.has I)) c.kind c.loc
    (comp_coreIf (RR := fun acc C => compPost (model X.prog X.w) X.A X.xe none (EP X pins σ Q) acc C) (NX := fun D H' => Q (.ref D) H') hc c hi hg ht he I h fun D H3 s3 fp σ5 H5 s6 I3 f3 I6 qn => ?_)
  obtain ⟨m, hn, _⟩ := I6.loc
  exact ⟨m, hn, fun h' hs' => ⟨.ref D, H5, comp_after I3 f3 I6 hs', rfl, qn⟩⟩
theorem ps_setcIf {i : Nat} {y : Str} {py spos : Pos} (hN : X.N.Nodup) (hiN : X.N[i]? = some y) (hy : Loc X.env.scope y) (hc : X.calm = true) (c : CompOk X scope Nc js) (hi : PI X tg iter wi) (hg : ∀ C s3 H3 fp, PG (X.comp scope C Nc s3 H3 fp) tg g)
    (ht : ∀ C s3 H3 fp, PT (X.comp scope C Nc s3 H3 fp) cd tt) (he : ∀ C s3 H3 fp, PE (X.comp scope C Nc s3 H3 fp) elt te) (hsw : swapsWith (.ListComp elt [⟨tg, iter, [cd], 0⟩] scope pos) (some (.Name y py)) spos.line X.env = pure true := by rfl)
    (hs : ∀ x, foldedSetIterable iter X.env x = pure x := by intro _; rfl) (hf : X.fn y = true ∨ X.env.scope.names.lookup y = some .local := by first | exact .inl rfl | exact .inr rfl | assumption) :
    PS X (.Assign [.Name y py] (.ListComp elt [⟨tg, iter, [cd], 0⟩] scope pos) spos) (tAsg (tCompIf wi g js tt te) (gName i)) := by
  intro pins s σ H D I h
  rw [exec_Assign_Name_used _ _ _ _ hsw]
  refine wpAny_bind (wpAny_standAt (wpAny_bind ?_))
  show wpAny _ X.A (do let _ ← comprehension (.ListComp elt [⟨tg, iter, [cd], 0⟩] scope pos) scope X.env _ (newList []) false (eval iter X.env) (some (assign (.Name y py) X.env))) _ _ s
  refine wpAny_bind (wpAny_mono (wpAny_comprehension_free (use := some (assign (.Name y py) X.env)) (g := ⟨tg, iter, [cd], 0⟩) (gs := []) (Q := fun _ s' => SP X pins D .next s') rfl hs (closure_of (c.has I)) c.kind c.loc
    (comp_coreIf (RR := fun acc C => compPost (model X.prog X.w) X.A X.xe (some (assign (.Name y py) X.env)) (fun _ s' => SP X pins D .next s') acc C) (NX := fun Da H' => D.nx (σ.set i (some (.ref Da))) H') hc c hi hg ht he I h fun Da H3 s3 fp σ5 H5 s6 I3 f3 I6 qn => ?_))
    (fun _ s' hq => wpAny_pure (wpAny_pure hq)) fun _ _ e => e)
  obtain ⟨m, hn, _⟩ := id I6.loc
  have I7 : Inv X pins σ H5 s6 := comp_after I3 f3 I6 (.refl ..)
  have hC : H5 s3.heap.objs.size = none := I6.free
  have nL : s3.heap.objs.size ≠ X.env.locals := Nat.ne_of_gt I3.lt
  have nc : ∀ x a, X.env.cells.lookup x = some a → a ≠ s3.heap.objs.size := fun x a e => by
    obtain ⟨v, q⟩ := I3.cell x a e
    exact Nat.ne_of_lt q.lt
  have np : ∀ p ∈ X.pn ++ pins, p.1 ≠ s3.heap.objs.size := fun p hp => Nat.ne_of_lt (Heap.lt_size (I3.pin p hp).1)
  show wpAny _ _ (assign (.Name y py) X.env (.ref Da)) _ _ _
  refine wpAny_assign_Name (store_ok2 (v := .ref Da) I7 hN hiN hy rfl (fun s8 I8 hb => ?_) hf)
  obtain ⟨a, hs8, ha⟩ := hb
  have nCa : s3.heap.objs.size ≠ a := by
    rcases ha with z | z
    · rw [z]; exact nL
    · exact (nc y a z).symm
  refine ⟨m, hn.sameBut hs8 nCa, fun h9 hs9 => ?_⟩
  exact ⟨_, H5, I8.turned (t' := s8.toks) (fun b o hb e => (hs9.2 b hb).trans e) hC nL (.inr (Nat.le_trans I3.sz (Nat.le_refl _))) nc np, qn⟩
end
section
variable {X : Cx} {scope : Scope} {Nc : List Str} {js : List (Option Nat)} {elt tg iter cd : Expr} {pos : Pos} {wi : TI} {g : TG} {te : TE} {tt : TT}
theorem qpe_compIf (hc : X.calm = true) (c : CompOk X scope Nc js) (hi : QI X tg iter wi) (hg : ∀ C s3 H3 fp, QG (X.comp scope C Nc s3 H3 fp) tg g) (ht : ∀ C s3 H3 fp, QT (X.comp scope C Nc s3 H3 fp) cd tt) (he : ∀ C s3 H3 fp, QE (X.comp scope C Nc s3 H3 fp) elt te)
    (hs : ∀ x, foldedSetIterable iter X.env x = pure x := by intro _; rfl) : QE X (.ListComp elt [⟨tg, iter, [cd], 0⟩] scope pos) (tCompIf wi g js tt te) :=
  ⟨pe_compIf hc c hi.h (fun C s H f => (hg C s H f).h) (fun C s H f => (ht C s H f).h) (fun C s H f => (he C s H f).h) hs⟩
theorem qps_setcIf {i : Nat} {y : Str} {py spos : Pos} (hN : X.N.Nodup) (hiN : X.N[i]? = some y) (hy : Loc X.env.scope y) (hc : X.calm = true) (c : CompOk X scope Nc js) (hi : QI X tg iter wi) (hg : ∀ C s3 H3 fp, QG (X.comp scope C Nc s3 H3 fp) tg g)
    (ht : ∀ C s3 H3 fp, QT (X.comp scope C Nc s3 H3 fp) cd tt) (he : ∀ C s3 H3 fp, QE (X.comp scope C Nc s3 H3 fp) elt te) (hsw : swapsWith (.ListComp elt [⟨tg, iter, [cd], 0⟩] scope pos) (some (.Name y py)) spos.line X.env = pure true := by rfl)
    (hs : ∀ x, foldedSetIterable iter X.env x = pure x := by intro _; rfl) (hf : X.fn y = true ∨ X.env.scope.names.lookup y = some .local := by first | exact .inl rfl | exact .inr rfl | assumption) :
    QS X (.Assign [.Name y py] (.ListComp elt [⟨tg, iter, [cd], 0⟩] scope pos) spos) (tAsg (tCompIf wi g js tt te) (gName i)) :=
  ⟨ps_setcIf hN hiN hy hc c hi.h (fun C s H f => (hg C s H f).h) (fun C s H f => (ht C s H f).h) (fun C s H f => (he C s H f).h) hsw hs hf⟩
end
section
variable {D : Addr} {te : TE} {tt : TT} {E : Ends} {r : L2.St} {H : Hp}
theorem filt_step {α : Type} (p : α → Bool) (f : α → V) (xs : List α) (i : Nat) (x : α) (h : xs[i]? = some x) : ((xs.take (i + 1)).filter p).map f = ((xs.take i).filter p).map f ++ (if p x = true then [f x] else []) := by
  rw [List.take_succ, h]
  simp only [Option.toList_some, List.filter_append, List.map_append]
  congr 1
  by_cases q : p x = true
  · simp [q]
  · simp [q]
theorem compIf_list {K : PySem.W.Frag} {a : Addr} {xs : List V} (p : V → Bool) (f : V → V) (ha : H a = some (.lst xs)) (hD : H D = none) (hz : xs.length ≤ sizeLine)
    (ht : ∀ x ∈ xs, ∀ l Q, Q (p x) (upd H D (.lst l)) → tt (some x :: r) (upd H D (.lst l)) Q) (he : ∀ x ∈ xs, p x = true → ∀ l Q, Q (f x) (upd H D (.lst l)) → te (some x :: r) (upd H D (.lst l)) Q)
    (hn : ∀ v, E.nx (v :: r) (upd H D (.lst ((xs.filter p).map f)))) : LoopR (Itl K a) (gName 0) (tEmitIf D tt te) E (none :: r) (upd H D (.lst [])) := by
  have ne : a ≠ D := ne_of_none ha hD
  refine loop_list (xs := xs) (fun i σ H' => ∃ v : Option V, σ = v :: r ∧ H' = upd H D (.lst (((xs.take i).filter p).map f))) ⟨none, rfl, rfl⟩ ?_ ?_ ?_
  · rintro i σ H' _ ⟨v, _, rfl⟩
    rw [upd_ne ne]; exact ha
  · rintro i x σ H' hx ⟨v, rfl, rfl⟩
    have hl : i < xs.length := (List.getElem?_eq_some_iff.mp hx).1
    have hm := List.mem_of_getElem? hx
    have hf : (((xs.take i).filter p).map f).length ≤ i := by
      rw [List.length_map]
      exact Nat.le_trans (List.length_filter_le _ _) (by rw [List.length_take]; omega)
    refine ht x hm _ _ ?_
    by_cases q : p x = true
    · rw [q, if_pos rfl]
      refine he x hm q _ _ ⟨_, by rw [upd_same]; rfl, by omega, some x, rfl, ?_⟩
      rw [upd_D, filt_step p f xs i x hx, if_pos q]
    · rw [if_neg q]
      refine ⟨some x, rfl, ?_⟩
      rw [filt_step p f xs i x hx, if_neg q, List.append_nil]
  · rintro σ H' ⟨v, rfl, rfl⟩
    rw [List.take_of_length_le (Nat.le_refl _)]
    exact hn v
theorem compIf_tup {K : PySem.W.Frag} {a : Addr} {xs : List V} (p : V → Bool) (f : V → V) (ha : H a = some (.tup xs)) (hD : H D = none) (hz : xs.length ≤ sizeLine)
    (ht : ∀ x ∈ xs, ∀ l Q, Q (p x) (upd H D (.lst l)) → tt (some x :: r) (upd H D (.lst l)) Q) (he : ∀ x ∈ xs, p x = true → ∀ l Q, Q (f x) (upd H D (.lst l)) → te (some x :: r) (upd H D (.lst l)) Q)
    (hn : ∀ v, E.nx (v :: r) (upd H D (.lst ((xs.filter p).map f)))) : LoopR (Itt K a) (gName 0) (tEmitIf D tt te) E (none :: r) (upd H D (.lst [])) := by
  have ne : a ≠ D := ne_of_none ha hD
  refine loop_tup (xs := xs) (fun i σ H' => ∃ v : Option V, σ = v :: r ∧ H' = upd H D (.lst (((xs.take i).filter p).map f))) ⟨none, rfl, rfl⟩ ?_ ?_ ?_
  · rintro i σ H' _ ⟨v, _, rfl⟩
    rw [upd_ne ne]; exact ha
  · rintro i x σ H' hx ⟨v, rfl, rfl⟩
    have hl : i < xs.length := (List.getElem?_eq_some_iff.mp hx).1
    have hm := List.mem_of_getElem? hx
    have hf : (((xs.take i).filter p).map f).length ≤ i := by
      rw [List.length_map]
      exact Nat.le_trans (List.length_filter_le _ _) (by rw [List.length_take]; omega)
    refine ht x hm _ _ ?_
    by_cases q : p x = true
    · rw [q, if_pos rfl]
      refine he x hm q _ _ ⟨_, by rw [upd_same]; rfl, by omega, some x, rfl, ?_⟩
      rw [upd_D, filt_step p f xs i x hx, if_pos q]
    · rw [if_neg q]
      refine ⟨some x, rfl, ?_⟩
      rw [filt_step p f xs i x hx, if_neg q, List.append_nil]
  · rintro σ H' ⟨v, rfl, rfl⟩
    rw [List.take_of_length_le (Nat.le_refl _)]
    exact hn v
end
end L2
set_option Elab.async false
set_option linter.all false
set_option maxRecDepth 100000
set_option maxHeartbeats 4000000
namespace L2
open PySem PySem.Spec PyProof.Rows
section
variable {X : Cx}
end
end L2
set_option Elab.async false
set_option linter.all false
set_option maxRecDepth 100000
set_option maxHeartbeats 4000000
namespace L2
open PySem PySem.Spec PyProof.Rows
section
variable {P : Program} {w : World} {A : Around} {E : Value → Shared → Prop} {s : Shared}
end
section
variable {X : Cx}
end
end L2
set_option Elab.async false
set_option linter.all false
set_option maxRecDepth 100000
set_option maxHeartbeats 4000000
namespace L2
open PySem PySem.Spec PyProof.Rows
section
variable {X : Cx}
end
def tMid (t u : TS) : TS := fun D σ H => ∃ J : L2.St → Hp → Prop, t { D with nx := J } σ H ∧ ∀ σ H, J σ H → u D σ H
theorem pss_mid {X : Cx} {st : Stmt} {rest : List Stmt} {t u : TS} (h1 : PS X st t) (h2 : PSs X rest u) : PSs X (st :: rest) (tMid t u) := by
  intro pins s σ H D I h
  obtain ⟨J, h, hJ⟩ := h
  refine wpAny_execs_cons (thn (h1 pins s σ H { D with nx := J } I h) fun f s1 q => ?_)
  cases f with
  | next =>
    obtain ⟨σ1, H1, I1, q1⟩ := q
    exact h2 pins s1 σ1 H1 D I1 (hJ _ _ q1)
  | ret v => exact q
  | brk => exact q
  | cont => exact q
theorem qpss_mid {X : Cx} {st : Stmt} {rest : List Stmt} {t u : TS} (h1 : QS X st t) (h2 : QSs X rest u) : QSs X (st :: rest) (tMid t u) := ⟨pss_mid h1.h h2.h⟩
section
variable {X : Cx}
theorem call_isinstanceK {K : PySem.W.Frag} (hK : X.K = K) : CallR X (.builtin "isinstance") (rIsU K) := by
  subst hK
  exact call_isinstanceU
end
end L2
set_option Elab.async false
set_option linter.all false
set_option maxRecDepth 100000
set_option maxHeartbeats 4000000
namespace L2
open PySem PySem.Spec PyProof.Rows
section
variable {P : Program} {w : World} {A : Around} {R : Result → Shared → Prop} {I : Addr} {fp wr : List Addr} {n : Nat} {Pv : Nat → Value → Prop} {St : Nat → Heap → Prop}
end
section
variable {X : Cx}
end
end L2
set_option Elab.async false
set_option linter.all false
set_option maxRecDepth 100000
set_option maxHeartbeats 4000000
namespace L2
open PySem PySem.Spec PyProof.Rows
section
variable {P : Program} {w : World} {A : Around} {E : Value → Shared → Prop} {s : Shared} {d it : Addr} {o : Obj} {es : Array DictEntry} {ep i : Nat}
end
section
variable {X : Cx} {tg : Expr}
end
end L2
set_option Elab.async false
set_option linter.all false
set_option maxRecDepth 100000
set_option maxHeartbeats 4000000
namespace L2
open PySem PySem.Spec PyProof.Rows
section
variable {D : Addr} {te : TE} {tt : TT} {E : Ends} {r : L2.St} {H : Hp}
end
theorem sl_UK {X : Cx} {K : PySem.W.Frag} (hK : X.K = K) : SlR X (rSlU K) := by
  subst hK
  exact sl_U
end L2
namespace L2
open PySem PySem.Spec PyProof.Rows
section
variable {prog : Program} {w : World} {A : Around} {E : Value → Shared → Prop} {s : Shared}
theorem tup_whole {t sl : Addr} {items : Array Value} {vl vu : Value} {lo hi : Option Int} {Q : Value → Shared → Prop} (ht : IsTup s.heap t items) (hs : s.heap.IsSliceOf sl vl vu .none) (pl : IsPart vl lo) (pu : IsPart vu hi)
    (hw : HT.sIx items.size 0 lo = 0 ∧ HT.sIx items.size items.size hi = items.size) (h : Q (.ref t) s) : wpAny (model prog w) A (getItem (.ref t) (.ref sl)) Q E s := by
  obtain ⟨os, hos, hcs, hds⟩ := id hs
  have hTs : s.TypeIs (.ref sl) "slice" := ⟨os, hos, hcs⟩
  unfold getItem
  try with_reducible refine wpAny_holding ?_
  first | refine wpAny_bind (wpAny_pure ?_) | skip
  refine wpAny_bind (wpAny_sequenceKey ht.typeIs (by decide) ?_)
  refine wpAny_bind (wpAny_callSpecial?_slot (name := Str.ofString "__getitem__") ht.typeIs PyProof.Rows.slot_tuple_getitem
    (wpAny_call_entry PyProof.Rows.slot_tuple_getitem ht.typeIs PyProof.Rows.entry_tuple_getitem ?_ (PyProof.Rows.args_tuple_getitem _ _)))
  show wpAny _ _ (Builtin.Tuple.tupleItemsOf (.ref t) >>= _) _ _ s
  refine wpAny_bind (tupleItemsOf_ ht ?_)
  refine wpAny_bind (wpAny_typeOf hTs ?_)
  rw [if_pos (by decide)]
  refine wpAny_bind (HT.sliceApplied_gen hs pl pu ?_)
  show wpAny _ _ (if (((HT.sIx items.size 0 lo : Nat) : Int) == 0 && (1 : Int) == 1 && (HT.sIx items.size items.size hi - HT.sIx items.size 0 lo) == items.size) = true then _ else _) _ _ s
  rw [if_pos (by rw [hw.1, hw.2]; simp)]
  unfold Builtin.Tuple.tupleIsExact
  exact wpAny_bind (wpAny_bind (wpAny_typeOf ht.typeIs (wpAny_pure (by rw [if_pos (by decide)]; exact wpAny_bind (wpAny_rule (wpAny_pure ⟨_, rfl, wpAny_pure h⟩))))))
end
section
variable {X : Cx}
def rSlW (K : PySem.W.Frag) : V → Option Int → Option Int → Hp → VK → Prop := fun x lo hi H Q => ∃ a xs, x = .ref a ∧ SqT K H a xs ∧ (HT.sIx xs.length 0 lo = 0 ∧ HT.sIx xs.length xs.length hi = xs.length) ∧ Q (.ref a) H
theorem sl_tupW : SlR X (rSlW X.K) := by
  intro pins s σ H x v vl vu lo hi sl Q I rx hs pl pu h
  obtain ⟨a, xs, rfl, hx, hw, q⟩ := h
  cases rx
  obtain ⟨its, r, ht, hz⟩ := I.tuple hx
  have hlen : its.toArray.size = xs.length := by rw [List.size_toArray]; exact r.length.symm
  refine ⟨"tuple", _, PyProof.Rows.slot_tuple_getitem.lookup, ht.typeIs, ?_⟩
  exact tup_whole ht hs pl pu (by rw [hlen]; exact hw) ⟨.ref a, H, I, rfl, q⟩
def rSlV (K : PySem.W.Frag) : V → Option Int → Option Int → Hp → VK → Prop := fun x lo hi H Q => rSlU K x lo hi H Q ∨ rSlW K x lo hi H Q
theorem sl_VK {K : PySem.W.Frag} (hK : X.K = K) : SlR X (rSlV K) := by
  subst hK
  exact SlR.or sl_U sl_tupW
theorem rSlV.tup {K : PySem.W.Frag} {H : Hp} {Q : VK} {a : Addr} {xs : List V} {lo hi : Option Int} (e : H a = some (.tup xs)) (h : ∀ p H', H' p = some (.tup (cutV xs lo hi)) → Kp [] H H' → Q (.ref p) H') : rSlV K (.ref a) lo hi H Q := by
  by_cases w : HT.sIx xs.length 0 lo = 0 ∧ HT.sIx xs.length xs.length hi = xs.length
  · refine .inr ⟨a, xs, rfl, SqT.of e, w, h a H ?_ (Kp.refl [] H)⟩
    have : cutV xs lo hi = xs := by
      unfold cutV
      rw [w.1, w.2, List.drop_zero]
      exact List.take_of_length_le (by omega)
    rw [this]; exact e
  · exact .inl (rSlU.tup e w fun p hp => h p _ upd_same ((Kp.refl [] H).new hp))
end
end L2
set_option Elab.async false
set_option linter.all false
set_option maxRecDepth 100000
set_option maxHeartbeats 4000000
namespace L2
open PySem PySem.Spec PyProof.Rows
section
variable {prog : Program} {w : World} {A : Around} {E : Value → Shared → Prop} {s : Shared} {i1 i2 : Addr} {f1 f2 : List Addr} {n1 n2 : Nat} {P1 P2 : Nat → Value → Prop} {S1 S2 : Nat → Heap → Prop}
end
section
variable {X : Cx}
end
end L2
set_option Elab.async false
set_option linter.all false
set_option maxRecDepth 100000
set_option maxHeartbeats 4000000
namespace L2
open PySem PySem.Spec PyProof.Rows
section
variable {X : Cx}
end
end L2
set_option Elab.async false
set_option linter.all false
set_option maxRecDepth 100000
set_option maxHeartbeats 4000000
namespace HT
open PySem PyProof.Rows
section
open PySem.SeqAt
open PySem.AutoSeq1 (wpAny_loadPart')
open PySem.MeetsSeq PySem.MeetsSeq2 PySem.MeetsSeq3
end
section
variable {prog : Program} {w : World} {A : Around} {E : Value → Shared → Prop} {s : Shared}
end
end HT
namespace L2
open PySem PySem.Spec PyProof.Rows
section
variable {X : Cx}
end
end L2
set_option Elab.async false
set_option linter.all false
set_option maxRecDepth 100000
set_option maxHeartbeats 4000000
namespace L2
open PySem PySem.Spec PyProof.Rows
def stpS (σ : List Str) (v : Str) : List Str := if σ.any (· == v) then σ else σ ++ [v]
def fmS (val : Nat → Str) (i : Nat) : List Str := ((List.range i).map val).foldl stpS []
theorem fmS_succ (val : Nat → Str) (i : Nat) : fmS val (i + 1) = stpS (fmS val i) (val i) := by
  unfold fmS; rw [List.range_succ, List.map_append, List.foldl_append]; rfl
theorem fmS_mem (val : Nat → Str) : ∀ (i : Nat) (k : Str), k ∈ fmS val i ↔ ∃ j, j < i ∧ val j = k
  | 0, k => by simp [fmS]
  | i + 1, k => by
    rw [fmS_succ]
    unfold stpS
    have ih := fmS_mem val i
    split
    · rename_i h
      rw [List.any_eq_true] at h
      obtain ⟨y, hy, e⟩ := h
      have e : y = val i := by simpa using e
      subst e
      rw [ih]
      constructor
      · rintro ⟨j, hj, e⟩
        exact ⟨j, by omega, e⟩
      · rintro ⟨j, hj, e'⟩
        by_cases hji : j = i
        · rw [hji] at e'
          rw [← e']
          exact (ih _).mp hy
        · exact ⟨j, by omega, e'⟩
    · rw [List.mem_append, ih, List.mem_singleton]
      constructor
      · rintro (⟨j, hj, e⟩ | e)
        · exact ⟨j, by omega, e⟩
        · exact ⟨i, by omega, e.symm⟩
      · rintro ⟨j, hj, e⟩
        by_cases hji : j = i
        · subst hji
          exact .inr e.symm
        · exact .inl ⟨j, by omega, e⟩
theorem fmS_le (val : Nat → Str) : ∀ i, (fmS val i).length ≤ i
  | 0 => by simp [fmS]
  | i + 1 => by
    rw [fmS_succ]
    unfold stpS
    have := fmS_le val i
    split
    · omega
    · simp; omega
section
variable {prog : Program} {w : World} {A : Around} {R : Result → Shared → Prop} {I : Addr} {fp wr : List Addr} {G : Array GenState → Array GenState → Prop} {n : Nat} {P : Nat → Value → Prop} {St : Nat → Shared → Prop}
theorem isStr_is (x : Str) (t : Tok) : (strKind prog w).is x (.str x t) = true := by
  show Value.isStrOf x (.str x t) = true
  simp [Value.isStrOf]
end
section
variable {prog : Program} {w : World} {A : Around} {E : Value → Shared → Prop} {s : Shared}
end
section
variable {X : Cx}
end
end L2
set_option Elab.async false
set_option linter.all false
set_option maxRecDepth 100000
set_option maxHeartbeats 4000000
namespace L2
open PySem PySem.Spec PyProof.Rows
section
variable {prog : Program} {w : World} {A : Around} {E : Value → Shared → Prop} {h : Heap} {g : Array GenState} {d : Drawn} {t : Nat} {os : OsState}
variable {nm q : Str} {C N : Addr} {bs bm bmB : List Value} {hdct : Bool} {sn : List Str} {sub : List Value} {ab : Bool} {col : Option Bool} {dd : Option Addr} {k0 k1 k2 k3 k5 : Option Value} {B newId initId : String}
end
end L2
set_option Elab.async false
set_option linter.all false
set_option maxRecDepth 100000
set_option maxHeartbeats 4000000
namespace L2
open PySem PySem.Spec PyProof.Rows
open Builtin Builtin.ObjectAttr
section
variable {prog : Program} {w : World} {A : Around} {E : Value → Shared → Prop} {h : Heap} {g : Array GenState} {d : Drawn} {t : Nat} {os : OsState}
variable {nm q : Str} {C D N x : Addr} {bs bmB : List Value} {sn : List Str} {sub : List Value} {ab : Bool} {col : Option Bool} {dd : Option Addr} {k0 k1 k2 k3 k5 : Option Value} {newId name : Str} {nid sa owner B : String} {v : Value}
end
end L2
set_option Elab.async false
set_option linter.all false
set_option maxRecDepth 100000
set_option maxHeartbeats 4000000
namespace L2
open PySem PySem.Spec PyProof.Rows
open Builtin Builtin.ObjectAttr
section
variable {prog : Program} {w : World} {A : Around} {E : Value → Shared → Prop} {h : Heap} {g : Array GenState} {d : Drawn} {t : Nat} {os : OsState}
variable {nm q : Str} {C D N x dx : Addr} {bs bmB : List Value} {sn : List Str} {sub : List Value} {ab : Bool} {col : Option Bool} {dd : Option Addr} {k0 k1 k2 k3 k5 : Option Value} {name : Str} {nid B : String} {v : Value} {mA : Str → Option Value}
end
end L2
set_option Elab.async false
set_option linter.all false
set_option maxRecDepth 100000
set_option maxHeartbeats 4000000
namespace L2
open PySem PySem.Spec PyProof.Rows
section
variable {prog : Program} {w : World} {A : Around} {E : Value → Shared → Prop} {h : Heap} {g : Array GenState} {d : Drawn} {t : Nat} {os : OsState}
variable {nm q : Str} {C N : Addr} {bs bm bmB : List Value} {hdct : Bool} {sn : List Str} {sub : List Value} {ab : Bool} {col : Option Bool} {dd : Option Addr} {k0 k1 k2 k3 k5 : Option Value} {B newId initId : String}
end
end L2
set_option Elab.async false
set_option linter.all false
set_option maxRecDepth 100000
set_option maxHeartbeats 4000000
namespace L2
open PySem PySem.Spec PyProof.Rows
section
variable {X : Cx} {pins : List (Addr × Obj)} {σ : St} {H : Hp} {s : Shared} {C D N : Addr}
end
end L2
set_option Elab.async false
set_option linter.all false
set_option maxRecDepth 100000
set_option maxHeartbeats 4000000
namespace L2
open PySem PySem.Spec PyProof.Rows
open Builtin Builtin.ObjectAttr
section
variable {prog : Program} {w : World} {A : Around} {E : Value → Shared → Prop} {h : Heap} {g : Array GenState} {d : Drawn} {t : Nat} {os : OsState}
variable {nm q : Str} {C D N x : Addr} {bs bmB : List Value} {sn : List Str} {sub : List Value} {ab : Bool} {col : Option Bool} {dd : Option Addr} {k0 k1 k2 k3 k5 : Option Value} {nid : String} {K : PySem.W.Frag}
end
end L2
set_option Elab.async false
set_option linter.all false
set_option maxRecDepth 100000
set_option maxHeartbeats 4000000
namespace L2
open PySem PySem.Spec PyProof.Rows
section
variable {X : Cx}
end
end L2
set_option Elab.async false
set_option linter.all false
set_option maxRecDepth 100000
set_option maxHeartbeats 4000000
namespace L2
open PySem PySem.Spec PyProof.Rows
section
variable {X : Cx}
end
end L2
set_option Elab.async false
set_option linter.all false
set_option maxRecDepth 100000
set_option maxHeartbeats 4000000
set_option autoImplicit true
set_option relaxedAutoImplicit true
namespace L2
open PySem PySem.Spec PyProof.Rows
section
variable {X : Cx} {K : PySem.W.Frag}
end
end L2
set_option Elab.async false
set_option linter.all false
set_option maxRecDepth 100000
set_option maxHeartbeats 4000000
namespace HT
open PySem PyProof.Rows
section
open PySem.AutoSeq1 (wpAny_loadPart')
open PySem.MeetsSeq PySem.MeetsSeq2 PySem.MeetsSeq3
end
end HT
namespace L2
open PySem PySem.Spec PyProof.Rows
section
variable {X : Cx}
end
end L2
set_option Elab.async false
set_option linter.all false
set_option maxRecDepth 100000
set_option maxHeartbeats 4000000
set_option autoImplicit true
set_option relaxedAutoImplicit true
namespace L2
open PySem PySem.Spec PyProof.Rows
section
variable {K : PySem.W.Frag} {C C' D N N' : Addr} {nm q nm' q' : Str} {bs bm bs' bm' : List Value} {sn sn' : List Str} {sub sub' : List Value} {ab ab' hd hd' : Bool} {col col' : Option Bool} {dd dd' : Option Addr} {k0 k1 k2 k3 k5 j0 j1 j2 j3 j5 : Option Value} {nid nid' : String}
end
end L2
set_option Elab.async false
set_option linter.all false
set_option maxRecDepth 100000
set_option maxHeartbeats 4000000
namespace L2
open PySem PySem.Spec PyProof.Rows
section
variable {M : Model} {A : Around} {E : Value → Shared → Prop} {s : Shared}
end
end L2
set_option Elab.async false
set_option linter.all false
set_option maxRecDepth 100000
set_option maxHeartbeats 4000000
namespace L2
open PySem PySem.Spec PyProof.Rows
section
variable {X : Cx} {pins : List (Addr × Obj)} {σ : St} {H H' : Hp} {s : Shared} {a C T : Addr} {dx : Option Addr} {fl : Option Value}
end
section
variable {X : Cx} {E : XK}
end
end L2
set_option Elab.async false
set_option linter.all false
set_option maxRecDepth 100000
set_option maxHeartbeats 4000000
namespace L2
open PySem PySem.Spec PyProof.Rows
section
variable {M : Model} {A : Around} {E : Value → Shared → Prop} {s : Shared} {env : Env}
variable {nm q : Str} {C N : Addr} {bs bm : List Value} {hdct : Bool} {sn : List Str} {sub : List Value} {ab : Bool} {col : Option Bool} {dd : Option Addr} {k0 k1 k2 k3 k5 : Option Value} {newId : String}
end
section
variable {X : Cx} {pins : List (Addr × Obj)} {σ : St} {H H' : Hp} {s : Shared} {a C D N : Addr} {dx : Option Addr}
end
end L2
set_option Elab.async false
set_option linter.all false
set_option maxRecDepth 100000
set_option maxHeartbeats 4000000
namespace L2
open PySem PySem.Spec PyProof.Rows
section
variable {X : Cx} {pins : List (Addr × Obj)} {σ : St} {H H' : Hp} {s : Shared} {a C D N : Addr} {dx : Option Addr} {A' : Around}
end
end L2
set_option Elab.async false
set_option linter.all false
set_option maxRecDepth 100000
set_option maxHeartbeats 4000000
namespace L2
open PySem PySem.Spec PyProof.Rows
section
variable {X : Cx}
end
section
variable {P : Program} {w : World} {K : PySem.W.Frag} {mg : Str → Option Value} {base : Heap}
end
section
variable {X : Cx}
end
end L2
set_option Elab.async false
set_option linter.all false
set_option maxRecDepth 100000
set_option maxHeartbeats 4000000
namespace L2
open PySem PySem.Spec PyProof.Rows
section
variable {X : Cx}
theorem tyV_str (K : PySem.W.Frag) (z : Str) (H : Hp) : tyV K "str" (.str z) H = True := by simp [tyV]
end
end L2
set_option Elab.async false
set_option linter.all false
set_option maxRecDepth 100000
set_option maxHeartbeats 4000000
namespace L2
open PySem PySem.Spec PyProof.Rows
section
variable {prog : Program} {w : World} {A : Around} {E : Value → Shared → Prop} {s : Shared}
open AutoSeq1 (wpAny_loadPart') in
end
section
variable {X : Cx}
end
end L2
set_option Elab.async false
set_option linter.all false
set_option maxRecDepth 100000
set_option maxHeartbeats 4000000
namespace L2
open PySem PySem.Spec PyProof.Rows
section
variable {X : Cx}
end
end L2
set_option Elab.async false
set_option linter.all false
set_option maxRecDepth 100000
set_option maxHeartbeats 4000000
namespace L2
open PySem PySem.Spec PyProof.Rows
section
variable {prog : Program} {w : World} {A : Around} {E : Value → Shared → Prop} {s : Shared} {i1 i2 : Addr} {f1 f2 : List Addr} {n1 n2 : Nat} {P1 P2 : Nat → Value → Prop} {S1 S2 : Nat → Heap → Prop}
end
section
end
section
variable {P : Program} {w : World} {K : PySem.W.Frag}
end
section
variable {X : Cx}
end
end L2
set_option Elab.async false
set_option linter.all false
set_option maxRecDepth 100000
set_option maxHeartbeats 4000000
namespace L2
open PySem PySem.Spec PyProof.Rows
section
variable {X : Cx}
end
end L2
set_option Elab.async false
set_option linter.all false
set_option maxRecDepth 100000
set_option maxHeartbeats 4000000
namespace L2
open PySem PySem.Spec PyProof.Rows
section
variable {X : Cx}
end
end L2
set_option Elab.async false
set_option linter.all false
set_option maxRecDepth 100000
set_option maxHeartbeats 4000000
namespace L2
open PySem PySem.Spec PyProof.Rows
section
variable {P : Program} {w : World} {A : Around} {R : Result → Shared → Prop} {I : Addr} {fp wr : List Addr} {n : Nat} {Pv : Nat → Value → Prop} {St : Nat → Heap → Prop}
end
section
variable {X : Cx}
theorem vals_of_strs : ∀ {ss : List Str} {its : List Value}, StrsAre its ss → Vals (ss.map V.str) its
  | _, _, .nil => .nil
  | _, _, .cons x t r => .cons ⟨t, rfl⟩ (vals_of_strs r)
end
end L2
set_option Elab.async false
set_option linter.all false
set_option maxRecDepth 100000
set_option maxHeartbeats 4000000
namespace L2
open PySem PySem.Spec PyProof.Rows
section
end
section
variable {P : Program} {w : World} {K : PySem.W.Frag}
end
section
variable {X : Cx}
end
end L2
set_option Elab.async false
set_option linter.all false
set_option maxRecDepth 100000
set_option maxHeartbeats 4000000
namespace L2
open PySem PySem.Spec PyProof.Rows
end L2
set_option Elab.async false
set_option linter.all false
set_option maxRecDepth 100000
set_option maxHeartbeats 4000000
namespace L2
open PySem PySem.Spec PyProof.Rows
section
variable {X : Cx} {pins : List (Addr × Obj)} {σ : L2.St} {H : Hp} {s : Shared} {scope : Scope} {Nc : List Str} {js : List (Option Nat)} {fp : List Addr}
end
section
variable {X : Cx} {scope : Scope} {Nc : List Str} {js : List (Option Nat)} {elt tg iter : Expr} {pos : Pos} {wi : TI} {g : TG} {te : TE}
end
end L2
set_option Elab.async false
set_option linter.all false
set_option maxRecDepth 100000
set_option maxHeartbeats 4000000
namespace L2
open PySem PySem.Spec PyProof.Rows
section
variable {X : Cx} {scope : Scope} {Nc : List Str} {js : List (Option Nat)} {elt tg iter : Expr} {pos : Pos} {wi : TI} {g : TG} {te : TE}
end
end L2
set_option Elab.async false
set_option linter.all false
set_option maxRecDepth 100000
set_option maxHeartbeats 4000000
namespace L2
open PySem PySem.Spec PyProof.Rows
theorem layNew_led (t : SetTable) (es : Array (Int × Value)) (h : Int) (x : Value) : (layNew t es h x).2.1.led = t.led := by
  unfold layNew
  cases t.freeSlot h with
  | none => rfl
  | some p =>
    show ((t.put p.1).1.orStandIn _).led = t.led
    unfold SetTable.orStandIn
    split <;> rfl
theorem layNew_pl (t : SetTable) (es : Array (Int × Value)) (h : Int) (x : Value) (hp : t.plain = false) : (layNew t es h x).2.1.plain = false := by
  unfold layNew
  cases t.freeSlot h with
  | none => rfl
  | some p =>
    show ((t.put p.1).1.orStandIn _).plain = false
    unfold SetTable.orStandIn
    split
    · exact hp
    · rfl
theorem laid_led {m f mv : Nat} {L p : Bool} {hs : Array Int} {r : SetTable × Array Nat} (e : SetTable.laid m f mv L p hs = some r) : r.1.led = L ∧ r.1.plain = p := by
  unfold SetTable.laid at e
  cases h : SetTable.layClean m hs with
  | none => rw [h] at e; cases e
  | some o => rw [h] at e; cases e; exact ⟨rfl, rfl⟩
theorem relay_led (t : SetTable) (es : Array (Int × Value)) (k : Nat) : (relayAll t es k).2.1.led = t.led := by
  unfold relayAll
  cases h : t.relaid (es.map (·.1)) k with
  | none => rfl
  | some r =>
    dsimp only
    split
    · exact (laid_led h).1
    · rfl
theorem relay_pl (t : SetTable) (es : Array (Int × Value)) (k : Nat) (hp : t.plain = false) : (relayAll t es k).2.1.plain = false := by
  unfold relayAll
  cases h : t.relaid (es.map (·.1)) k with
  | none => rfl
  | some r =>
    dsimp only
    split
    · rw [(laid_led h).2]; exact hp
    · rfl
def keyE (e : Int × Value) : Str := match e.2 with
  | .str k _ => k
  | _ => ⟨#[]⟩
section
variable {prog : Program} {w : World} {A : Around} {E : Value → Shared → Prop} {s : Shared}
structure SX (prog : Program) (w : World) (h : Heap) (a : Addr) (L : Bool) (ks : List Str) (o : Obj) (es : Array (Int × Value)) (ep : Nat) (t : SetTable) : Prop where
  at_ : h.get? a = some o
  ex : o.ExactSet
  dt : o.data = .set es ep t
  el : ElemsOf (strKind prog w) es.toList
  key : (es.toList.map keyE).Perm ks
  nd : ks.Nodup
  sz : es.size < scanBound
  fits : t.fits es.size = true
  led : t.led = L
  pl : es.size = 0 ∨ t.plain = false
def SXO (prog : Program) (w : World) (h : Heap) (a : Addr) (L : Bool) (ks : List Str) : Prop := ∃ o es ep t, SX prog w h a L ks o es ep t
theorem SX.to {h h' : Heap} {a : Addr} {L : Bool} {ks : List Str} {o : Obj} {es : Array (Int × Value)} {ep : Nat} {t : SetTable} (x : SX prog w h a L ks o es ep t) (e : h'.get? a = some o) : SX prog w h' a L ks o es ep t :=
  ⟨e, x.ex, x.dt, x.el, x.key, x.nd, x.sz, x.fits, x.led, x.pl⟩
theorem keyE_of {e : Int × Value} {k : Str} (h : Value.isStrOf k e.2 = true) : keyE e = k := by
  obtain ⟨t, e2⟩ := Value.isStrOf_shape h
  unfold keyE
  rw [e2]
theorem SX.mem {h : Heap} {a : Addr} {L : Bool} {ks : List Str} {o : Obj} {es : Array (Int × Value)} {ep : Nat} {t : SetTable} (x : SX prog w h a L ks o es ep t) (k : Str) : k ∈ ks ↔ ∃ e ∈ es.toList, Value.isStrOf k e.2 = true := by
  rw [← x.key.mem_iff, List.mem_map]
  constructor
  · rintro ⟨e, he, rfl⟩
    obtain ⟨⟨k', hk, _⟩, _⟩ := x.el e he
    have hk' : Value.isStrOf k' e.2 = true := hk
    exact ⟨e, he, by rw [keyE_of hk']; exact hk'⟩
  · rintro ⟨e, he, hk⟩
    exact ⟨e, he, keyE_of hk⟩
theorem SX.len {h : Heap} {a : Addr} {L : Bool} {ks : List Str} {o : Obj} {es : Array (Int × Value)} {ep : Nat} {t : SetTable} (x : SX prog w h a L ks o es ep t) : es.size = ks.length := by
  rw [← x.key.length_eq, List.length_map, Array.length_toList]
theorem SX.store {h : Heap} {a : Addr} {L : Bool} {ks ks' : List Str} {o : Obj} {es es' : Array (Int × Value)} {ep : Nat} {t t' : SetTable} (x : SX prog w h a L ks o es ep t) (el : ElemsOf (strKind prog w) es'.toList)
    (key : (es'.toList.map keyE).Perm ks') (nd : ks'.Nodup) (sz : es'.size < scanBound) (fits : t'.fits es'.size = true) (led : t'.led = L) (pl : t'.plain = false) :
    SX prog w (h.update a (Obj.putSet es' t')) a L ks' { o with data := .set es' (ep + 1) t' } es' (ep + 1) t' := by
  refine ⟨?_, x.ex, rfl, el, key, nd, sz, fits, led, .inr pl⟩
  have e := Heap.get?_update_self (Obj.putSet es' t') x.at_ (by rw [putSet_of es' t' x.dt]; rfl)
  rwa [putSet_of es' t' x.dt] at e
theorem put_text {g : Bool → Sem Unit} (hg : ∀ (b : Bool) (s1 : Shared) (Q1 : Unit → Shared → Prop), Q1 () s1 → wpAny (model prog w) A (g b) Q1 E s1) {a : Addr} {L : Bool} {ks ks' : List Str} {o : Obj} {es es1 : Array (Int × Value)} {ep : Nat} {t t2 : SetTable}
    (x : SX prog w s.heap a L ks o es ep t) (el : ElemsOf (strKind prog w) es1.toList) (key : (es1.toList.map keyE).Perm ks') (nd : ks'.Nodup) (sz : es1.size < scanBound) (fits : t2.fits es1.size = true) (led : t2.led = L) (pl : t2.plain = false)
    {wd : Bool} {R : Option Bool → Shared → Prop} (h : ∀ h', Heap.SameBut a s.heap h' → SXO prog w h' a L ks' → R (some true) { s with heap := h' }) :
    wpAny (model prog w) A (do
      storeSet a es1 t2
      if (!wd && t2.tooFull) = true then do
          g (relayAll t2 es1 (SetTable.grown es1.size)).2.2
          storeSet a (relayAll t2 es1 (SetTable.grown es1.size)).1 (relayAll t2 es1 (SetTable.grown es1.size)).2.1
          pure (some true)
        else pure (some true)) R E s := by
  have x1 := x.store el key nd sz fits led pl
  have b1 := Heap.SameBut.update s.heap a (Obj.putSet es1 t2)
  refine wpAny_bind (wpAny_storeSet_of x.at_ x.dt ?_ (fits_of_scanBound sz))
  by_cases hc : (!wd && t2.tooFull) = true
  · rw [if_pos hc]
    have rp := relayAll_perm t2 es1 (SetTable.grown es1.size)
    have rf := relayAll_fits t2 es1 (SetTable.grown es1.size)
    have rl := relay_led t2 es1 (SetTable.grown es1.size)
    have rq := relay_pl t2 es1 (SetTable.grown es1.size) pl
    generalize relayAll t2 es1 (SetTable.grown es1.size) = W at rp rf rl rq
    obtain ⟨es2, t3, gv⟩ := W
    dsimp only at rp rf rl rq ⊢
    have z2 : es2.size = es1.size := by rw [← Array.length_toList, rp.length_eq, Array.length_toList]
    have x2 := x1.store (el.perm rp) ((rp.map keyE).trans key) nd (by rw [z2]; exact sz) rf (rl.trans led) rq
    refine wpAny_bind (hg _ _ _ (wpAny_bind (wpAny_storeSet_of x1.at_ x1.dt ?_ (fits_of_scanBound (by rw [z2]; exact sz)))))
    exact wpAny_pure (h _ (b1.trans (Heap.SameBut.update _ a _)) ⟨_, _, _, _, x2⟩)
  · rw [if_neg hc]
    exact wpAny_pure (h _ b1 ⟨_, _, _, _, x1⟩)
theorem add_text {a : Addr} {L : Bool} {ks : List Str} {k : Str} {tk : Tok} {Q : Bool → Shared → Prop} (hS : SXO prog w s.heap a L ks) (hr : ks.length + 1 < scanBound)
    (h : ∀ h', Heap.SameBut a s.heap h' → SXO prog w h' a L (stpS ks k) → ∀ b, Q b { s with heap := h' }) :
    wpAny (model prog w) A (setAddHashed a (.str k tk) ((strKind prog w).hash k)) Q E s := by
  obtain ⟨o, es, ep, t, x⟩ := hS
  have hk := isStr_is (prog := prog) (w := w) k tk
  have hsc : (Value.str k tk).scannable = true := rfl
  have hl := x.len
  unfold setAddHashed setAddHashedIn
  refine wpAny_holding (wpAny_bind (wpAny_setState_of x.at_ x.dt x.fits ?_))
  dsimp only
  rw [byScan_of hsc x.sz x.el, if_pos rfl]
  unfold setAddByScan
  refine wpAny_bind (wpAny_bind (wpAny_rule (wpAny_bind (wpAny_setScan_of hk x.at_ x.dt x.fits x.el ?_))))
  by_cases hin : k ∈ ks
  · obtain ⟨e, he, hke⟩ := (x.mem k).mp hin
    have hst : stpS ks k = ks := by unfold stpS; rw [if_pos (List.any_eq_true.mpr ⟨k, hin, by simp⟩)]
    cases hf : es.toList.findIdx? (fun e => (strKind prog w).is k e.2) with
    | none => exact absurd hke (by rw [show Value.isStrOf k e.2 = (strKind prog w).is k e.2 from rfl, List.findIdx?_eq_none_iff.mp hf e he]; decide)
    | some j =>
      dsimp only
      have q := h s.heap (Heap.SameBut.refl a s.heap) (by rw [hst]; exact ⟨o, es, ep, t, x⟩)
      exact wpAny_pure (wpAny_pure (q _))
  · have hst : stpS ks k = ks ++ [k] := by
      unfold stpS
      rw [if_neg]
      intro q
      obtain ⟨y, hy, e⟩ := List.any_eq_true.mp q
      exact hin (by rw [← show y = k by simpa using e]; exact hy)
    cases hf : es.toList.findIdx? (fun e => (strKind prog w).is k e.2) with
    | some j =>
      obtain ⟨hj, hpj, _⟩ := List.findIdx?_eq_some_iff_getElem.mp hf
      exact absurd ((x.mem k).mpr ⟨_, List.getElem_mem hj, hpj⟩) hin
    | none =>
      dsimp only
      have lp := layNew_perm t es ((strKind prog w).hash k) (.str k tk)
      have lf := layNew_fits t es ((strKind prog w).hash k) (.str k tk)
      have ll := layNew_led t es ((strKind prog w).hash k) (.str k tk)
      have lq := layNew_pl t es ((strKind prog w).hash k) (.str k tk)
      generalize layNew t es ((strKind prog w).hash k) (.str k tk) = W at lp lf ll lq
      obtain ⟨es1, t1, wd, gv⟩ := W
      dsimp only at lp lf ll lq ⊢
      rw [Array.toList_push] at lp
      have el1 : ElemsOf (strKind prog w) es1.toList := (x.el.push hk hsc).perm lp
      have key1 : (es1.toList.map keyE).Perm (ks ++ [k]) := by
        refine (lp.map keyE).trans ?_
        rw [List.map_append]
        exact x.key.append_right [k]
      have nd1 : (ks ++ [k]).Nodup := by
        rw [List.nodup_append]
        exact ⟨x.nd, by simp, fun u hu v hv e => hin (by rw [← List.mem_singleton.mp hv, ← e]; exact hu)⟩
      have sz1 : es1.size < scanBound := by
        rw [← Array.length_toList, lp.length_eq, List.length_append, Array.length_toList, hl]
        exact hr
      have gv_ok : ∀ (b : Bool) (s1 : Shared) (Q1 : Unit → Shared → Prop), Q1 () s1 → wpAny (model prog w) A (match b with | true => rule "set.scan.the-table-gave-way" | false => pure ()) Q1 E s1 := fun b s1 Q1 q => by
        cases b
        · exact wpAny_pure q
        · exact wpAny_rule q
      refine wpAny_bind (gv_ok gv _ _ ?_)
      have done : ∀ h', Heap.SameBut a s.heap h' → SXO prog w h' a L (ks ++ [k]) → ∀ b, Q b { s with heap := h' } := fun h' b1 b2 => h h' b1 (by rw [hst]; exact b2)
      by_cases hp : t1.plain = true
      · rw [if_pos hp]
        refine wpAny_bind ?_
        rw [hashByValue_scannable 8 hsc]
        refine wpAny_pure ?_
        refine put_text gv_ok x el1 key1 nd1 sz1 ?_ ?_ ?_ fun h' b1 b2 => wpAny_pure (done h' b1 b2 _)
        · exact SetTable.fits_plain_off lf
        · exact ll.trans x.led
        · rfl
      · rw [if_neg hp]
        refine wpAny_bind (wpAny_pure ?_)
        rw [if_pos rfl]
        exact put_text gv_ok x el1 key1 nd1 sz1 lf (ll.trans x.led) (by simpa using hp) fun h' b1 b2 => wpAny_pure (done h' b1 b2 _)
end
end L2
set_option Elab.async false
set_option linter.all false
set_option maxRecDepth 100000
set_option maxHeartbeats 4000000
namespace L2
open PySem PySem.Spec PyProof.Rows
section
variable {prog : Program} {w : World} {A : Around} {R : Result → Shared → Prop} {I : Addr} {fp wr : List Addr} {G : Array GenState → Array GenState → Prop} {n : Nat} {P : Nat → Value → Prop} {St : Nat → Shared → Prop}
theorem set_loopX (W : WalksS prog w A.in1 I fp wr G n P St) (S : Addr) (hSf : S ∉ fp)
    {L : Bool} (val : Nat → Str) (hval : ∀ i v, P i v → ∃ t, v = .str (val i) t) (hb : n + 1 < scanBound) :
    ∀ (k i : Nat) (s : Shared), n - i = k → i ≤ n → St i s →
      SXO prog w s.heap S L (fmS val i) →
      (∀ s', Moved (S :: wr) G s s' → SXO prog w s'.heap S L (fmS val n) → R (.ok (.ret .none)) s') →
      codeAny (model prog w) A (.builtin "set.update.loop" ⟨[.ref S, .ref I], []⟩) R s := by
  have hSw : S ∉ wr := fun h => hSf (W.sub _ h)
  have hsub : ∀ b ∈ wr, b ∈ S :: wr := fun b hb => List.mem_cons_of_mem _ hb
  intro k
  induction k with
  | zero =>
    intro i s hk hi hst hS hR
    have hin : i = n := by omega
    subst hin
    refine codeAny_builtin PyProof.Rows.F.entry_set_update_loop ?_
    rw [Around.under_plainId PyProof.Rows.F.plain_set_update_loop _]
    show wpAny _ A.in1 (pyNext (.ref I) >>= _) _ _ s
    refine wpAny_bind (W.done s _ _ hst fun s' hm => ?_)
    show wpAny _ A.in1 (ret Value.none) _ _ s'
    exact wpAny_pure (hR s' (hm.mono hsub) (by
      obtain ⟨o, es, ep, t, x⟩ := hS
      exact ⟨o, es, ep, t, x.to (hm.heap S _ hSw x.at_)⟩))
  | succ k ih =>
    intro i s hk hi hst hS hR
    have hlt : i < n := by omega
    refine codeAny_builtin PyProof.Rows.F.entry_set_update_loop ?_
    rw [Around.under_plainId PyProof.Rows.F.plain_set_update_loop _]
    show wpAny _ A.in1 (pyNext (.ref I) >>= _) _ _ s
    refine wpAny_bind (W.item i s _ _ hlt hst fun v s' hP hst' hm => ?_)
    obtain ⟨t, rfl⟩ := hval i v hP
    have hS' : SXO prog w s'.heap S L (fmS val i) := by
      obtain ⟨o, es, ep, tb, x⟩ := hS
      exact ⟨o, es, ep, tb, x.to (hm.heap S _ hSw x.at_)⟩
    show wpAny _ A.in1 (holding [Value.str (val i) t] (setAdd S (.str (val i) t)) >>= _) _ _ s'
    refine wpAny_bind (wpAny_holding ?_)
    unfold setAdd
    refine wpAny_holding ?_
    refine wpAny_bind ((strKind prog w).pyHash (k := val i) (isStr_is _ _) ?_)
    have hroom : (fmS val i).length + 1 < scanBound := by have := fmS_le val i; omega
    refine add_text (s := { s' with toks := s'.toks + 1 }) hS' hroom fun h' hsb hS2 _ => ?_
    have hSi : SXO prog w h' S L (fmS val (i + 1)) := by rw [fmS_succ]; exact hS2
    refine wpAny_pure ⟨plainId_quiet PyProof.Rows.F.plain_set_update_loop _, ih (i + 1) _ (by omega) hlt (W.frame _ s' _ _ hst' (Nat.le_succ _) fun b hb o e => ?_) hSi fun s'' hm'' hS'' => ?_⟩
    · rw [hsb.2 b (fun h : b = S => hSf (by rw [← h]; exact hb))]; exact e
    · refine hR s'' (Moved.trans W.gtrans ((hm.mono hsub).then_heap (Nat.le_succ _) fun b o hb e => ?_) hm'') hS''
      rw [hsb.2 b (fun h : b = S => hb (by rw [h]; exact List.mem_cons_self))]; exact e
end
def setO (L : Bool) : Obj := { cls := .type "set", dict := none, data := .set #[] 0 (.fresh 0 0 L) }
section
variable {prog : Program} {w : World} {A : Around} {E : Value → Shared → Prop} {s : Shared}
theorem set_newL (a : Value) {Q₁ : Value → Shared → Prop} (h : Q₁ (.ref s.heap.objs.size) { s with heap := s.heap.push (setO (!w.params.followText "set-order")) }) :
    codeAny (model prog w) A (.call (.builtin "set.__new__") ⟨[.type "set", a], []⟩) (wants Q₁ E) s := by
  have hsub := sub_set_self
  refine codeAny_of_tree (show wpAny _ A.in1 (do checkBuiltinCall "set.__new__" ⟨[.type "set", a], []⟩; again (.builtin "set.__new__" ⟨[.type "set", a], []⟩)) _ _ s from ?_)
  refine wpAny_bind (wpAny_of_eq (PySem.F.newCall_set_1 a) (wpAny_pure ⟨plainId_quiet PySem.F.plain_set_new _, codeAny_builtin PySem.F.entry_set_new ?_⟩))
  rw [Around.under_plainId PySem.F.plain_set_new _, Builtin.«set.__new__», Builtin.Frozenset.newClass]
  obtain ⟨hp, g, d, tk, os⟩ := s
  dsimp only
  wp_walk
  refine wpAny_askSetting (wpAny_pure ?_)
  show wpAny _ _ (newObj (.type "set") (.set #[] 0 (.fresh 0 0 (!w.params.followText "set-order")))) _ _ _
  unfold newObj
  exact wpAny_bind (wpAny_alloc (wpAny_pure (wpAny_pure h)))
theorem call_setX {T IT : String} {l : Addr} {ol : Obj} {items : Array Value} {ss : List Str} {St : Addr → Nat → Heap → Prop} {Q : Value → Shared → Prop} (hh : A.handled = none) (hol : s.heap.get? l = some ol) (hcl : ol.cls = .type T)
    (hsls : isSubtype (.type T) (.type "set") = pure false) (hslf : isSubtype (.type T) (.type "frozenset") = pure false) (hne : (Value.type T == Value.type "dict") = false)
    (hit : ∀ (A' : Around) (E' : Value → Shared → Prop) (s' : Shared) (Q' : Value → Shared → Prop), s'.heap.get? l = some ol → Q' (.ref s'.heap.objs.size) { s' with heap := s'.heap.push { cls := .type IT, data := .fields #[.ref l, .int 0 0] } } → wpAny (model prog w) A' (pyIter (.ref l)) Q' E' s')
    (hw : ∀ (A' : Around) (I : Addr), A'.handled = none → l ≠ I → Walks prog w A' I [I, l] [I] items.size (fun i v => items[i]? = some v) (St I))
    (hs0 : ∀ (I : Addr) (h : Heap), h.get? l = some ol → h.get? I = some { cls := .type IT, data := .fields #[.ref l, .int 0 0] } → St I 0 h)
    (hs : ∀ (i : Nat) (v : Value), items[i]? = some v → ∃ t, v = .str (ss.getD i ⟨#[]⟩) t) (hb : items.size + 1 < scanBound)
    (h : ∀ (h' : Heap) (tk : Nat), SXO prog w h' s.heap.objs.size (!w.params.followText "set-order") (fmS (fun i => ss.getD i ⟨#[]⟩) items.size) →
      (∀ b o, b < s.heap.objs.size → s.heap.get? b = some o → h'.get? b = some o) → Q (.ref s.heap.objs.size) { s with heap := h', toks := tk }) :
    wpAny (model prog w) A (call (.type "set") [.ref l]) Q E s := by
  obtain ⟨c, tl, hmro⟩ := PySem.F.called_set.mro
  have hmade := PySem.F.called_set.made
  have hsub := PySem.F.called_set.sub
  refine wpAny_call (codeAny_of_tree ?_)
  show wpAny _ _ (callAny (.type "set") _) _ _ _
  refine wpAny_pure ⟨Code.quiet_builtin _ (by decide +kernel), codeAny_builtin PySem.F.entry_type_call ?_⟩
  rw [Around.under_plain (weight_type_call_type "set" [.ref l] []) rfl]
  have h1 := PySem.F.called_set.notType
  have h2 := PySem.F.called_set.canCreate
  have hct := PySem.F.typeCall_set_1 (.ref l)
  repeat (any_goals (first | assumption | wp_step))
  refine codeAny_mono (set_newL (.ref l) (E := E) (Q₁ := fun obj s₁ => obj = .ref s.heap.objs.size ∧ s₁ = { s with heap := s.heap.push (setO (!w.params.followText "set-order")) }) ⟨rfl, rfl⟩) fun r s₁ hr => ?_
  cases r with
  | error e => exact hr
  | ok fl =>
    cases fl with
    | ret obj =>
      obtain ⟨rfl, rfl⟩ := hr
      have hS : (s.heap.push (setO (!w.params.followText "set-order"))).get? s.heap.objs.size = some (setO (!w.params.followText "set-order")) := Heap.get?_push_size _ rfl
      have hT : Shared.TypeIs { s with heap := s.heap.push (setO (!w.params.followText "set-order")) } (.ref s.heap.objs.size) "set" := ⟨_, hS, rfl⟩
      have hli := PySem.F.called_set.init.lookup
      have hbi := PySem.F.called_set.init.bind (.ref s.heap.objs.size)
      repeat (any_goals (first | assumption | wp_step))
      refine codeAny_mono (codeAny_call_builtin (R := wants (fun r s₂ => r = .none ∧ ∃ h' tk, s₂ = { s with heap := h', toks := tk } ∧
          SXO prog w h' s.heap.objs.size (!w.params.followText "set-order") (fmS (fun i => ss.getD i ⟨#[]⟩) items.size) ∧
          (∀ b o, b < s.heap.objs.size → s.heap.get? b = some o → h'.get? b = some o)) E) PySem.F.called_set.init.plain PySem.F.entry_set_init (check_set_init_1 hT ?_)) fun r₂ s₂ hr₂ => ?_
      · have hol' : (s.heap.push (setO (!w.params.followText "set-order"))).get? l = some ol := Heap.get?_push_of_some _ hol
        have hTl : Shared.TypeIs { s with heap := s.heap.push (setO (!w.params.followText "set-order")) } (.ref l) T := ⟨_, hol', hcl⟩
        unfold Builtin.«set.__init__» noKeywords Builtin.Frozenset.updateFrom
        generalize hPI : pyIter = PI
        wp_walk
        subst hPI
        refine hit _ _ _ _ hol' ?_
        refine wpAny_bind (wpAny_runValue ?_)
        have hlS : l < s.heap.objs.size := Heap.lt_size hol
        have hh3 : A.in1.in1.in1.handled = none := by simp [hh]
        have hneI : l ≠ (s.heap.push (setO (!w.params.followText "set-order"))).objs.size := by
          rw [Heap.size_push]
          exact Nat.ne_of_lt (Nat.lt_succ_of_lt hlS)
        have hSf : s.heap.objs.size ∉ [(s.heap.push (setO (!w.params.followText "set-order"))).objs.size, l] := by
          rw [Heap.size_push, List.mem_cons, List.mem_singleton]
          rintro (q | q)
          · exact absurd q (Nat.ne_of_lt (Nat.lt_succ_self _))
          · exact absurd q (Nat.ne_of_gt hlS)
        refine set_loopX ((hw _ _ hh3 hneI).toS) s.heap.objs.size hSf (L := !w.params.followText "set-order") (fun i => ss.getD i ⟨#[]⟩) hs hb (items.size - 0) 0 _ rfl (Nat.zero_le _)
          (hs0 _ _ (Heap.get?_push_of_some _ hol') (Heap.get?_push_size _ rfl)) ?hS0 ?hR
        case hS0 =>
          exact ⟨_, #[], 0, _, Heap.get?_push_of_some _ hS, ⟨rfl, rfl, rfl⟩, rfl, fun e he => by simp at he, .nil, .nil, by decide, rfl, rfl, .inl rfl⟩
        case hR =>
          intro s' hm hS'
          obtain ⟨h', g', d', tk', os'⟩ := s'
          have eg : g' = s.gens := hm.gens
          have ed : d' = s.drawn := hm.drawn
          have eo : os' = s.os := hm.os
          subst eg; subst ed; subst eo
          show wpAny _ _ _ _ _ _
          refine wpAny_pure ?_
          show wpAny _ _ (ret Value.none) _ _ _
          refine wpAny_pure ⟨rfl, h', tk', rfl, hS', fun b o hb e => ?_⟩
          have hb1 : b ≠ s.heap.objs.size := Nat.ne_of_lt hb
          have hb2 : b ≠ (s.heap.push (setO (!w.params.followText "set-order"))).objs.size := by
            rw [Heap.size_push]; exact Nat.ne_of_lt (Nat.lt_succ_of_lt hb)
          exact hm.heap b o (by simp only [List.mem_cons, List.mem_singleton, List.not_mem_nil, or_false, not_or]; exact ⟨hb1, hb2⟩) (Heap.get?_push_of_some _ (Heap.get?_push_of_some _ e))
      · cases r₂ with
        | error e => exact hr₂
        | ok fl₂ =>
          cases fl₂ with
          | ret r =>
            obtain ⟨rfl, h', tk, rfl, hS', hk'⟩ := hr₂
            repeat (any_goals (first | assumption | wp_step))
            exact h _ _ hS' hk'
          | _ => exact hr₂.elim
    | _ => exact hr.elim
end
end L2
set_option Elab.async false
set_option linter.all false
set_option maxRecDepth 100000
set_option maxHeartbeats 4000000
namespace L2
open PySem PySem.Spec PyProof.Rows
theorem sit_next : Slot "set_iterator" "__next__" "set_iterator.__next__" := .of (owner := "set_iterator") (n := "__next__") (by rw [typeLookup_type, builtinLookup_eq_fast]; kernel_rfl) (by decide +kernel) (by decide +kernel) (by decide +kernel) (.inl (by decide +kernel)) (by rw [isSubtype_type]; kernel_rfl)
theorem sit_iter : Slot "set_iterator" "__iter__" "set_iterator.__iter__" := .of (owner := "set_iterator") (n := "__iter__") (by rw [typeLookup_type, builtinLookup_eq_fast]; kernel_rfl) (by decide +kernel) (by decide +kernel) (by decide +kernel) (.inl (by decide +kernel)) (by rw [isSubtype_type]; kernel_rfl)
theorem sit_entry : entryFor table "set_iterator.__next__" = some Builtin.«set_iterator.__next__» := entryFor_of_tree (by kernel_rfl)
theorem sit_args (a : Value) : argsOk "set_iterator.__next__" ⟨[a], []⟩ := by unfold argsOk; kernel_rfl
theorem sit_argsI (a : Value) : argsOk "set_iterator.__iter__" ⟨[a], []⟩ := by unfold argsOk; kernel_rfl
theorem set_iter_entry : entryFor table "set.__iter__" = some Builtin.«frozenset.__iter__» := entryFor_alias (id' := "frozenset.__iter__") (by kernel_rfl) rfl (by decide +kernel) (by kernel_rfl)
theorem sit_entryI : entryFor table "set_iterator.__iter__" = some Builtin.«dict_keyiterator.__iter__» := entryFor_alias (id' := "dict_keyiterator.__iter__") (by kernel_rfl) rfl (by decide +kernel) (by kernel_rfl)
def SIt (h : Heap) (I : Addr) (f : Value) (i : Nat) (a : Addr) (n ep : Nat) : Prop := ∃ o, h.get? I = some o ∧ o.cls = .type "set_iterator" ∧ o.data = .fields #[f, .int i 0, .ref a, .int n 0, .int ep 0]
theorem SIt.ty {s : Shared} {I : Addr} {f : Value} {i : Nat} {a : Addr} {n ep : Nat} (x : SIt s.heap I f i a n ep) : s.TypeIs (.ref I) "set_iterator" := let ⟨o, h, c, _⟩ := x; ⟨o, h, c⟩
section
variable {prog : Program} {w : World} {A : Around} {E : Value → Shared → Prop} {s : Shared}
theorem sit_self {I : Addr} {f : Value} {i : Nat} {a : Addr} {n ep : Nat} {Q : Value → Shared → Prop} (x : SIt s.heap I f i a n ep) (h : Q (.ref I) s) : wpAny (model prog w) A (pyIter (.ref I)) Q E s := by
  refine wpAny_pyIter_slot x.ty sit_iter (wpAny_call_entry sit_iter x.ty sit_entryI ?_ (sit_argsI _))
  exact wpAny_pure ⟨_, rfl, "set_iterator", _, x.ty, sit_next.lookup, h⟩
theorem SIt.upd {h : Heap} {I : Addr} {f : Value} {i : Nat} {a : Addr} {n ep : Nat} {o : Obj} (g : h.get? I = some o) (c : o.cls = .type "set_iterator") (d : o.data = .fields #[f, .int i 0, .ref a, .int n 0, .int ep 0]) (k : Nat) (v : Value) :
    ∃ o', (h.update I (Obj.mapFields (·.setIfInBounds k v))).get? I = some o' ∧ o'.cls = .type "set_iterator" ∧ o'.data = .fields ((#[f, .int i 0, .ref a, .int n 0, .int ep 0] : Array Value).setIfInBounds k v) :=
  ⟨_, Heap.get?_update_self _ g (Obj.isFreed_of_fields (Obj.data_mapFields d _)), (Obj.cls_mapFields ..).trans c, by rw [Obj.data_mapFields d]⟩
theorem stop_met {B : Around} (hh : B.handled = none) {Q : Option Value → Shared → Prop} {R : Fin → Shared → Prop} (h : ∀ h', (∀ b o, s.heap.get? b = some o → h'.get? b = some o) → Q none { s with heap := h' }) :
    wpAny (model prog w) B.in1 (newExc (.type "StopIteration") [] >>= fun e => (raiseNew e : Sem Fin)) R
      (fun e s' => wpAny (model prog w) B (do if (← isInstance e (.type "StopIteration")) = true then pure none else throw e) Q E s') s := by
  refine wpAny_bind ?_
  simp only [newExc, newTuple]
  refine wpAny_bind (wpAny_newObj_type ?_ (by size_fits))
  refine wpAny_bind (m := firstArgMember _ _) (wpAny_of_eq (a := Value.none) (by first | rfl | (simp only [firstArgMember]; rfl)) (wpAny_newObj_type ?_ (by size_fits)))
  simp only [raiseNew]
  refine wpAny_bind (wpAny_handled ?_)
  rw [show B.in1.handled = none from hh]
  refine wpAny_bind (wpAny_pure (wpAny_throw ?_))
  refine wpAny_bind (wpAny_isInstance (T := "StopIteration") (b := true) ⟨_, Heap.get?_push_size _ rfl, rfl⟩ isSubtype_stop (wpAny_pure ?_))
  exact (h _ fun b o e => Heap.get?_push_of_some _ (Heap.get?_push_of_some _ e))
theorem sit_open {I a : Addr} {f : Value} {i n ep : Nat} {L : Bool} {ks : List Str} {o : Obj} {es : Array (Int × Value)} {t : SetTable} {Q : Option Value → Shared → Prop} (x : SIt s.heap I f i a n ep) (y : SX prog w s.heap a L ks o es ep t) (hn : es.size = n)
    (h : wpAny (model prog w) A.in1 (match f with
        | .int slot _ => do
          match ← setNext a slot.toNat i ep with
          | some (x, next) =>
            setField (.ref I) 0 (rawInt next)
            setField (.ref I) 1 (rawInt (i + 1))
            ret x
          | none => setField (.ref I) 2 .none; raiseNew (← newExc (.type "StopIteration") [])
        | _ => do
          let some places ← seqItems? f | unsupported "internal:set_iterator"
          match places[i]? with
          | some (.int place _) =>
            let x ← setNextDrawn a place.toNat ep
            setField (.ref I) 1 (rawInt (i + 1))
            ret x
          | some _ => unsupported "internal:set_iterator"
          | none => setField (.ref I) 0 (rawInt 0); setField (.ref I) 2 .none; raiseNew (← newExc (.type "StopIteration") []))
      (fun fin s' => ∃ v, fin = Fin.done (Flow.ret v) ∧ Q (some v) s') (fun e s' => wpAny (model prog w) A (do if (← isInstance e (.type "StopIteration")) = true then pure none else throw e) Q E s') s) :
    wpAny (model prog w) A (pyNext (.ref I)) Q E s := by
  obtain ⟨oi, hi, ci, di⟩ := id x
  unfold pyNext
  refine wpAny_bind (wpAny_attempt (wpAny_callSpecial?_slot (name := Str.ofString "__next__") x.ty sit_next (wpAny_call_entry sit_next x.ty sit_entry ?_ (sit_args _))))
  unfold Builtin.«set_iterator.__next__»
  refine wpAny_bind (wpAny_pure ?_)
  refine wpAny_bind (wpAny_fieldsOf hi di ?_)
  dsimp only
  refine wpAny_bind (wpAny_setEntries_of y.at_ y.dt y.fits ?_)
  rw [if_neg (by rw [hn]; simp)]
  refine wpAny_mono ?_ (Q := fun fin s' => ∃ v, fin = Fin.done (Flow.ret v) ∧ Q (some v) s') (fun fin s' ⟨v, e, q⟩ => ⟨v, e, wpAny_pure q⟩) fun _ _ q => q
  simp only [Int.toNat_natCast]
  cases f <;> exact h
theorem sit_int {I a : Addr} {sl i n ep nx : Nat} {L : Bool} {ks : List Str} {o : Obj} {es : Array (Int × Value)} {t : SetTable} {v : Value} {Q : Option Value → Shared → Prop} (x : SIt s.heap I (.int sl 0) i a n ep) (y : SX prog w s.heap a L ks o es ep t) (hn : es.size = n)
    (hx : ∀ (A' : Around) (E' : Value → Shared → Prop) (Q' : Option (Value × Nat) → Shared → Prop), Q' (some (v, nx)) s → wpAny (model prog w) A' (setNext a sl i ep) Q' E' s)
    (hQ : ∀ h', SIt h' I (.int nx 0) (i + 1) a n ep → Heap.SameBut I s.heap h' → Q (some v) { s with heap := h' }) : wpAny (model prog w) A (pyNext (.ref I)) Q E s := by
  refine sit_open x y hn ?_
  obtain ⟨oi, hi, ci, di⟩ := id x
  dsimp only
  rw [Int.toNat_natCast]
  refine wpAny_bind (hx _ _ _ ?_)
  dsimp only
  refine wpAny_bind (wpAny_setField hi di (by simp) ?_)
  obtain ⟨o1, g1, c1, d1⟩ := SIt.upd hi ci di 0 (rawInt nx)
  refine wpAny_bind (wpAny_setField g1 d1 (by simp) ?_)
  refine wpAny_pure ⟨v, rfl, hQ _ ?_ ((Heap.SameBut.update ..).trans (Heap.SameBut.update ..))⟩
  exact ⟨_, Heap.get?_update_self _ g1 (Obj.isFreed_of_fields (Obj.data_mapFields d1 _)), (Obj.cls_mapFields ..).trans c1, by rw [Obj.data_mapFields d1]; simp [rawInt]⟩
theorem sit_intE {I a : Addr} {sl i n ep : Nat} {L : Bool} {ks : List Str} {o : Obj} {es : Array (Int × Value)} {t : SetTable} {Q : Option Value → Shared → Prop} (hh : A.handled = none) (x : SIt s.heap I (.int sl 0) i a n ep) (y : SX prog w s.heap a L ks o es ep t) (hn : es.size = n)
    (hx : ∀ (A' : Around) (E' : Value → Shared → Prop) (Q' : Option (Value × Nat) → Shared → Prop), Q' none s → wpAny (model prog w) A' (setNext a sl i ep) Q' E' s)
    (hQ : ∀ h', (∀ b o, b ≠ I → s.heap.get? b = some o → h'.get? b = some o) → Q none { s with heap := h' }) : wpAny (model prog w) A (pyNext (.ref I)) Q E s := by
  refine sit_open x y hn ?_
  obtain ⟨oi, hi, ci, di⟩ := id x
  dsimp only
  rw [Int.toNat_natCast]
  refine wpAny_bind (hx _ _ _ ?_)
  dsimp only
  refine wpAny_bind (wpAny_setField hi di (by simp) ?_)
  exact stop_met hh fun h' k => hQ h' fun b o hb e => k b o ((Heap.get?_update_other _ _ (Ne.symm hb)).trans e)
theorem sit_ref {I a tp : Addr} {i n ep pl c : Nat} {L : Bool} {ks : List Str} {o : Obj} {es : Array (Int × Value)} {t : SetTable} {hv : Int} {v : Value} {ps : Array Value} {Q : Option Value → Shared → Prop} (x : SIt s.heap I (.ref tp) i a n ep) (y : SX prog w s.heap a L ks o es ep t) (hn : es.size = n)
    {ot : Obj} (ht : s.heap.get? tp = some ot) (hd : ot.data = .seq ps c) (hp : ps[i]? = some (rawInt pl)) (he : es[pl]? = some (hv, v))
    (hQ : ∀ h', SIt h' I (.ref tp) (i + 1) a n ep → Heap.SameBut I s.heap h' → Q (some v) { s with heap := h' }) : wpAny (model prog w) A (pyNext (.ref I)) Q E s := by
  refine sit_open x y hn ?_
  obtain ⟨oi, hi, ci, di⟩ := id x
  dsimp only
  refine wpAny_bind (wpAny_seqItems ht hd ?_)
  dsimp only
  rw [hp]
  dsimp only [rawInt]
  unfold setNextDrawn
  refine wpAny_bind (wpAny_bind (wpAny_setState_of y.at_ y.dt y.fits ?_))
  dsimp only
  rw [if_neg (by simp), Int.toNat_natCast, he]
  refine wpAny_pure ?_
  refine wpAny_bind (wpAny_setField hi di (by simp) ?_)
  refine wpAny_pure ⟨v, rfl, hQ _ ?_ (Heap.SameBut.update ..)⟩
  exact ⟨_, Heap.get?_update_self _ hi (Obj.isFreed_of_fields (Obj.data_mapFields di _)), (Obj.cls_mapFields ..).trans ci, by rw [Obj.data_mapFields di]; simp⟩
theorem sit_refE {I a tp : Addr} {i n ep c : Nat} {L : Bool} {ks : List Str} {o : Obj} {es : Array (Int × Value)} {t : SetTable} {ps : Array Value} {Q : Option Value → Shared → Prop} (hh : A.handled = none) (x : SIt s.heap I (.ref tp) i a n ep) (y : SX prog w s.heap a L ks o es ep t) (hn : es.size = n)
    {ot : Obj} (ht : s.heap.get? tp = some ot) (hd : ot.data = .seq ps c) (hp : ps[i]? = none)
    (hQ : ∀ h', (∀ b o, b ≠ I → s.heap.get? b = some o → h'.get? b = some o) → Q none { s with heap := h' }) : wpAny (model prog w) A (pyNext (.ref I)) Q E s := by
  refine sit_open x y hn ?_
  obtain ⟨oi, hi, ci, di⟩ := id x
  dsimp only
  refine wpAny_bind (wpAny_seqItems ht hd ?_)
  dsimp only
  rw [hp]
  dsimp only
  refine wpAny_bind (wpAny_setField hi di (by simp) ?_)
  obtain ⟨o1, g1, c1, d1⟩ := SIt.upd hi ci di 0 (rawInt 0)
  refine wpAny_bind (wpAny_setField g1 d1 (by simp) ?_)
  exact stop_met hh fun h' k => hQ h' fun b o hb e => k b o ((Heap.get?_update_other _ _ (Ne.symm hb)).trans ((Heap.get?_update_other _ _ (Ne.symm hb)).trans e))
end
end L2
set_option Elab.async false
set_option linter.all false
set_option maxRecDepth 100000
set_option maxHeartbeats 4000000
namespace L2
open PySem PySem.Spec PyProof.Rows
theorem out_perm {α : Type} : ∀ (l : List α) (i : Nat) (x : α), l[i]? = some x → (x :: l.eraseIdx i).Perm l
  | [], i, x, h => by simp at h
  | a :: l, 0, x, h => by simp at h; subst h; exact List.Perm.refl _
  | a :: l, i + 1, x, h => by
    rw [List.eraseIdx_cons_succ]
    exact (List.Perm.swap a x _).trans ((out_perm l i x (by simpa using h)).cons a)
theorem pick_go {α : Type} (f : Nat → Nat) : ∀ (fuel k : Nat) (left : List α) (out : Array α), left.length = fuel → (pickOrder.go f fuel k left out).toList.Perm (out.toList ++ left)
  | 0, k, left, out, h => by
    rw [List.length_eq_zero_iff.mp h, List.append_nil]
    exact List.Perm.refl _
  | fuel + 1, k, left, out, h => by
    have hlt : f k % left.length < left.length := Nat.mod_lt _ (by omega)
    unfold pickOrder.go
    rw [List.getElem?_eq_getElem hlt]
    dsimp only
    refine (pick_go f fuel (k + 1) _ _ (by rw [List.length_eraseIdx_of_lt hlt]; omega)).trans ?_
    rw [Array.toList_push, List.append_assoc]
    exact List.Perm.append_left _ (out_perm left _ _ (List.getElem?_eq_getElem hlt))
theorem pick_perm {α : Type} (f : Nat → Nat) (es : Array α) : (pickOrder f es).toList.Perm es.toList := by
  have := pick_go f es.size 0 es.toList #[] (by simp)
  simpa [pickOrder] using this
section
variable {prog : Program} {w : World} {A : Around} {E : Value → Shared → Prop} {s : Shared}
theorem choose_any {src : Source} {n : Nat} {Q : Nat → Shared → Prop} (hn : 0 < n) (h : ∀ i dr, i < n → Q i { s with drawn := dr }) : wpAny (model prog w) A (choose src n) Q E s := fun Γ p hΓ => by
  show Sem.wp _ Γ (.choose src n .pure) _ _ p s
  rw [Sem.wp_choose]
  exact ⟨by omega, h _ _ (Nat.mod_lt _ hn)⟩
theorem draw_any {α : Type} : ∀ (n : Nat) (xs : List α) (s : Shared) {Q : List α → Shared → Prop}, xs.length = n → (∀ ys dr, ys.Perm xs → Q ys { s with drawn := dr }) → wpAny (model prog w) A (drawOrder n xs) Q E s
  | 0, xs, s, Q, hl, h => by
    unfold drawOrder
    exact wpAny_pure (h [] s.drawn (by rw [List.length_eq_zero_iff.mp hl]))
  | n + 1, [], s, Q, hl, h => by simp at hl
  | n + 1, x :: xs, s, Q, hl, h => by
    unfold drawOrder
    refine wpAny_bind (choose_any (by simp) fun i dr hi => ?_)
    rw [List.getElem?_eq_getElem hi]
    dsimp only
    refine wpAny_bind (draw_any n _ _ (by rw [List.length_eraseIdx_of_lt hi]; omega) fun ys dr' hp => wpAny_pure (h _ dr' ?_))
    exact (hp.cons _).trans (out_perm _ i _ (List.getElem?_eq_getElem hi))
theorem SX.str {h : Heap} {a : Addr} {L : Bool} {ks : List Str} {o : Obj} {es : Array (Int × Value)} {ep : Nat} {t : SetTable} (x : SX prog w h a L ks o es ep t) {e : Int × Value} (he : e ∈ es.toList) : ∃ tk, e.2 = .str (keyE e) tk := by
  obtain ⟨⟨k, hk, _⟩, _⟩ := x.el e he
  have hk' : Value.isStrOf k e.2 = true := hk
  rw [keyE_of hk']
  exact Value.isStrOf_shape hk'
theorem next_text {a : Addr} {L : Bool} {ks : List Str} {o : Obj} {es : Array (Int × Value)} {ep : Nat} {t : SetTable} {sl i : Nat} {Q : Option (Value × Nat) → Shared → Prop} (hB : w.params.followText "set-order" = true) (x : SX prog w s.heap a L ks o es ep t)
    (h : Q (((pickOrder (w.params.setOrder a ep) es)[i]?).map fun e => (e.2, sl)) s) : wpAny (model prog w) A (setNext a sl i ep) Q E s := by
  unfold setNext setsByText
  refine wpAny_bind (wpAny_setState_of x.at_ x.dt x.fits ?_)
  dsimp only
  refine wpAny_bind (wpAny_bind (wpAny_askSetting (wpAny_pure ?_)))
  refine wpAny_ite_split (fun _ => ?_) (fun q => absurd hB q)
  refine wpAny_ite_split (fun q => absurd q (by simp)) (fun _ => ?_)
  unfold setWalk setsByText
  refine wpAny_bind (wpAny_bind (wpAny_setState_of x.at_ x.dt x.fits ?_))
  dsimp only
  refine wpAny_bind (wpAny_bind (wpAny_askSetting (wpAny_pure ?_)))
  refine wpAny_ite_split (fun _ => ?_) (fun q => absurd hB q)
  exact wpAny_bind (wpAny_askSetting (wpAny_pure (wpAny_pure h)))
theorem next_slot {a : Addr} {ks : List Str} {o : Obj} {es : Array (Int × Value)} {ep : Nat} {t : SetTable} {sl i : Nat} {Q : Option (Value × Nat) → Shared → Prop} (hB : w.params.followText "set-order" = false) (x : SX prog w s.heap a true ks o es ep t) (h1 : es.size ≤ 1)
    (h : Q (match es[SetTable.below t.place sl]?, t.place[SetTable.below t.place sl]? with | some (_, x), some j => some (x, j + 1) | _, _ => none) s) : wpAny (model prog w) A (setNext a sl i ep) Q E s := by
  unfold setNext setsByText
  refine wpAny_bind (wpAny_setState_of x.at_ x.dt x.fits ?_)
  dsimp only
  refine wpAny_bind (wpAny_bind (wpAny_askSetting (wpAny_pure ?_)))
  have hB' : ¬ w.params.followText "set-order" = true := by rw [hB]; decide
  refine wpAny_ite_split (fun q => absurd q hB') (fun _ => ?_)
  refine wpAny_ite_split (fun q => ?_) (fun _ => ?_)
  · have q' : (!t.plain && decide (es.size > 1)) = true := q
    simp at q'
    omega
  refine wpAny_bind (show wpAny _ _ (if (!t.led && !es.isEmpty) = true then unsupported _ else pure ()) _ _ _ from ?_)
  refine wpAny_ite_split (fun q => absurd q (by rw [x.led]; simp)) (fun _ => wpAny_pure (wpAny_pure h))
theorem SX.keep {h h' : Heap} {a : Addr} {L : Bool} {ks : List Str} {o : Obj} {es : Array (Int × Value)} {ep : Nat} {t : SetTable} (x : SX prog w h a L ks o es ep t) (k : ∀ o, h.get? a = some o → h'.get? a = some o) : SX prog w h' a L ks o es ep t := x.to (k _ x.at_)
theorem SIt.keep {h h' : Heap} {I : Addr} {f : Value} {i : Nat} {a : Addr} {n ep : Nat} (x : SIt h I f i a n ep) (k : ∀ o, h.get? I = some o → h'.get? I = some o) : SIt h' I f i a n ep := let ⟨o, g, c, d⟩ := x; ⟨o, k _ g, c, d⟩
theorem walk_text {a I : Addr} (hne : a ≠ I) {L : Bool} {ks : List Str} {o : Obj} {es : Array (Int × Value)} {ep : Nat} {t : SetTable} (hB : w.params.followText "set-order" = true) (hh : A.handled = none) :
    Walks prog w A I [I, a] [I] ((pickOrder (w.params.setOrder a ep) es).toList.map keyE).length (fun i v => ∃ tk, v = .str (((pickOrder (w.params.setOrder a ep) es).toList.map keyE).getD i ⟨#[]⟩) tk)
      (fun i h => SIt h I (.int (0 : Nat) 0) i a es.size ep ∧ SX prog w h a L ks o es ep t) where
  sub := fun b hb => by simp at hb; simp [hb]
  frame := fun _ _ _ st hk => ⟨st.1.keep fun o e => hk I (by simp) o e, st.2.keep fun o e => hk a (by simp) o e⟩
  item := fun i s Q E hi st hQ => by
    rw [List.length_map] at hi
    have hg : (pickOrder (w.params.setOrder a ep) es).toList[i]? = some ((pickOrder (w.params.setOrder a ep) es).toList[i]) := List.getElem?_eq_getElem hi
    have hm := (pick_perm (w.params.setOrder a ep) es).mem_iff.mp (List.getElem_mem hi)
    generalize (pickOrder (w.params.setOrder a ep) es).toList[i] = e at hg hm
    obtain ⟨tk, ek⟩ := st.2.str hm
    refine sit_int (v := e.2) (nx := 0) st.1 st.2 rfl (fun A' E' Q' q => next_text hB st.2 ?_) fun h' x' k => hQ e.2 h' s.toks ⟨tk, ?_⟩ ⟨x', st.2.keep fun o g => (k.2 a hne).trans g⟩ fun b o hb g => (k.2 b (by simpa using hb)).trans g
    · rw [← Array.getElem?_toList, hg]
      exact q
    · rw [ek, List.getD_eq_getElem?_getD, List.getElem?_map, hg]
      rfl
  done := fun s Q E st hQ => by
    refine sit_intE hh st.1 st.2 rfl (fun A' E' Q' q => next_text hB st.2 ?_) fun h' k => hQ h' s.toks fun b o hb g => k b o (by simpa using hb) g
    rw [← Array.getElem?_toList, List.length_map, List.getElem?_eq_none (Nat.le_refl _)]
    exact q
  self := fun _ _ _ _ st hQ => sit_self st.1 hQ
theorem walk_drawn {a I tp : Addr} (hne : a ≠ I) (hnt : tp ≠ I) {L : Bool} {ks : List Str} {o ot : Obj} {es : Array (Int × Value)} {ep c : Nat} {t : SetTable} {ps : List Nat} (hp : ps.Perm (List.range es.size)) (hd : ot.data = .seq (ps.map fun (i : Nat) => rawInt i).toArray c) (hh : A.handled = none) :
    Walks prog w A I [I, a, tp] [I] (ps.map fun p => keyE (es.toList.getD p (0, .none))).length (fun i v => ∃ tk, v = .str ((ps.map fun p => keyE (es.toList.getD p (0, .none))).getD i ⟨#[]⟩) tk)
      (fun i h => SIt h I (.ref tp) i a es.size ep ∧ SX prog w h a L ks o es ep t ∧ h.get? tp = some ot) where
  sub := fun b hb => by simp at hb; simp [hb]
  frame := fun _ _ _ st hk => ⟨st.1.keep fun o e => hk I (by simp) o e, st.2.1.keep fun o e => hk a (by simp) o e, hk tp (by simp) _ st.2.2⟩
  item := fun i s Q E hi st hQ => by
    rw [List.length_map] at hi
    have hg : ps[i]? = some ps[i] := List.getElem?_eq_getElem hi
    have hm := List.mem_range.mp (hp.mem_iff.mp (List.getElem_mem hi))
    generalize ps[i] = pl at hg hm
    have hm' : pl < es.toList.length := by simpa using hm
    have he : es.toList[pl]? = some es.toList[pl] := List.getElem?_eq_getElem hm'
    have hmem := List.getElem_mem hm'
    generalize es.toList[pl] = e at he hmem
    obtain ⟨tk, ek⟩ := st.2.1.str hmem
    refine sit_ref (pl := pl) (hv := e.1) (v := e.2) st.1 st.2.1 rfl st.2.2 hd (by simp [hg]) (by rw [← Array.getElem?_toList, he]) fun h' x' k => hQ e.2 h' s.toks ⟨tk, ?_⟩ ⟨x', st.2.1.keep fun o g => (k.2 a hne).trans g, (k.2 tp hnt).trans st.2.2⟩ fun b o hb g => (k.2 b (by simpa using hb)).trans g
    rw [ek, List.getD_eq_getElem?_getD, List.getElem?_map, hg]
    show Value.str (keyE e) tk = .str (keyE (es.toList.getD pl (0, .none))) tk
    rw [List.getD_eq_getElem?_getD, he]
    rfl
  done := fun s Q E st hQ => by
    refine sit_refE hh st.1 st.2.1 rfl st.2.2 hd ?_ fun h' k => hQ h' s.toks fun b o hb g => k b o (by simpa using hb) g
    simp
  self := fun _ _ _ _ st hQ => sit_self st.1 hQ
def slotAt (t : SetTable) (i : Nat) : Nat := if i = 0 then 0 else t.place.getD 0 0 + 1
theorem walk_slot {a I : Addr} (hne : a ≠ I) {ks : List Str} {o : Obj} {es : Array (Int × Value)} {ep : Nat} {t : SetTable} (hB : w.params.followText "set-order" = false) (h1 : es.size ≤ 1) (hf : t.fits es.size = true) (hh : A.handled = none) :
    Walks prog w A I [I, a] [I] (es.toList.map keyE).length (fun i v => ∃ tk, v = .str ((es.toList.map keyE).getD i ⟨#[]⟩) tk)
      (fun i h => SIt h I (.int (slotAt t i : Nat) 0) i a es.size ep ∧ SX prog w h a true ks o es ep t) where
  sub := fun b hb => by simp at hb; simp [hb]
  frame := fun _ _ _ st hk => ⟨st.1.keep fun o e => hk I (by simp) o e, st.2.keep fun o e => hk a (by simp) o e⟩
  item := fun i s Q E hi st hQ => by
    rw [List.length_map, Array.length_toList] at hi
    have hi0 : i = 0 := by omega
    subst hi0
    have hz : es.size = 1 := by omega
    have hps : t.place.size = 1 := by
      simp only [SetTable.fits, Bool.and_eq_true, beq_iff_eq] at hf
      omega
    obtain ⟨e, he⟩ : ∃ e, es = #[e] := Array.size_eq_one_iff.mp hz
    obtain ⟨j, hj⟩ : ∃ j, t.place = #[j] := Array.size_eq_one_iff.mp hps
    obtain ⟨tk, ek⟩ := st.2.str (e := e) (by rw [he]; simp)
    have hb0 : SetTable.below t.place 0 = 0 := by rw [hj]; simp [SetTable.below, SetTable.below.go]
    refine sit_int (v := e.2) (nx := j + 1) st.1 st.2 rfl (fun A' E' Q' q => next_slot hB st.2 h1 ?_) fun h' x' k => hQ e.2 h' s.toks ⟨tk, ?_⟩ ⟨?_, st.2.keep fun o g => (k.2 a hne).trans g⟩ fun b o hb g => (k.2 b (by simpa using hb)).trans g
    · show Q' (match es[SetTable.below t.place 0]?, t.place[SetTable.below t.place 0]? with | some (_, x), some j => some (x, j + 1) | _, _ => none) s
      rw [hb0, he, hj]
      exact q
    · rw [ek, he]
      rfl
    · have : slotAt t 1 = j + 1 := by unfold slotAt; rw [hj]; rfl
      rw [this]
      exact x'
  done := fun s Q E st hQ => by
    rw [List.length_map, Array.length_toList] at st
    refine sit_intE hh st.1 st.2 rfl (fun A' E' Q' q => next_slot hB st.2 h1 ?_) fun h' k => hQ h' s.toks fun b o hb g => k b o (by simpa using hb) g
    have hps : t.place.size = es.size := by
      simp only [SetTable.fits, Bool.and_eq_true, beq_iff_eq] at hf
      exact hf.1
    have hx : es.size ≤ SetTable.below t.place (slotAt t es.size) := by
      by_cases hz : es.size = 0
      · omega
      · have hz1 : es.size = 1 := by omega
        obtain ⟨j, hj⟩ : ∃ j, t.place = #[j] := Array.size_eq_one_iff.mp (hps.trans hz1)
        rw [hz1]
        unfold slotAt
        rw [hj]
        simp [SetTable.below, SetTable.below.go]
    rw [Array.getElem?_eq_none hx]
    exact q
  self := fun _ _ _ _ st hQ => sit_self st.1 hQ
theorem iter_set {a : Addr} {ks : List Str} {o : Obj} {es : Array (Int × Value)} {ep : Nat} {t : SetTable} {Q : Value → Shared → Prop} (x : SX prog w s.heap a (!w.params.followText "set-order") ks o es ep t) (hlt : a < s.heap.objs.size)
    (hQ : ∀ (I : Addr) (h' : Heap) (dr : Drawn) (fp : List Addr) (ord : List Str) (St : Nat → Heap → Prop), (∀ b o, s.heap.get? b = some o → h'.get? b = some o) → s.heap.objs.size ≤ I → I < h'.objs.size → ord.Perm ks →
      (∀ A' : Around, A'.handled = none → Walks prog w A' I fp [I] ord.length (fun i v => ∃ tk, v = .str (ord.getD i ⟨#[]⟩) tk) St) → (∀ b ∈ fp, b = a ∨ s.heap.objs.size ≤ b ∧ b < h'.objs.size) → St 0 h' → Q (.ref I) { s with heap := h', drawn := dr }) :
    wpAny (model prog w) A (pyIter (.ref a)) Q E s := by
  have hT : s.TypeIs (.ref a) "set" := ⟨o, x.at_, x.ex.1⟩
  refine wpAny_pyIter_slot hT PySem.F.slot_set_iter (wpAny_call_entry PySem.F.slot_set_iter hT set_iter_entry ?_ (PySem.F.args_set_iter_1 _))
  unfold Builtin.«frozenset.__iter__» Builtin.Frozenset.slot0 Builtin.Frozenset.sizeOf
  refine wpAny_bind (wpAny_bind (wpAny_pure (wpAny_pure ?_)))
  refine wpAny_bind (wpAny_bind (wpAny_setEntries_of x.at_ x.dt x.fits (wpAny_pure ?_)))
  unfold setDrawn setsByText
  refine wpAny_bind (wpAny_bind (wpAny_setState_of x.at_ x.dt x.fits ?_))
  dsimp only
  refine wpAny_bind (wpAny_bind (wpAny_askSetting (wpAny_pure (wpAny_pure ?_))))
  have mk : ∀ (f : Value) (s1 : Shared) (R : Shared → Prop), SX prog w s1.heap a (!w.params.followText "set-order") ks o es ep t → R { s1 with heap := s1.heap.push { cls := .type "set_iterator", data := .fields #[f, .int (0 : Nat) 0, .ref a, .int es.size 0, .int ep 0] } } →
      wpAny (model prog w) A.in1 (do
        let e ← setEpoch a
        let v ← newFields "set_iterator" [f, rawInt 0, .ref a, rawInt es.size, rawInt e]
        ret v) (fun fin s' => ∃ v, fin = Fin.done (Flow.ret v) ∧ v = .ref s1.heap.objs.size ∧ R s') E s1 := by
    intro f s1 R x1 hR
    refine wpAny_bind (wpAny_setEpoch_of x1.at_ x1.dt x1.fits ?_)
    unfold newFields
    exact wpAny_bind (wpAny_newObj_type (wpAny_pure ⟨_, rfl, rfl, hR⟩) (by size_fits))
  by_cases hB : w.params.followText "set-order" = true
  · refine wpAny_ite_split (fun q => ?_) (fun _ => ?_)
    · have q' : (!w.params.followText "set-order" && (!t.plain && decide (es.size > 1))) = true := q
      rw [hB] at q'
      cases q'
    refine wpAny_bind (wpAny_pure ?_)
    refine wpAny_mono (mk (rawInt 0) s (fun s' => ∃ T' r, s'.TypeIs (.ref s.heap.objs.size) T' ∧ typeLookup (.type T') (Str.ofString "__next__") = pure (some r) ∧ Q (.ref s.heap.objs.size) s') x ?_) (fun fin s' ⟨v, e1, e2, r⟩ => ⟨v, e1, by rw [e2]; exact r⟩) fun _ _ q => q
    have hI : (s.heap.push { cls := .type "set_iterator", data := .fields #[rawInt 0, .int (0 : Nat) 0, .ref a, .int es.size 0, .int ep 0] }).get? s.heap.objs.size = some { cls := .type "set_iterator", data := .fields #[rawInt 0, .int (0 : Nat) 0, .ref a, .int es.size 0, .int ep 0] } := Heap.get?_push_size _ rfl
    refine ⟨"set_iterator", _, ⟨_, hI, rfl⟩, sit_next.lookup, ?_⟩
    exact hQ _ _ s.drawn [s.heap.objs.size, a] _ _ (fun b o e => Heap.get?_push_of_some _ e) (Nat.le_refl _) (by rw [Heap.size_push]; exact Nat.lt_succ_self _) (((pick_perm (w.params.setOrder a ep) es).map keyE).trans x.key)
      (fun A' hh => walk_text (L := !w.params.followText "set-order") (ks := ks) (o := o) (t := t) (Nat.ne_of_lt hlt) hB hh) (fun b hb => by
        rcases List.mem_cons.mp hb with rfl | hb
        · exact .inr ⟨Nat.le_refl _, by rw [Heap.size_push]; exact Nat.lt_succ_self _⟩
        · exact .inl (List.mem_singleton.mp hb)) ⟨⟨_, hI, rfl, rfl⟩, x.keep fun o e => Heap.get?_push_of_some _ e⟩
  · have hB' : w.params.followText "set-order" = false := by simpa using hB
    refine wpAny_ite_split (fun q => ?_) (fun q => ?_)
    · refine wpAny_bind (draw_any es.size (List.range es.size) s (by simp) fun ps dr hp => ?_)
      have pl : ps.length = es.size := by rw [hp.length_eq, List.length_range]
      unfold newTuple
      refine wpAny_bind (wpAny_newObj_type ?_ (by
        show (ps.map fun (i : Nat) => rawInt i).toArray.size ≤ sizeLine
        rw [List.size_toArray, List.length_map, pl]
        exact fits_of_scanBound x.sz))
      have x1 : SX prog w (s.heap.push { cls := .type "tuple", data := .seq (ps.map fun (i : Nat) => rawInt i).toArray }) a (!w.params.followText "set-order") ks o es ep t := x.keep fun o e => Heap.get?_push_of_some _ e
      refine wpAny_mono (mk (.ref s.heap.objs.size) { s with drawn := dr, heap := s.heap.push { cls := .type "tuple", data := .seq (ps.map fun (i : Nat) => rawInt i).toArray } } (fun s' => ∃ T' r, s'.TypeIs (.ref (s.heap.push { cls := .type "tuple", data := .seq (ps.map fun (i : Nat) => rawInt i).toArray }).objs.size) T' ∧ typeLookup (.type T') (Str.ofString "__next__") = pure (some r) ∧ Q (.ref (s.heap.push { cls := .type "tuple", data := .seq (ps.map fun (i : Nat) => rawInt i).toArray }).objs.size) s') x1 ?_) (fun fin s' ⟨v, e1, e2, r⟩ => ⟨v, e1, by rw [e2]; exact r⟩) fun _ _ q => q
      have ht : (s.heap.push { cls := .type "tuple", data := .seq (ps.map fun (i : Nat) => rawInt i).toArray }).get? s.heap.objs.size = some { cls := .type "tuple", data := .seq (ps.map fun (i : Nat) => rawInt i).toArray } := Heap.get?_push_size _ rfl
      have hs1 : (s.heap.push { cls := .type "tuple", data := .seq (ps.map fun (i : Nat) => rawInt i).toArray }).objs.size = s.heap.objs.size + 1 := Heap.size_push ..
      have kk : ∀ b o, s.heap.get? b = some o → (s.heap.push { cls := .type "tuple", data := .seq (ps.map fun (i : Nat) => rawInt i).toArray }).get? b = some o := fun b o e => Heap.get?_push_of_some _ e
      generalize s.heap.push { cls := .type "tuple", data := .seq (ps.map fun (i : Nat) => rawInt i).toArray } = h1 at x1 ht hs1 kk
      have hI : (h1.push { cls := .type "set_iterator", data := .fields #[.ref s.heap.objs.size, .int (0 : Nat) 0, .ref a, .int es.size 0, .int ep 0] }).get? h1.objs.size = some { cls := .type "set_iterator", data := .fields #[.ref s.heap.objs.size, .int (0 : Nat) 0, .ref a, .int es.size 0, .int ep 0] } := Heap.get?_push_size _ rfl
      have hs2 : (h1.push { cls := .type "set_iterator", data := .fields #[.ref s.heap.objs.size, .int (0 : Nat) 0, .ref a, .int es.size 0, .int ep 0] }).objs.size = h1.objs.size + 1 := Heap.size_push ..
      refine ⟨"set_iterator", _, ⟨_, hI, rfl⟩, sit_next.lookup, ?_⟩
      have hne : a ≠ h1.objs.size := by rw [hs1]; exact Nat.ne_of_lt (Nat.lt_succ_of_lt hlt)
      have hnt : s.heap.objs.size ≠ h1.objs.size := by rw [hs1]; exact Nat.ne_of_lt (Nat.lt_succ_self _)
      refine hQ _ _ dr [h1.objs.size, a, s.heap.objs.size] _ _ (fun b o e => Heap.get?_push_of_some _ (kk b o e)) (by rw [hs1]; exact Nat.le_succ _) (by rw [hs2]; exact Nat.lt_succ_self _) ?_
        (fun A' hh => walk_drawn (L := !w.params.followText "set-order") (ks := ks) (o := o) (t := t) (ep := ep) hne hnt hp rfl hh) (fun b hb => ?_) ⟨⟨_, hI, rfl, rfl⟩, x1.keep fun o e => Heap.get?_push_of_some _ e, Heap.get?_push_of_some _ ht⟩
      · refine List.Perm.trans ?_ x.key
        have e2 : es.toList.map keyE = (List.range es.size).map fun p => keyE (es.toList.getD p (0, .none)) := by
          refine List.ext_getElem? fun j => ?_
          rw [List.getElem?_map, List.getElem?_map]
          by_cases hj : j < es.size
          · have hj' : j < es.toList.length := by simpa using hj
            rw [List.getElem?_range hj, List.getElem?_eq_getElem hj']
            show some (keyE es.toList[j]) = some (keyE (es.toList.getD j (0, .none)))
            rw [List.getD_eq_getElem?_getD, List.getElem?_eq_getElem hj']
            rfl
          · rw [List.getElem?_eq_none (by simpa using hj), List.getElem?_eq_none (by simpa using hj)]
            rfl
        rw [e2]
        exact hp.map _
      · rcases List.mem_cons.mp hb with rfl | hb
        · exact .inr ⟨by rw [hs1]; exact Nat.le_succ _, by rw [hs2]; exact Nat.lt_succ_self _⟩
        · rcases List.mem_cons.mp hb with rfl | hb
          · exact .inl rfl
          · rw [List.mem_singleton.mp hb]
            exact .inr ⟨Nat.le_refl _, by rw [hs2, hs1]; exact Nat.lt_succ_of_lt (Nat.lt_succ_self _)⟩
    · have q' : ¬ (!w.params.followText "set-order" && (!t.plain && decide (es.size > 1))) = true := q
      have h1 : es.size ≤ 1 := by
        rw [hB'] at q'
        rcases x.pl with h | h
        · omega
        · rw [h] at q'
          simp at q'
          exact q'
      refine wpAny_bind (wpAny_pure ?_)
      have xt : SX prog w s.heap a true ks o es ep t := by have := x; rw [hB'] at this; exact this
      refine wpAny_mono (mk (rawInt 0) s (fun s' => ∃ T' r, s'.TypeIs (.ref s.heap.objs.size) T' ∧ typeLookup (.type T') (Str.ofString "__next__") = pure (some r) ∧ Q (.ref s.heap.objs.size) s') x ?_) (fun fin s' ⟨v, e1, e2, r⟩ => ⟨v, e1, by rw [e2]; exact r⟩) fun _ _ q => q
      have hI : (s.heap.push { cls := .type "set_iterator", data := .fields #[rawInt 0, .int (0 : Nat) 0, .ref a, .int es.size 0, .int ep 0] }).get? s.heap.objs.size = some { cls := .type "set_iterator", data := .fields #[rawInt 0, .int (0 : Nat) 0, .ref a, .int es.size 0, .int ep 0] } := Heap.get?_push_size _ rfl
      refine ⟨"set_iterator", _, ⟨_, hI, rfl⟩, sit_next.lookup, ?_⟩
      exact hQ _ _ s.drawn [s.heap.objs.size, a] _ _ (fun b o e => Heap.get?_push_of_some _ e) (Nat.le_refl _) (by rw [Heap.size_push]; exact Nat.lt_succ_self _) x.key
        (fun A' hh => walk_slot (ks := ks) (o := o) (ep := ep) (Nat.ne_of_lt hlt) hB' h1 x.fits hh) (fun b hb => by
          rcases List.mem_cons.mp hb with rfl | hb
          · exact .inr ⟨Nat.le_refl _, by rw [Heap.size_push]; exact Nat.lt_succ_self _⟩
          · exact .inl (List.mem_singleton.mp hb)) ⟨⟨_, hI, rfl, rfl⟩, xt.keep fun o e => Heap.get?_push_of_some _ e⟩
end
end L2
set_option Elab.async false
set_option linter.all false
set_option maxRecDepth 100000
set_option maxHeartbeats 4000000
namespace L2
open PySem PySem.Spec PyProof.Rows
section
variable {prog : Program} {w : World} {A : Around} {E : Value → Shared → Prop} {s : Shared}
theorem hint_set {r : Addr} {Q : Bool → Shared → Prop} (hT : s.TypeIs (.ref r) "set") (h : Q false s) : wpAny (model prog w) A (Builtin.List.listLengthHint (.ref r)) Q E s := by
  unfold Builtin.List.listLengthHint
  refine wpAny_bind (wpAny_specialOf hT PySem.F.slot_set_len.lookup ?_)
  generalize hid : ("set.__len__" : String) = id0
  wp_delta
  rw [show splitId id0 = some ("set", "__len__") from by subst hid; decide +kernel]
  subst hid
  refine wpAny_bind (wpAny_isInstance (T := "set") (b := true) hT (by rw [isSubtype_type]; kernel_rfl) (wpAny_ite_split (fun q => absurd q (by decide)) (fun _ => ?_)))
  refine wpAny_ite_split (fun _ => wpAny_bind (wpAny_typeOf hT ?_)) (fun q => absurd (by decide +kernel) q)
  exact wpAny_pure h
theorem row_of_set {a S : Addr} {ks : List Str} {o : Obj} {es : Array (Int × Value)} {ep : Nat} {t : SetTable} {R : Result → Shared → Prop} (x : SX prog w s.heap a (!w.params.followText "set-order") ks o es ep t) (hh : A.handled = none) (hSa : S ≠ a) (hS : s.heap.get? S = some { cls := .type "list", data := .seq #[] })
    (hR : ∀ (h' : Heap) (tk : Nat) (dr : Drawn) (acc : Array Value) (c : Nat) (ord : List Str), (∀ b o, b ≠ S → s.heap.get? b = some o → h'.get? b = some o) → h'.get? S = some { cls := .type "list", dict := none, data := .seq acc c, slots := #[] } → ord.Perm ks →
      ItemsOf (fun i v => ∃ tk, v = .str (ord.getD i ⟨#[]⟩) tk) acc ord.length → R (.ok (.ret (.ref S))) { s with heap := h', toks := tk, drawn := dr }) :
    wpAny (model prog w) A.in1 (Builtin.List.listExtendWith (.ref S) (.ref a) (.ref S))
      (fun fin s' => match fin with | .done f => R (.ok f) s' | .again c' => c'.quiet = true ∧ codeAny (model prog w) A c' R s') (fun e s' => R (.error e) s') s := by
  have hT : s.TypeIs (.ref a) "set" := ⟨o, x.at_, x.ex.1⟩
  have hlt : a < s.heap.objs.size := Heap.lt_size x.at_
  have hSl : S < s.heap.objs.size := Heap.lt_size hS
  have hks : ks.length ≤ sizeLine := by rw [← x.len]; exact fits_of_scanBound x.sz
  unfold Builtin.List.listExtendWith
  refine wpAny_bind (wpAny_typeOf (T := "set") hT ?_)
  have e1 : Builtin.List.listSameRef (.ref S) (.ref a) = false := by simp [Builtin.List.listSameRef, hSa]
  simp only [e1, show (Value.type "set" == Value.type "list") = false by decide, show (Value.type "set" == Value.type "tuple") = false by decide, Bool.or_false, Bool.false_eq_true, if_false]
  refine wpAny_bind (iter_set x hlt fun I h1 dr fp ord St k1 hI hI2 hp W hfp st => ?_)
  have x1 := x.keep fun o e => k1 a o e
  have hT1 : ({ s with heap := h1, drawn := dr } : Shared).TypeIs (.ref a) "set" := ⟨o, x1.at_, x.ex.1⟩
  have hS1 := k1 S _ hS
  have hSf : S ∉ fp := fun q => by
    rcases hfp S q with q | q
    · exact hSa q
    · exact absurd hSl (Nat.not_lt.mpr q.1)
  have key : ∀ (h : Heap) (c1 tk : Nat), St 0 h → (∀ b o, b ≠ S → h1.get? b = some o → h.get? b = some o) → h.get? S = some { cls := .type "list", data := .seq #[] c1 } →
      codeAny (model prog w) A (.builtin "list.extend.loop" ⟨[.ref S, .ref I, .ref S], []⟩) R { s with heap := h, toks := tk, drawn := dr } := by
    intro h c1 tk st' kk hS'
    refine codeAny_extend_loopS (W A.in1 hh).toS (by rw [hp.length_eq]; exact hks) S hSf (.ref S) ord.length 0 _ #[] c1 rfl (Nat.zero_le _) st' hS' (ItemsOf.nil _) fun s' acc c' hm hS2 hacc => ?_
    rw [Moved.eq_with hm]
    refine hR s'.heap s'.toks dr acc c' ord (fun b o hb e => hm.heap b o (fun q => ?_) (kk b o hb (k1 b o e))) hS2 hp hacc
    rcases List.mem_cons.mp q with q | q
    · exact hb q
    · exact absurd (Heap.lt_size e) (Nat.not_lt.mpr (by rw [List.mem_singleton.mp q]; exact hI))
  refine wpAny_bind (wpAny_holding (hint_set hT1 ?_))
  refine wpAny_ite_split (fun _ => ?_) (fun _ => wpAny_pure ⟨plainId_quiet PySem.F.plain_extend_loop _, key _ 0 _ st (fun b o _ e => e) hS1⟩)
  refine wpAny_bind (wpAny_rule (wpAny_bind (show wpAny _ _ (updateSeq S (·.push .none) >>= fun _ => updateSeq S (·.pop)) _ _ _ from ?_)))
  refine wpAny_bind (wpAny_updateSeq hS1 rfl ?_)
  have hS2 := Heap.get?_update_self (Obj.mapSeq (·.push Value.none)) hS1 rfl
  refine wpAny_updateSeq (hz := by seq_fits) hS2 rfl ?_
  have hS3 := Heap.get?_update_self (Obj.mapSeq (·.pop)) hS2 rfl
  have oth : ∀ b o, b ≠ S → h1.get? b = some o → ((h1.update S (Obj.mapSeq (·.push Value.none))).update S (Obj.mapSeq (·.pop))).get? b = some o := fun b o hb e => (Heap.get?_update_other _ _ (Ne.symm hb)).trans ((Heap.get?_update_other _ _ (Ne.symm hb)).trans e)
  exact wpAny_pure ⟨plainId_quiet PySem.F.plain_extend_loop _, key _ _ _ ((W A.in1 hh).frame 0 _ _ st fun b hb o e => oth b o (fun q => hSf (q ▸ hb)) e) oth hS3⟩
theorem collect_set {a : Addr} {ks : List Str} {o : Obj} {es : Array (Int × Value)} {ep : Nat} {t : SetTable} {R : List Value → Shared → Prop} (x : SX prog w s.heap a (!w.params.followText "set-order") ks o es ep t) (hh : A.handled = none)
    (h : ∀ (h' : Heap) (tk : Nat) (dr : Drawn) (vs : List Value) (ord : List Str), (∀ b o, s.heap.get? b = some o → h'.get? b = some o) → s.heap.objs.size ≤ h'.objs.size → ord.Perm ks → StrsAre vs ord → R vs { s with heap := h', toks := tk, drawn := dr }) :
    wpAny (model prog w) A (collect (.ref a)) R E s := by
  have hlt : a < s.heap.objs.size := Heap.lt_size x.at_
  have areS : ∀ (ord : List Str) (vs : List Value), vs.length = ord.length → (∀ (j : Nat) (v : Value), vs[j]? = some v → ∃ tk, v = .str (ord.getD j ⟨#[]⟩) tk) → StrsAre vs ord := by
    intro ord
    induction ord with
    | nil => intro vs hl _; rw [List.length_eq_zero_iff.mp hl]; exact .nil
    | cons k ord ih =>
      intro vs hl hv
      cases vs with
      | nil => cases hl
      | cons v vs =>
        obtain ⟨tk, rfl⟩ := hv 0 v rfl
        exact .cons _ _ (ih vs (by simpa using hl) fun j u hu => hv (j + 1) u hu)
  unfold collect
  refine wpAny_bind (wpAny_runValue (codeAny_builtin entry_proto_collect' ?_))
  rw [Around.under_plainId PySem.F.plain_proto_collect _]
  refine show wpAny _ A.in1 (newList [] >>= fun l => again (.builtin "list.__iadd__" ⟨[l, .ref a], []⟩)) _ _ s from ?_
  refine wpAny_bind (wpAny_newObj_type (wpAny_pure ⟨plainId_quiet PySem.F.plain_list_iadd _, codeAny_builtin entry_list_iadd' ?_⟩))
  rw [Around.under_plainId PySem.F.plain_list_iadd _]
  have hS : (s.heap.push { cls := .type "list", data := .seq ([] : List Value).toArray }).get? s.heap.objs.size = some { cls := .type "list", data := .seq #[] } := Heap.get?_push_size _ rfl
  refine show wpAny _ A.in1 (Builtin.List.listExtendWith (.ref s.heap.objs.size) (.ref a) (.ref s.heap.objs.size)) _ _ _ from ?_
  have key := row_of_set (A := A) (s := { s with heap := s.heap.push { cls := .type "list", data := .seq ([] : List Value).toArray } }) (S := s.heap.objs.size)
    (R := fun (q : Result) (s' : Shared) => ∃ (h' : Heap) (tk : Nat) (dr : Drawn) (acc : Array Value) (c : Nat) (ord : List Str), q = .ok (.ret (.ref s.heap.objs.size)) ∧ s' = { s with heap := h', toks := tk, drawn := dr } ∧
      (∀ b o, s.heap.get? b = some o → h'.get? b = some o) ∧ h'.get? s.heap.objs.size = some { cls := .type "list", dict := none, data := .seq acc c, slots := #[] } ∧ ord.Perm ks ∧ StrsAre acc.toList ord)
    (x.keep fun o e => Heap.get?_push_of_some _ e) hh (Nat.ne_of_gt hlt) hS
    (fun h' tk dr acc c ord hk hS' hp hacc => ⟨h', tk, dr, acc, c, ord, rfl, rfl, fun b o e => hk b o (Nat.ne_of_lt (Heap.lt_size e)) (Heap.get?_push_of_some _ e), hS', hp, areS ord acc.toList (by rw [Array.length_toList]; exact hacc.1) fun j v hv => hacc.2 j v (by rw [← Array.getElem?_toList]; exact hv)⟩)
  refine wpAny_mono key (fun fin s' y => ?_) fun e s' y => ?_
  · cases fin with
    | done f =>
      obtain ⟨h', tk, dr, acc, c, ord, e, rfl, hk, hS', hp, hst⟩ := y
      cases e
      exact wpAny_bind (wpAny_load hS' (wpAny_pure (h h' tk dr _ ord hk (Nat.le_of_lt (Heap.lt_size hS')) hp hst)))
    | again c1 =>
      refine ⟨y.1, codeAny_mono y.2 fun q s2 y2 => ?_⟩
      obtain ⟨h', tk, dr, acc, c, ord, rfl, rfl, hk, hS', hp, hst⟩ := y2
      exact wpAny_bind (wpAny_load hS' (wpAny_pure (h h' tk dr _ ord hk (Nat.le_of_lt (Heap.lt_size hS')) hp hst)))
  · obtain ⟨_, _, _, _, _, _, q, _⟩ := y
    cases q
theorem sorted_set {a : Addr} {ks : List Str} {o : Obj} {es : Array (Int × Value)} {ep : Nat} {t : SetTable} {Q : Value → Shared → Prop} (x : SX prog w s.heap a (!w.params.followText "set-order") ks o es ep t) (hh : A.handled = none) (h64 : ks.length < 64)
    (h : ∀ (D : Addr) (h' : Heap) (tk : Nat) (dr : Drawn) (vs : List Value) (ss : List Str) (c : Nat), (∀ b o, s.heap.get? b = some o → h'.get? b = some o) → s.heap.objs.size ≤ D → h'.get? D = some (seqObj "list" vs.toArray c) → StrsAre vs ss → ss.Perm ks → sortedS ss = true →
      Q (.ref D) { s with heap := h', toks := tk, drawn := dr }) :
    wpAny (model prog w) A (call (.builtin "sorted") [.ref a]) Q E s := by
  refine Calls.call_function_entry kind_sorted plain_sorted entry_sorted (args_sorted1 _) ?_
  unfold Builtin.«sorted»
  refine wpAny_bind (m := checkCount "sorted" 1 1 _) (wpAny_pure ?_)
  refine wpAny_bind (collect_set (A := A.in1) x hh fun h1 tk dr vs ord k1 z1 hp hst => ?_)
  have hl : vs.length = ord.length := hst.length
  have ho : ord.length < 64 := by rw [hp.length_eq]; exact h64
  refine wpAny_bind (wpAny_newList ?_ (by rw [hl]; have := sizeLine_eq; omega))
  have hD : (h1.push (seqObj "list" vs.toArray 0)).get? h1.objs.size = some (seqObj "list" vs.toArray 0) := Heap.get?_push_size _ rfl
  refine wpAny_bind (wpAny_holding (wpAny_call_entry slot_list_sort ⟨_, hD, rfl⟩ entry_list_sort (list_sort_treeK strKind_oneLt hD hst.keysOf (fun v1 v2 rest e => keyKind_strs (by rw [← e]; exact hst)) (by omega) fun st' a1 a2 => ⟨_, rfl, ?_⟩) (args_list_sort _)))
  obtain ⟨ss, q1, q2, q3⟩ := sorted_out_str hst a1 a2
  obtain ⟨c, hc⟩ := sortedHeap_at (out := (arrOf st').map (·.2)) hD
  have hlt1 : ∀ b o, s.heap.get? b = some o → b < h1.objs.size := fun b o e => Heap.lt_size (k1 b o e)
  refine wpAny_pure ⟨_, rfl, h h1.objs.size _ tk dr _ ss c (fun b o e => ?_) z1 (by rw [Array.toArray_toList]; exact hc) q1 (q2.trans hp) q3⟩
  rw [sortedHeap_old (Nat.ne_of_lt (hlt1 b o e)) (by rw [Heap.size_push]; exact Nat.lt_succ_of_lt (hlt1 b o e))]
  exact Heap.get?_push_of_some _ (k1 b o e)
end
end L2
set_option Elab.async false
set_option linter.all false
set_option maxRecDepth 100000
set_option maxHeartbeats 4000000
namespace L2
open PySem PySem.Spec PyProof.Rows
theorem sub_tuple_set : isSubtype (.type "tuple") (.type "set") = pure false := by rw [isSubtype_type]; kernel_rfl
theorem sub_tuple_fs : isSubtype (.type "tuple") (.type "frozenset") = pure false := by rw [isSubtype_type]; kernel_rfl
section
variable {X : Cx} {pins : List (Addr × Obj)} {σ : L2.St} {H : Hp} {s : Shared}
theorem Inv.dr (I : Inv X pins σ H s) (dr : Drawn) : Inv X pins σ H { s with drawn := dr } := ⟨I.ok, I.os, I.bare, I.base, I.loc, I.cell, I.free, I.freeC, I.pin, I.hok, I.len⟩
theorem str_at : ∀ {its : List Value} {ss : List Str}, StrsAre its ss → ∀ (i : Nat) (v : Value), its[i]? = some v → ∃ t, v = .str (ss.getD i ⟨#[]⟩) t
  | _, _, .nil, i, v, h => by simp at h
  | _, _, .cons x t r, 0, v, h => by simp at h; exact ⟨t, h.symm⟩
  | _, _, .cons x t r, i + 1, v, h => str_at r i v (by simpa using h)
def rSortedSet : List V → Hp → VK → Prop := fun vs H Q => match vs with
  | [.ref l] => ∃ ss : List Str, seqOf (H l) = some (ss.map V.str) ∧ ss.length < 64 ∧ ∀ (p : Addr) (ss' : List Str), H p = none → sortedS ss' = true → ss'.Nodup → (∀ x, x ∈ ss' ↔ x ∈ ss) → Q (.ref p) (upd H p (.lst (ss'.map V.str)))
  | _ => False
theorem rSortedSet_ref (l : Addr) (H : Hp) (Q : VK) : rSortedSet [.ref l] H Q = (∃ ss : List Str, seqOf (H l) = some (ss.map V.str) ∧ ss.length < 64 ∧ ∀ (p : Addr) (ss' : List Str), H p = none → sortedS ss' = true → ss'.Nodup → (∀ x, x ∈ ss' ↔ x ∈ ss) → Q (.ref p) (upd H p (.lst (ss'.map V.str)))) := rfl
def tSortedSet (ta : TE) : TE := tCB rSortedSet (tCons ta tNil)
theorem fm_mem (ss : List Str) (x : Str) : x ∈ fmS (fun i => ss.getD i ⟨#[]⟩) ss.length ↔ x ∈ ss := by
  rw [fmS_mem]
  constructor
  · rintro ⟨j, hj, e⟩
    rw [List.getD_eq_getElem?_getD, List.getElem?_eq_getElem hj] at e
    exact e ▸ List.getElem_mem hj
  · intro h
    obtain ⟨j, hj, e⟩ := List.getElem_of_mem h
    exact ⟨j, hj, by rw [List.getD_eq_getElem?_getD, List.getElem?_eq_getElem hj]; exact e⟩
theorem set_of {l : Addr} {ss : List Str} {Q : Value → Shared → Prop} (I : Inv X pins σ H s) (hh : X.A.handled = none) (e : seqOf (H l) = some (ss.map V.str)) (hl : ss.length < 64)
    (h : ∀ (h' : Heap) (tk : Nat), SXO X.prog X.w h' s.heap.objs.size (!X.w.params.followText "set-order") (fmS (fun i => ss.getD i ⟨#[]⟩) ss.length) → (∀ b o, b < s.heap.objs.size → s.heap.get? b = some o → h'.get? b = some o) → Q (.ref s.heap.objs.size) { s with heap := h', toks := tk }) :
    wpAny (model X.prog X.w) X.A (call (.type "set") [.ref l]) Q X.xe s := by
  cases eo : H l with
  | none => rw [eo] at e; cases e
  | some ob =>
    rw [eo] at e
    cases ob with
    | lst xs =>
      have ex : xs = ss.map V.str := by simpa [seqOf] using e
      subst ex
      obtain ⟨its, rr, pl, hz⟩ := I.list (SqL.of eo)
      have hli := rr.length
      rw [List.length_map] at hli
      have hst := strsAre_of rr
      obtain ⟨ol, g1, g2, n, g3⟩ := pl.isList
      have hsz : its.toArray.size = ss.length := by rw [List.size_toArray]; exact hli.symm
      refine call_setX (T := "list") (IT := "list_iterator") (items := its.toArray) (ss := ss) (St := fun J i h => h.IsListIter J l i ∧ h.IsList l its.toArray) hh g1 g2 PySem.F.sub_list_set PySem.F.sub_list_frozenset (by decide) (fun A' E' s' Q' e' q => wpAny_pyIter_list ⟨ol, e', g2, n, g3⟩ q)
        (fun A' J hA hne => Walks.list hA J l hne its.toArray) (fun J h e1 e2 => ⟨⟨_, e2, rfl, rfl⟩, ol, e1, g2, n, g3⟩) (fun i v hv => str_at hst i v (by simpa using hv)) (by rw [hsz]; unfold scanBound; omega) ?_
      rw [hsz]
      exact h
    | tup xs =>
      have ex : xs = ss.map V.str := by simpa [seqOf] using e
      subst ex
      obtain ⟨its, rr, pl, hz⟩ := I.tuple (SqT.of eo)
      have hli := rr.length
      rw [List.length_map] at hli
      have hst := strsAre_of rr
      obtain ⟨ol, g1, g2, n, g3⟩ := pl
      have hsz : its.toArray.size = ss.length := by rw [List.size_toArray]; exact hli.symm
      refine call_setX (T := "tuple") (IT := "tuple_iterator") (items := its.toArray) (ss := ss) (St := fun J i h => h.IsTupleIter J l i ∧ h.IsTuple l its.toArray) hh g1 g2 sub_tuple_set sub_tuple_fs (by decide) (fun A' E' s' Q' e' q => wpAny_pyIter_tuple ⟨ol, e', g2, n, g3⟩ q)
        (fun A' J hA hne => Walks.tuple hA J l hne its.toArray) (fun J h e1 e2 => ⟨⟨_, e2, rfl, rfl⟩, ol, e1, g2, n, g3⟩) (fun i v hv => str_at hst i v (by simpa using hv)) (by rw [hsz]; unfold scanBound; omega) ?_
      rw [hsz]
      exact h
    | _ => simp [seqOf] at e
theorem pe_sortedSet {a : Expr} {ta : TE} {p1 p2 q1 q2 : Pos} (hc : X.calm = true) (hg : Gl X "sorted") (hm : X.mg "sorted" = none) (hg2 : Gl X "set") (hm2 : X.mg "set" = none) (ha : PE X a ta)
    (hs : starEach [(.Call (.Name "set" p2) [a] [] q2)] X.env = [(false, eval (.Call (.Name "set" p2) [a] [] q2) X.env)] := by rfl) (hs2 : starEach [a] X.env = [(false, eval a X.env)] := by rfl) :
    PE X (.Call (.Name "sorted" p1) [.Call (.Name "set" p2) [a] [] q2] [] q1) (tSortedSet ta) := by
  intro pins s σ H Q I h
  refine wpAny_Call_Name_kw (ld_blt I hg hm bt_sorted (PyProof.Rows.callWith_builtin1 ?_ hs rfl))
  rw [hs]
  refine show wpAny _ _ (spliced ((false, eval (.Call (.Name "set" p2) [a] [] q2) X.env) :: [])) _ _ s from Calls.spliced_cons ?_
  have hA : PA X [a] (tCons ta tNil) := pa_cons ha pa_nil hs2
  refine wpAny_Call_Name_kw (ld_blt I hg2 hm2 bt_set (PyProof.Rows.callWith_type1 (thn (hA q2 pins s σ H (fun vs H1 => rSortedSet vs H1 Q) I h) fun us s1 ⟨vs, H1, I1, r1, q1⟩ => ?_) hs2 rfl))
  replace q1 : rSortedSet vs H1 Q := q1
  unfold rSortedSet at q1
  split at q1
  · rename_i l
    obtain ⟨ss, e, hl, q⟩ := q1
    obtain ⟨u, rfl, ru⟩ := vals1 r1
    cases ru
    have hh := I1.ok.hd hc
    refine set_of I1 hh e hl fun h' tk hS hk => Calls.spliced_nil ?_
    obtain ⟨o, es, ep, t, x⟩ := hS
    have fl := fmS_le (fun i => ss.getD i ⟨#[]⟩) ss.length
    have I2 : Inv X pins σ H1 { s1 with heap := h', toks := tk } := I1.kept fun b o e => hk b o (Heap.lt_size e) e
    refine sorted_set (s := { s1 with heap := h', toks := tk }) x hh (by omega) fun D h2 tk2 dr vs2 ss2 c k2 hD e2 st2 p2 srt => ?_
    have hsl : ss2.length < 64 := by rw [p2.length_eq]; omega
    have hvl : vs2.length = ss2.length := st2.length
    have hln : sizeLine = 16777216 := sizeLine_eq
    have I3 : Inv X pins σ (upd H1 D (.lst (ss2.map V.str))) { ({ s1 with heap := h', toks := tk } : Shared) with heap := h2, toks := tk2 } :=
      I2.laid (fun b o e => k2 b o e) hD ⟨by rw [List.length_map]; omega, vs2, c, vals_of_strs st2, e2⟩
    refine ⟨.ref D, _, I3.dr dr, rfl, q D ss2 (I2.hok.fresh hD) srt (p2.nodup_iff.mpr x.nd) fun y => ?_⟩
    rw [p2.mem_iff]
    exact fm_mem ss y
  · exact q1.elim
theorem qpe_sortedSet {a : Expr} {ta : TE} {p1 p2 q1 q2 : Pos} (hc : X.calm = true) (hg : Gl X "sorted") (hm : X.mg "sorted" = none) (hg2 : Gl X "set") (hm2 : X.mg "set" = none) (ha : QE X a ta)
    (hs : starEach [(.Call (.Name "set" p2) [a] [] q2)] X.env = [(false, eval (.Call (.Name "set" p2) [a] [] q2) X.env)] := by rfl) (hs2 : starEach [a] X.env = [(false, eval a X.env)] := by rfl) :
    QE X (.Call (.Name "sorted" p1) [.Call (.Name "set" p2) [a] [] q2] [] q1) (tSortedSet ta) := ⟨pe_sortedSet hc hg hm hg2 hm2 ha.h hs hs2⟩
end
def leS (a b : Str) : Prop := ¬ b.cps.toList < a.cps.toList
theorem leS_trans {a b c : Str} (h1 : leS a b) (h2 : leS b c) : leS a c := fun q => by
  have e1 : a.cps.toList ≤ b.cps.toList := List.not_lt.mp h1
  have e2 : b.cps.toList ≤ c.cps.toList := List.not_lt.mp h2
  exact (List.not_lt.mpr (List.le_trans e1 e2)) q
theorem leS_anti {a b : Str} (h1 : leS a b) (h2 : leS b a) : a = b := by
  have e : a.cps.toList = b.cps.toList := List.le_antisymm (List.not_lt.mp h1) (List.not_lt.mp h2)
  obtain ⟨x⟩ := a
  obtain ⟨y⟩ := b
  have : x = y := Array.toList_inj.mp e
  rw [this]
theorem rising_pw : ∀ (p : Str) (l : List Str), risingS p l = true → (p :: l).Pairwise leS
  | p, [], _ => by simp
  | p, x :: r, h => by
    simp only [risingS, Bool.and_eq_true, Bool.not_eq_true', ltCps_eq, decide_eq_false_iff_not] at h
    have ih := rising_pw x r h.2
    refine List.pairwise_cons.mpr ⟨fun y hy => ?_, ih⟩
    rcases List.mem_cons.mp hy with rfl | hy
    · exact h.1
    · exact leS_trans h.1 ((List.pairwise_cons.mp ih).1 y hy)
theorem sorted_pw : ∀ {l : List Str}, sortedS l = true → l.Pairwise leS
  | [], _ => .nil
  | p :: l, h => rising_pw p l h
theorem sorted_one : ∀ {l m : List Str}, sortedS l = true → sortedS m = true → l.Nodup → m.Nodup → (∀ x, x ∈ l ↔ x ∈ m) → l = m := by
  have gen : ∀ (l m : List Str), l.Pairwise leS → m.Pairwise leS → l.Nodup → m.Nodup → (∀ x, x ∈ l ↔ x ∈ m) → l = m := by
    intro l
    induction l with
    | nil =>
      intro m _ _ _ _ h
      cases m with
      | nil => rfl
      | cons y m => exact absurd ((h y).mpr (.head _)) (by simp)
    | cons a l ih =>
      intro m pl pm nl nm h
      cases m with
      | nil => exact absurd ((h a).mp (.head _)) (by simp)
      | cons b m =>
        obtain ⟨pa, pl'⟩ := List.pairwise_cons.mp pl
        obtain ⟨pb, pm'⟩ := List.pairwise_cons.mp pm
        obtain ⟨na, nl'⟩ := List.nodup_cons.mp nl
        obtain ⟨nb, nm'⟩ := List.nodup_cons.mp nm
        have hab : a = b := by
          rcases List.mem_cons.mp ((h a).mp (.head _)) with e | e
          · exact e
          · rcases List.mem_cons.mp ((h b).mpr (.head _)) with e' | e'
            · exact e'.symm
            · exact leS_anti (pa b e') (pb a e)
        subst hab
        rw [ih m pl' pm' nl' nm' fun x => ?_]
        constructor
        · intro hx
          rcases List.mem_cons.mp ((h x).mp (.tail _ hx)) with e | e
          · exact absurd (e ▸ hx) na
          · exact e
        · intro hx
          rcases List.mem_cons.mp ((h x).mpr (.tail _ hx)) with e | e
          · exact absurd (e ▸ hx) nb
          · exact e
  intro l m h1 h2
  exact gen l m (sorted_pw h1) (sorted_pw h2)
end L2
set_option Elab.async false
set_option linter.all false
set_option maxRecDepth 100000
set_option maxHeartbeats 4000000
namespace L2
open PySem PySem.Spec PyProof.Rows
def mxF (val : Nat → Int) (M : Int) (j : Nat) : Nat → Int
  | 0 => M
  | k + 1 => mxF val (if val j > M then val j else M) (j + 1) k
def maxL : Int → List Int → Int
  | M, [] => M
  | M, x :: l => maxL (if x > M then x else M) l
section
variable {prog : Program} {w : World} {A : Around} {E : Value → Shared → Prop} {R : Result → Shared → Prop} {I : Addr} {fp wr : List Addr} {n : Nat} {P : Nat → Value → Prop} {St : Nat → Heap → Prop} {s : Shared}
theorem tree_kw {id : String} {b : Builtin} {args : List Value} {kw : List (Str × Value)} {Q : Value → Shared → Prop} (hk : builtinKind id = none) (hp : plainId id = true) (hb : entryFor table id = some b) (ha : argsOk id ⟨args, kw⟩)
    (hc : wpAny (model prog w) A.in1 (b ⟨args, kw⟩) (fun fin s' => match fin with
      | .done f => (match (Except.ok f : Result) with | .ok (.ret v) => Q v s' | .ok _ => False | .error e => E e s')
      | .again c' => c'.quiet = true ∧ codeAny (model prog w) A c' (fun r s' => match r with | .ok (.ret v) => Q v s' | .ok _ => False | .error e => E e s') s') E s) : wpAny (model prog w) A (call (.builtin id) args kw) Q E s := by
  refine wpAny_call (codeAny_call_builtin hp hb ?_)
  simp only [checkBuiltinCall, hk]
  cases hsig : Manifest.signature? id with
  | none => exact wpAny_pure hc
  | some sig =>
    have ha' : Bind.checkArgs id sig ⟨args, kw⟩ = pure () := by simpa only [argsOk, hsig] using ha
    simp only [ha']
    exact wpAny_pure hc
theorem max_loopI {kw : List (Str × Value)} (W : Walks prog w A.in1 I fp wr n P St) (val : Nat → Int) (hval : ∀ i v, P i v → ∃ t, v = .int (val i) t) (S : Addr) (hSf : S ∉ fp) :
    ∀ (k j : Nat) (s : Shared) (M : Int) (tm : Tok) (c : Nat), n - j = k → j ≤ n → St j s.heap → s.heap.get? S = some { cls := .type "list", dict := none, data := .seq #[.int M tm, .int M tm] c, slots := #[] } →
      (∀ (h' : Heap) (tk : Nat) (t : Tok), (∀ b o, b ∉ S :: wr → s.heap.get? b = some o → h'.get? b = some o) → R (.ok (.ret (.int (mxF val M j k) t))) { s with heap := h', toks := tk }) →
      codeAny (model prog w) A (.builtin "max.loop" ⟨[.ref I, .none, .ref S], kw⟩) R s := by
  have hSw : S ∉ wr := fun h => hSf (W.sub _ h)
  have nm : (toString "max" ++ toString ".loop" : String) = "max.loop" := by decide
  have nS : ∀ {b : Addr}, b ∉ S :: wr → S ≠ b := fun hb e => hb (e ▸ List.mem_cons_self ..)
  have nW : ∀ {b : Addr}, b ∉ S :: wr → b ∉ wr := fun hb e => hb (List.mem_cons_of_mem _ e)
  intro k
  induction k with
  | zero =>
    intro j s M tm c hk hj st hS hR
    have hjn : j = n := by omega
    subst hjn
    refine codeAny_builtin PySem.F.entry_max_loop ?_
    rw [Around.under_plainId PySem.F.plain_max_loop _]
    refine show wpAny _ A.in1 (seqItems? (.ref S) >>= _) _ _ s from wpAny_bind (wpAny_seqItems hS rfl ?_)
    refine show wpAny _ A.in1 (tryCatch (pyNext (.ref I)) _ >>= _) _ _ s from wpAny_bind (wpAny_tryCatch (W.done s _ _ st fun h1 tk k1 => ?_))
    have hS1 := k1 S _ hSw hS
    refine show wpAny _ A.in1 (updateSeq S (fun _ => #[]) >>= _) _ _ _ from wpAny_bind (wpAny_updateSeq hS1 rfl (wpAny_bind (wpAny_letGo (wpAny_pure ?_))))
    exact hR _ tk tm fun b o hb e => (Heap.get?_update_other _ _ (nS hb)).trans (k1 b o (nW hb) e)
  | succ k ih =>
    intro j s M tm c hk hj st hS hR
    have hlt : j < n := by omega
    refine codeAny_builtin PySem.F.entry_max_loop ?_
    rw [Around.under_plainId PySem.F.plain_max_loop _]
    refine show wpAny _ A.in1 (seqItems? (.ref S) >>= _) _ _ s from wpAny_bind (wpAny_seqItems hS rfl ?_)
    refine show wpAny _ A.in1 (tryCatch (pyNext (.ref I)) _ >>= _) _ _ s from wpAny_bind (wpAny_tryCatch (W.item j s _ _ hlt st fun v h1 tk hP st1 k1 => ?_))
    obtain ⟨tv, rfl⟩ := hval j v hP
    have hS1 := k1 S _ hSw hS
    refine show wpAny _ A.in1 (tryCatch (holding [Value.int (val j) tv, .int (val j) tv] (richCompare .Gt (.int (val j) tv) (.int M tm) >>= _)) _ >>= _) _ _ _ from ?_
    refine wpAny_bind (wpAny_tryCatch (wpAny_holding (wpAny_bind (show wpAny _ A.in1 (compareOp .Gt (.int (val j) tv) (.int M tm)) _ _ _ from PyProof.Rows.gt_int ?_))))
    refine wpAny_bind (wpAny_holding (wpAny_truthy_bool (wpAny_bind (wpAny_letGo (wpAny_pure ?_)))))
    by_cases hb : val j > M
    · rw [decide_eq_true hb, if_pos rfl]
      refine wpAny_bind (wpAny_updateSeq hS1 rfl (wpAny_bind (wpAny_letGo ?_)))
      rw [nm]
      refine wpAny_pure ⟨plainId_quiet PySem.F.plain_max_loop _, ih (j + 1) _ (val j) tv _ (by omega) hlt (W.frame _ _ _ st1 fun b hbf o e => (Heap.get?_update_other _ _ (fun q : S = b => hSf (q ▸ hbf))).trans e) (Heap.get?_update_self _ hS1 rfl) fun h2 tk2 t k2 => ?_⟩
      have := hR h2 tk2 t fun b o hb e => k2 b o hb ((Heap.get?_update_other _ _ (nS hb)).trans (k1 b o (nW hb) e))
      rwa [mxF, if_pos hb] at this
    · rw [decide_eq_false hb, if_neg (by decide)]
      refine wpAny_bind (wpAny_letGo ?_)
      rw [nm]
      refine wpAny_pure ⟨plainId_quiet PySem.F.plain_max_loop _, ih (j + 1) _ M tm c (by omega) hlt st1 hS1 fun h2 tk2 t k2 => ?_⟩
      have := hR h2 tk2 t fun b o hb e => k2 b o hb (k1 b o (nW hb) e)
      rwa [mxF, if_neg hb] at this
theorem mxF_list : ∀ (ns : List Int) (M : Int) (j : Nat) (all : List Int), all.drop j = ns → mxF (fun i => all.getD i 0) M j ns.length = maxL M ns
  | [], M, j, all, _ => rfl
  | x :: r, M, j, all, h => by
    have hx : all.getD j 0 = x := by
      have := congrArg (fun l : List Int => l[0]?) h
      simp only [List.getElem?_drop, Nat.add_zero, List.getElem?_cons_zero] at this
      rw [List.getD_eq_getElem?_getD, this]
      rfl
    have hr : all.drop (j + 1) = r := by
      rw [← List.drop_drop, h]
      rfl
    rw [List.length_cons, mxF, maxL, hx]
    exact mxF_list r _ (j + 1) all hr
theorem max_rest {kw : List (Str × Value)} {l : Addr} {its : List Value} {x : Int} {r : List Int} (hh : A.handled = none) (hl : s.heap.IsList l its.toArray) (hi : ∀ (i : Nat) (v : Value), its[i]? = some v → ∃ t, v = .int ((x :: r).getD i 0) t) (hlen : its.length = (x :: r).length)
    (S J : Addr) (hlJ : l ≠ J) (hlS : l ≠ S) (hJS : J ≠ S) (hJ : s.heap.get? J = some { cls := .type "list_iterator", data := .fields #[.ref l, .int 0 0] }) (hS : s.heap.get? S = some { cls := .type "list", data := .seq #[] })
    (hR : ∀ (h' : Heap) (tk : Nat) (t : Tok), (∀ b o, b ≠ S → b ≠ J → s.heap.get? b = some o → h'.get? b = some o) → R (.ok (.ret (.int (maxL x r) t))) { s with heap := h', toks := tk }) :
    codeAny (model prog w) A (.builtin "max.loop" ⟨[.ref J, .none, .ref S], kw⟩) R s := by
  have W := Walks.list (prog := prog) (w := w) (A := A.in1) hh J l hlJ its.toArray
  have nm : (toString "max" ++ toString ".loop" : String) = "max.loop" := by decide
  have hSf : S ∉ [J, l] := by simp [hJS.symm, hlS.symm]
  have hSw : S ∉ [J] := by simp [hJS.symm]
  have hn : its.toArray.size = r.length + 1 := by rw [List.size_toArray, hlen]; rfl
  refine codeAny_builtin PySem.F.entry_max_loop ?_
  rw [Around.under_plainId PySem.F.plain_max_loop _]
  refine show wpAny _ A.in1 (seqItems? (.ref S) >>= _) _ _ s from wpAny_bind (wpAny_seqItems hS rfl ?_)
  refine show wpAny _ A.in1 (tryCatch (pyNext (.ref J)) _ >>= _) _ _ s from wpAny_bind (wpAny_tryCatch (W.item 0 s _ _ (by omega) ⟨⟨_, hJ, rfl, rfl⟩, hl⟩ fun v h1 tk hP st1 k1 => ?_))
  obtain ⟨tv, rfl⟩ := hi 0 v (by simpa using hP)
  have hS1 := k1 S _ hSw hS
  refine show wpAny _ A.in1 (updateSeq S (fun _ => #[_, _]) >>= _) _ _ _ from wpAny_bind (wpAny_updateSeq hS1 rfl ?_)
  rw [nm]
  refine wpAny_pure ⟨plainId_quiet PySem.F.plain_max_loop _, max_loopI W (fun i => (x :: r).getD i 0) (fun i v h => hi i v (by simpa using h)) S hSf r.length 1 _ x tv _ (by omega) (by omega) ?_ (Heap.get?_update_self _ hS1 rfl) fun h2 tk2 t k2 => ?_⟩
  · exact W.frame _ _ _ st1 fun b hb o e => (Heap.get?_update_other _ _ (fun q : S = b => hSf (q ▸ hb))).trans e
  · have := hR h2 tk2 t fun b o hb hb2 e => k2 b o (by simp [hb, hb2]) ((Heap.get?_update_other _ _ (Ne.symm hb)).trans (k1 b o (by simp [hb2]) e))
    rwa [← mxF_list r x 1 (x :: r) rfl] at this
theorem max_ints {kw : List (Str × Value)} {dv : Option Value} {l : Addr} {its : List Value} {ns : List Int} {Q : Value → Shared → Prop} (hh : A.handled = none) (hl : s.heap.IsList l its.toArray) (hi : ∀ (i : Nat) (v : Value), its[i]? = some v → ∃ t, v = .int (ns.getD i 0) t) (hlen : its.length = ns.length)
    (ha : argsOk "max" ⟨[.ref l], kw⟩) (hbind : Builtin.Builtins.bindParams "max" ["key", "default"] 0 ⟨[], kw⟩ = pure [none, dv]) (hdv : (dv.toList.map fun d => (("default" : Str), d)) = kw) (hne : ns = [] → dv ≠ none)
    (h : ∀ (h' : Heap) (tk : Nat) (v : Value), (∀ b o, s.heap.get? b = some o → h'.get? b = some o) → (match ns with | [] => dv = some v | x :: r => ∃ t, v = .int (maxL x r) t) → Q v { s with heap := h', toks := tk }) :
    wpAny (model prog w) A (call (.builtin "max") [.ref l] kw) Q E s := by
  have nm : (toString "max" ++ toString ".loop" : String) = "max.loop" := by decide
  have hlt : l < s.heap.objs.size := let ⟨_, g, _⟩ := hl; Heap.lt_size g
  refine tree_kw PySem.F.kind_max PySem.F.plain_max PySem.F.entry_max ha ?_
  refine show wpAny _ A.in1 (Builtin.Builtins.bindParams "max" ["key", "default"] 0 ⟨[], kw⟩ >>= _) _ _ s from wpAny_bind (wpAny_of_eq hbind (wpAny_bind (wpAny_pure ?_)))
  refine wpAny_bind (wpAny_pyIter_list hl (wpAny_bind (wpAny_newObj_type ?_)))
  rw [nm]
  have hJ : ((s.heap.push { cls := .type "list_iterator", data := .fields #[.ref l, .int 0 0] }).push { cls := .type "list", data := .seq ([] : List Value).toArray }).get? s.heap.objs.size = some { cls := .type "list_iterator", data := .fields #[.ref l, .int 0 0] } := Heap.get?_push_of_some _ (Heap.get?_push_size _ rfl)
  have hS : ((s.heap.push { cls := .type "list_iterator", data := .fields #[.ref l, .int 0 0] }).push { cls := .type "list", data := .seq ([] : List Value).toArray }).get? (s.heap.push { cls := .type "list_iterator", data := .fields #[.ref l, .int 0 0] }).objs.size = some { cls := .type "list", data := .seq #[] } := Heap.get?_push_size _ rfl
  have hz : (s.heap.push { cls := .type "list_iterator", data := .fields #[.ref l, .int 0 0] }).objs.size = s.heap.objs.size + 1 := Heap.size_push ..
  have kk : ∀ b o, s.heap.get? b = some o → ((s.heap.push { cls := .type "list_iterator", data := .fields #[.ref l, .int 0 0] }).push { cls := .type "list", data := .seq ([] : List Value).toArray }).get? b = some o := fun b o e => Heap.get?_push_of_some _ (Heap.get?_push_of_some _ e)
  have hl2 : ((s.heap.push { cls := .type "list_iterator", data := .fields #[.ref l, .int 0 0] }).push { cls := .type "list", data := .seq ([] : List Value).toArray }).IsList l its.toArray := let ⟨o, g, c, d⟩ := hl; ⟨o, kk l o g, c, d⟩
  generalize (s.heap.push { cls := .type "list_iterator", data := .fields #[.ref l, .int 0 0] }).push { cls := .type "list", data := .seq ([] : List Value).toArray } = h1 at hJ hS kk hl2
  rw [hz] at hS ⊢
  have hlJ : l ≠ s.heap.objs.size := Nat.ne_of_lt hlt
  have hlS : l ≠ s.heap.objs.size + 1 := Nat.ne_of_lt (Nat.lt_succ_of_lt hlt)
  have hJS : s.heap.objs.size ≠ s.heap.objs.size + 1 := Nat.ne_of_lt (Nat.lt_succ_self _)
  refine wpAny_pure ⟨plainId_quiet PySem.F.plain_max_loop _, ?_⟩
  have old : ∀ b o, s.heap.get? b = some o → b ≠ s.heap.objs.size + 1 ∧ b ≠ s.heap.objs.size := fun b o e => ⟨Nat.ne_of_lt (Nat.lt_succ_of_lt (Heap.lt_size e)), Nat.ne_of_lt (Heap.lt_size e)⟩
  cases ns with
  | cons x r => exact max_rest (s := { s with heap := h1 }) hh hl2 hi hlen _ _ hlJ hlS hJS hJ hS fun h' tk t k => h h' tk _ (fun b o e => k b o (old b o e).1 (old b o e).2 (kk b o e)) ⟨t, rfl⟩
  | nil =>
    obtain ⟨d, rfl⟩ : ∃ d, dv = some d := by
      cases dv with
      | none => exact absurd rfl (hne rfl)
      | some d => exact ⟨d, rfl⟩
    have W := Walks.list (prog := prog) (w := w) (A := A.in1) hh s.heap.objs.size l hlJ its.toArray
    have hn : its.toArray.size = 0 := by rw [List.size_toArray, hlen]; rfl
    refine codeAny_builtin PySem.F.entry_max_loop ?_
    rw [Around.under_plainId PySem.F.plain_max_loop _]
    refine show wpAny _ A.in1 (seqItems? (.ref (s.heap.objs.size + 1)) >>= _) _ _ _ from wpAny_bind (wpAny_seqItems hS rfl ?_)
    refine show wpAny _ A.in1 (tryCatch (pyNext (.ref s.heap.objs.size)) _ >>= _) _ _ _ from wpAny_bind (wpAny_tryCatch (W.done _ _ _ (by rw [hn]; exact ⟨⟨_, hJ, rfl, rfl⟩, hl2⟩) fun h2 tk k2 => ?_))
    refine wpAny_bind (wpAny_rule (wpAny_pure ?_))
    exact h h2 tk d (fun b o e => k2 b o (by simp [(old b o e).2]) (kk b o e)) rfl
end
section
variable {X : Cx}
theorem int_at2 : ∀ {ns : List Int} {us : List Value}, Vals (ns.map V.int) us → us.length = ns.length ∧ ∀ (i : Nat) (v : Value), us[i]? = some v → ∃ t, v = .int (ns.getD i 0) t
  | [], _, .nil => ⟨rfl, fun i v h => by simp at h⟩
  | n :: ns, _, .cons h r => by
    obtain ⟨t, rfl⟩ := h
    obtain ⟨h1, h2⟩ := int_at2 r
    refine ⟨by simp [h1], fun i v hv => ?_⟩
    cases i with
    | zero => simp at hv; exact ⟨t, hv.symm⟩
    | succ i => exact h2 i v (by simpa using hv)
def rMaxL : List V → Hp → VK → Prop := fun xs H Q => match xs with
  | [.ref l] => ∃ (x : Int) (r : List Int), H l = some (.lst ((x :: r).map V.int)) ∧ Q (.int (maxL x r)) H
  | _ => False
theorem rMaxL_ref (l : Addr) (H : Hp) (Q : VK) : rMaxL [.ref l] H Q = (∃ (x : Int) (r : List Int), H l = some (.lst ((x :: r).map V.int)) ∧ Q (.int (maxL x r)) H) := rfl
theorem call_maxL (hc : X.calm = true) : CallR X (.builtin "max") rMaxL := by
  intro pins s σ H xs us Q I r h
  unfold rMaxL at h
  split at h
  · rename_i l
    obtain ⟨x, rs, e, q⟩ := h
    obtain ⟨u, rfl, ru⟩ := vals1 r
    cases ru
    obtain ⟨its, rr, pl, hz⟩ := I.list (SqL.of e)
    obtain ⟨h1, h2⟩ := int_at2 rr
    refine max_ints (kw := []) (dv := none) (I.ok.hd hc) pl.isList h2 h1 (PySem.F.args_max1 _) rfl rfl (fun q => nomatch q) fun h' tk v k hv => ?_
    obtain ⟨t, rfl⟩ := hv
    exact ⟨.int (maxL x rs), H, I.kept (t' := tk) k, ⟨t, rfl⟩, q⟩
  · exact h.elim
def rMaxD (d : Int) : List V → Hp → VK → Prop := fun xs H Q => match xs with
  | [.ref l] => ∃ ns : List Int, H l = some (.lst (ns.map V.int)) ∧ Q (.int (match ns with | [] => d | x :: r => maxL x r)) H
  | _ => False
theorem rMaxD_ref (d : Int) (l : Addr) (H : Hp) (Q : VK) : rMaxD d [.ref l] H Q = (∃ ns : List Int, H l = some (.lst (ns.map V.int)) ∧ Q (.int (match ns with | [] => d | x :: r => maxL x r)) H) := rfl
theorem args_maxD (a d : Value) : argsOk "max" ⟨[a], [("default", d)]⟩ := by unfold argsOk; kernel_rfl
theorem pe_maxD {a k : Expr} {ta : TE} {d : Int} {p q kp : Pos} (hc : X.calm = true) (hg : Gl X "max") (hm : X.mg "max" = none) (ha : PE X a ta) (hk : PE X k (tC (.int d)))
    (hs : starEach [a] X.env = [(false, eval a X.env)] := by rfl) : PE X (.Call (.Name "max" p) [a] [⟨some "default", k, kp⟩] q) (tCB (rMaxD d) (tCons ta tNil)) := by
  intro pins s σ H Q I h
  have hA : PA X [a] (tCons ta tNil) := pa_cons ha pa_nil hs
  refine wpAny_Call_Name_kw (ld_blt I hg hm bt_max (callWith_kw (thn (hA q pins s σ H (fun vs H1 => rMaxD d vs H1 Q) I h) fun us s1 ⟨vs, H1, I1, r1, q1⟩ => ?_) (by rw [hs]; rfl) (by rw [hs]; rfl)))
  replace q1 : rMaxD d vs H1 Q := q1
  refine kws_cons (thn (hk pins s1 σ H1 (fun v H2 => v = .int d ∧ H2 = H1) I1 ⟨rfl, rfl⟩) fun kv s2 ⟨v, H2, I2, rv, e1, e2⟩ => kws_nil ?_)
  subst e1 e2
  obtain ⟨tk, rfl⟩ := rv
  unfold rMaxD at q1
  split at q1
  · rename_i l
    obtain ⟨ns, e, q⟩ := q1
    obtain ⟨u, rfl, ru⟩ := vals1 r1
    cases ru
    obtain ⟨its, rr, pl, hz⟩ := I2.list (SqL.of e)
    obtain ⟨h1, h2⟩ := int_at2 rr
    refine max_ints (kw := [("default", .int d tk)]) (dv := some (.int d tk)) (I2.ok.hd hc) pl.isList h2 h1 (args_maxD _ _) rfl rfl (fun _ => by simp) fun h' tk2 v k hv => ?_
    cases ns with
    | nil => cases Option.some.inj hv; exact ⟨.int d, H2, I2.kept (t' := tk2) k, ⟨tk, rfl⟩, q⟩
    | cons x r =>
      obtain ⟨t, rfl⟩ := hv
      exact ⟨.int (maxL x r), H2, I2.kept (t' := tk2) k, ⟨t, rfl⟩, q⟩
  · exact q1.elim
theorem qpe_maxD {a k : Expr} {ta : TE} {d : Int} {p q kp : Pos} (hc : X.calm = true) (hg : Gl X "max") (hm : X.mg "max" = none) (ha : QE X a ta) (hk : QE X k (tC (.int d)))
    (hs : starEach [a] X.env = [(false, eval a X.env)] := by rfl) : QE X (.Call (.Name "max" p) [a] [⟨some "default", k, kp⟩] q) (tCB (rMaxD d) (tCons ta tNil)) := ⟨pe_maxD hc hg hm ha.h hk.h hs⟩
end
end L2
set_option Elab.async false
set_option linter.all false
set_option maxRecDepth 100000
set_option maxHeartbeats 4000000
namespace L2
open PySem PySem.Spec PyProof.Rows
section
variable {X : Cx}
def rExtendT : V → List V → Hp → VK → Prop := fun x vs H Q => match x, vs with
  | .ref l, [.ref b] => ∃ xs, lstOf (H l) = some xs ∧ ∃ zs, tupOf (H b) = some zs ∧ xs.length + zs.length ≤ sizeLine ∧ Q .non (upd H l (.lst (xs ++ zs)))
  | _, _ => False
theorem rExtendT_ref (H : Hp) (Q : VK) (l b : Addr) : rExtendT (.ref l) [.ref b] H Q = (∃ xs, lstOf (H l) = some xs ∧ ∃ zs, tupOf (H b) = some zs ∧ xs.length + zs.length ≤ sizeLine ∧ Q .non (upd H l (.lst (xs ++ zs)))) := rfl
theorem mt_extendT : MtM X "list.extend" rExtendT := by
  intro pins s σ H x vs v us Q I rx rv h
  unfold rExtendT at h
  split at h
  · rename_i l b
    obtain ⟨xs, e1, zs, e2, hz, q⟩ := h
    cases rx
    obtain ⟨u, rfl, ru⟩ := rv.one
    cases ru
    have hH := of_lstOf e1
    have hB : H b = some (.tup zs) := by
      cases eb : H b with
      | none => rw [eb] at e2; cases e2
      | some o =>
        rw [eb] at e2
        cases o with
        | tup ws => have : ws = zs := by simpa [tupOf] using e2
                    rw [this]
        | _ => simp [tupOf] at e2
    obtain ⟨z, its, n, r, hl, e⟩ := I.lstM hH
    obtain ⟨its2, r2, ⟨o2, g2, c2, n2, d2⟩, z2⟩ := I.tuple (SqT.of hB)
    have h1 := r.length
    have h2 := r2.length
    have hT : s.TypeIs (.ref l) "list" := ⟨_, e, rfl⟩
    have hlong : (!its.toArray.isEmpty && Builtin.List.listTooLong (its.toArray.size + its2.toArray.size)) = false := by
      rw [notLongL (by rw [List.size_toArray, List.size_toArray]; omega), Bool.and_false]
    refine wpAny_call_entry PySem.F.slot_list_extend hT PySem.F.entry_list_extend ?_ (PySem.F.args_list_extend_2 _ _)
    refine show wpAny _ _ (Builtin.List.listExtendWith (.ref l) (.ref b) .none) _ _ s from ?_
    unfold Builtin.List.listExtendWith
    refine wpAny_bind (wpAny_typeOf (T := "tuple") ⟨o2, g2, c2⟩ (wpAny_ite_split (fun _ => ?_) (fun q => absurd (by simp) q)))
    refine wpAny_bind (listItems_at g2 d2 (wpAny_bind (listItems_at e rfl (wpAny_ite_split (fun q => absurd q (by rw [hlong]; decide)) (fun _ => ?_)))))
    refine wpAny_bind (listUpdate_at e rfl (wpAny_pure ?_) (by rw [List.size_toArray]; omega) (by rw [Array.size_append, List.size_toArray, List.size_toArray]; omega))
    exact ⟨_, rfl, .non, _, I.lset (its' := its ++ its2) (t' := s.toks) hH e (by simp) (r.append r2) (by rw [List.length_append]; omega), rfl, q⟩
  · exact h.elim
end
end L2
set_option linter.all false
namespace My
open PySem
def toS (l : List Nat) : Str := ⟨l.toArray⟩
theorem toS_app (l : List Nat) (c : Nat) : toS l ++ (⟨#[c]⟩ : Str) = toS (l ++ [c]) := by
  show (⟨l.toArray ++ #[c]⟩ : Str) = ⟨(l ++ [c]).toArray⟩
  simp
theorem toS_len (l : List Nat) : (toS l).length = l.length := by simp [toS, Str.length]
end My
set_option Elab.async false
set_option linter.all false
set_option maxRecDepth 100000
set_option maxHeartbeats 4000000
namespace My
open PySem L2 PyProof.Rows
def sg (z : Str) : List Nat := z.cps.toList
theorem sg_app (x y : Str) : sg (x ++ y) = sg x ++ sg y := by simp [sg, Str.cps_append]
theorem join0 : ∀ l : List Str, sg (Str.join ⟨#[]⟩ l) = (l.map sg).flatten
  | [] => rfl
  | x :: l => by rw [join_nil_cons, sg_app, join0 l]; rfl
theorem joinT (l : List Str) : sg (Txt.join (Str.ofString "") l) = (l.map sg).flatten := by
  have e0 : (Str.ofString "") = (⟨#[]⟩ : Str) := by decide +kernel
  have e := eq_of_beq (join_plain_closes ⟨#[]⟩ l)
  rw [e0, e, join0]
theorem last_of {α : Type} {xs : List α} {x : α} (h : xs[xs.length - 1]? = some x) : xs = xs.dropLast ++ [x] := by
  have hne : xs ≠ [] := by rintro rfl; simp at h
  have e := List.dropLast_concat_getLast hne
  have e2 : xs.getLast hne = x := by
    rw [List.getLast_eq_getElem hne]
    have := (List.getElem?_eq_some_iff.mp h).2
    exact this
  rw [← e2, e]
theorem atI_m1 {α : Type} {xs : List α} {v : α} (h : xs[xs.length - 1]? = some v) : atI xs (-1) = some v := by
  rw [last_of h]
  exact atI_last _ _
end My
set_option Elab.async false
set_option linter.all false
set_option maxRecDepth 100000
set_option maxHeartbeats 4000000
namespace My
open PySem L2
local macro_rules
  | `(tactic| simp!) => `(tactic| simp only [tSeq, tIfS, tTest, tOp, tVar, tC, tAsg, gName, gSub, tRet, tNext, tDrop, tAnd, tOr, tNot, tAndV, tNotV, tB, tIf, tCall, rI0, rI, rAddW_int, rAddW_str, rMulW_int, rMulW_ref, rLtU_int, rLtU_str, rIxU_str, rIxU_ref, rLenU_str, rLenU_ref, rIntU_int, rIntU_bl, rListU_str, rListU_ref, rPopU_ref, rAppendU_ref, rEqU_int, rEqU_bl, rEqU_str, rEqU_ref, rNeU_int, rNeU_bl, rNeU_str, rNeU_ref, rIsU_ty, rSetU_ref, isL_ref, lstOf_lst, tupOf_tup, seqOf_lst, seqOf_tup, Option.isSome_some, tBML, tCB, tCons, tNil, tLst, tTup, tSl, tPart, tNoPart, rSlU_str, iAny, iRng1, tFor_eq, tComp, tCompIf, compSt, tUn, rU, tBMS, isS_str, rInU_str, tBM, tyV_str, Option.bind_some, Option.bind_none, Option.getD_some, L2.start, List.map_cons, List.map_nil, List.length_cons, List.length_nil, List.cons_append, List.nil_append, List.append_nil, List.cons.injEq, List.replicate, List.getElem?_cons_zero, List.getElem?_cons_succ, List.set_cons_zero, List.set_cons_succ, Nat.reduceSub, Nat.reduceAdd, Nat.reduceLeDiff, Option.some.injEq, V.int.injEq, V.bl.injEq, V.str.injEq, V.ref.injEq, HO.lst.injEq, HO.tup.injEq, exists_eq_left', exists_eq_left, exists_and_left, true_and, and_true, upd_same, upd_upd, atI_0, atI_1, atI_2, Bool.not_true, Bool.not_false, decide_eq_true_eq, Bool.false_eq_true, if_false, if_true, reduceIte, reduceCtorEq, tSortedSet, rSortedSet_ref, rMaxL_ref, rMaxD_ref, rExtendT_ref])
  | `(tactic| simp! [$ls,*]) => `(tactic| simp only [tSeq, tIfS, tTest, tOp, tVar, tC, tAsg, gName, gSub, tRet, tNext, tDrop, tAnd, tOr, tNot, tAndV, tNotV, tB, tIf, tCall, rI0, rI, rAddW_int, rAddW_str, rMulW_int, rMulW_ref, rLtU_int, rLtU_str, rIxU_str, rIxU_ref, rLenU_str, rLenU_ref, rIntU_int, rIntU_bl, rListU_str, rListU_ref, rPopU_ref, rAppendU_ref, rEqU_int, rEqU_bl, rEqU_str, rEqU_ref, rNeU_int, rNeU_bl, rNeU_str, rNeU_ref, rIsU_ty, rSetU_ref, isL_ref, lstOf_lst, tupOf_tup, seqOf_lst, seqOf_tup, Option.isSome_some, tBML, tCB, tCons, tNil, tLst, tTup, tSl, tPart, tNoPart, rSlU_str, iAny, iRng1, tFor_eq, tComp, tCompIf, compSt, tUn, rU, tBMS, isS_str, rInU_str, tBM, tyV_str, Option.bind_some, Option.bind_none, Option.getD_some, L2.start, List.map_cons, List.map_nil, List.length_cons, List.length_nil, List.cons_append, List.nil_append, List.append_nil, List.cons.injEq, List.replicate, List.getElem?_cons_zero, List.getElem?_cons_succ, List.set_cons_zero, List.set_cons_succ, Nat.reduceSub, Nat.reduceAdd, Nat.reduceLeDiff, Option.some.injEq, V.int.injEq, V.bl.injEq, V.str.injEq, V.ref.injEq, HO.lst.injEq, HO.tup.injEq, exists_eq_left', exists_eq_left, exists_and_left, true_and, and_true, upd_same, upd_upd, atI_0, atI_1, atI_2, Bool.not_true, Bool.not_false, decide_eq_true_eq, Bool.false_eq_true, if_false, if_true, reduceIte, reduceCtorEq, tSortedSet, rSortedSet_ref, rMaxL_ref, rMaxD_ref, rExtendT_ref, $ls,*])
def top (i : Nat) : Stmt := PySem.Challenge.pw_calmword_k33_free_names_and_depths.main.body.getD i (.Pass ⟨0, 0, 0, 0⟩)
def BoxO (o : HO) : Prop := ∃ c s, o = .lst [.int c, .int s] ∧ 1 ≤ s ∧ s ≤ 2147483629
def spTake : Sp := fun vs H Q _ => ∃ b w o, vs = [.ref b, .int w] ∧ H b = some o ∧ BoxO o ∧ 0 < w ∧ w < 1073741824 ∧ ∀ d o, 0 ≤ d → d < w → BoxO o → Q (.int d) (upd H b o)
def spBox (K : PySem.W.Frag) : Sp := fun vs H Q _ => ∃ (a : Addr) (k : Int) (ns : List Int), vs = [.ref a, .int k] ∧ SqL K H a (ns.map V.int) ∧ 0 ≤ k ∧ k ≤ 1000 ∧ ∀ b o, H b = none → BoxO o → Q (.ref b) (upd H b o)
section
variable {P : Program} {w : World} {K : PySem.W.Frag} {mg : Str → Option Value} {base : Heap}
abbrev s__law_take : Stmt := top 10
theorem sc__law_take : FnScope ["_law_box_here", "_law_wide", "_law_digit", "_law_one"] ["_law_box_here", "_law_wide"] (defScope s__law_take) := ⟨rfl, rfl, rfl, by decide +kernel, rfl, by decide +kernel, by decide +kernel⟩
theorem ok__law_take {f : Addr} {fd : FuncData} (F : Fun K "_law_take" "_law_take" s__law_take f fd) : FnOk P w K mg base CX0 1 f fd ["_law_box_here", "_law_wide"] spTake := by
  refine F.ok sc__law_take (fun vs H Q E h => ?_) (fun cdv A outer s H vs Q E hr h => ?_)
  · obtain ⟨b, w, o, rfl, _⟩ := h
    rfl
  · obtain ⟨b, w, o, rfl, hb, ⟨c, sd, rfl, s1, s2⟩, w0, w1, k⟩ := h
    refine ⟨_, (QSs.h (qpss_cons (qps_if (qpt_cmpR op_gt (qpe_ix ix_U (qpv 0) qpe_int (fun _ _ => rfl)) qpe_int (nomark _)) (qpss_cons (qps_set (i := 2) sc__law_take.nd rfl (by first | exact Or.inl rfl | exact Or.inr rfl) (qpe_op op_mod (qpe_ix ix_U (qpv 0) qpe_int (fun _ _ => rfl)) (qpv 1)))
    (qpss_cons (qps_asg (qpe_op op_fdiv (qpe_ix ix_U (qpv 0) qpe_int (fun _ _ => rfl)) (qpv 1)) (qpg_sub (qpv 0) qpe_int set_U))
    (qpss_one (qps_ret (qpv 2))))) qpss_nil)
    (qpss_cons (qps_set (i := 3) sc__law_take.nd rfl (by first | exact Or.inl rfl | exact Or.inr rfl) (qpe_op op_mod (qpe_op op_mulW (qpe_ix ix_U (qpv 0) qpe_int (fun _ _ => rfl)) qpe_int) qpe_int))
    (qpss_cons (qps_asg (qpe_op op_addW (qpe_op op_mod (qpe_op op_addW (qpe_op op_mulW (qpv 3) qpe_int) qpe_int) qpe_int) qpe_int) (qpg_sub (qpv 0) qpe_int set_U))
    (qpss_one (qps_ret (qpe_op op_mod (qpe_op op_fdiv (qpe_op op_addW (qpe_op op_mulW (qpv 3) qpe_int) (qpe_ix ix_U (qpv 0) qpe_int (fun _ _ => rfl))) qpe_int) (qpv 1)))))))), ?_⟩
    have m1 : ∀ z m : Int, 0 < m → 0 ≤ z % m ∧ z % m < m := fun z m h => ⟨Int.emod_nonneg z (by omega), Int.emod_lt_of_pos z h⟩
    simp! [hb]
    refine ite2 (fun hc => ?_) (fun _ => ?_)
    · refine ⟨w0, ⟨w0, w1⟩, 0, rfl, ?_⟩
      simp! [hb]
      exact k _ _ (m1 c w w0).1 (m1 c w w0).2 ⟨_, _, rfl, s1, s2⟩
    · have q1 := m1 (sd * 69623) 2147483647 (by decide)
      refine ⟨.inl ⟨by omega, by omega⟩, by decide, .inl ⟨by omega, by omega⟩, by decide, 1, rfl, ?_⟩
      simp! [hb]
      have q2 := m1 (sd * 69623 % 2147483647 * 48271 + 30103) 2147483629 (by decide)
      refine ⟨.inl ⟨by omega, by omega⟩, ⟨by decide, by decide⟩, w0, ?_⟩
      exact k _ _ (m1 _ w w0).1 (m1 _ w w0).2 ⟨_, _, rfl, by omega, by omega⟩
structure TBox (mg : Str → Option Value) : Prop where
  n_len : mg "len" = none
  n_int : mg "int" = none
abbrev s__law_box : Stmt := top 9
theorem sc__law_box : FnScope ["_law_script", "_law_k", "_law_cell", "_law_seed"] ["_law_script", "_law_k"] (defScope s__law_box) := ⟨rfl, rfl, rfl, by decide +kernel, rfl, by decide +kernel, by decide +kernel⟩
theorem ok__law_box {f : Addr} {fd : FuncData} (F : Fun K "_law_box" "_law_box" s__law_box f fd) (T : TBox mg) : FnOk P w K mg base CX0 1 f fd ["_law_script", "_law_k"] (spBox K) := by
  refine F.ok sc__law_box (fun vs H Q E h => ?_) (fun cdv A outer s H vs Q E hr h => ?_)
  · obtain ⟨a, k, ns, rfl, _⟩ := h
    rfl
  · obtain ⟨a, k, ns, rfl, hS, k0, k1, kk⟩ := h
    refine ⟨_, (QSs.h (qpss_cons (qps_set (i := 2) sc__law_box.nd rfl (by first | exact Or.inl rfl | exact Or.inr rfl) (qpe_op op_addW (qpe_op op_mulW qpe_int (qpv 1)) qpe_int))
    (qpss_cons (qps_if (qpt_cmpR op_ltU (qpv 1) (qpe_callB call_len_seq (by rfl) T.n_len bt_len (qpa_cons (qpv 0) qpa_nil)) (nomark _)) (qpss_one (qps_set (i := 2) sc__law_box.nd rfl (by first | exact Or.inl rfl | exact Or.inr rfl) (qpe_ix ix_list (qpv 0) (qpv 1) (fun _ _ => rfl)))) (qpss_one (qps_if (qpt_cmpR op_gt (qpe_callB call_len_seq (by rfl) T.n_len bt_len (qpa_cons (qpv 0) qpa_nil)) qpe_int (nomark _)) (qpss_one (qps_set (i := 2) sc__law_box.nd rfl (by first | exact Or.inl rfl | exact Or.inr rfl) (qpe_op op_addW (qpv 2) (qpe_op op_mulW (qpe_op op_mod (qpe_ix ix_list (qpv 0) (qpe_op op_mod (qpv 1) (qpe_callB call_len_seq (by rfl) T.n_len bt_len (qpa_cons (qpv 0) qpa_nil))) (fun _ _ => rfl)) qpe_int) qpe_int)))) qpss_nil)))
    (qpss_cons (qps_set (i := 3) sc__law_box.nd rfl (by first | exact Or.inl rfl | exact Or.inr rfl) (qpe_op op_addW (qpe_op op_mod (qpe_op op_addW (qpe_op op_mulW (qpe_op op_mod (qpv 2) qpe_int) qpe_int) (qpe_op op_mulW qpe_int (qpv 1))) qpe_int) qpe_int))
    (qpss_one (qps_ret (qpe_lst (qpa_cons (qpe_op op_mulW (qpv 2) (qpe_callTy call_intU (by rfl) T.n_int bt_int (qpa_cons (qpe_cmpR op_ge (qpv 2) (qpe_op op_pow qpe_int qpe_int) (nomark _)) qpa_nil))) (qpa_cons (qpv 3) qpa_nil))))))))), ?_⟩
    have m1 : ∀ z m : Int, 0 < m → 0 ≤ z % m ∧ z % m < m := fun z m h => ⟨Int.emod_nonneg z (by omega), Int.emod_lt_of_pos z h⟩
    have tail : ∀ cell : Int, (0 : Int) < 2147483629 ∧ CMul (cell % 2147483629) 48271 ∧ CMul 40692 k ∧ (0 : Int) < 2147483629 ∧ CPow 10 18 ∧ CMul cell (if (10 : Int) ^ (18 : Int).toNat ≤ cell then 1 else 0) ∧ 2 ≤ sizeLine ∧
        ∀ p, H p = none → Q (.ref p) (upd H p (.lst [.int (cell * (if (10 : Int) ^ (18 : Int).toNat ≤ cell then 1 else 0)), .int ((cell % 2147483629 * 48271 + 40692 * k) % 2147483629 + 1)])) := by
      intro cell
      have q1 := m1 cell 2147483629 (by decide)
      have q2 := m1 (cell % 2147483629 * 48271 + 40692 * k) 2147483629 (by decide)
      refine ⟨by decide, .inl ⟨by omega, by omega⟩, .inl ⟨by decide, by decide⟩, by decide, ⟨by decide, by decide, by decide⟩, .inr ?_, by decide, fun p hp => kk p _ hp ⟨_, _, rfl, by omega, by omega⟩⟩
      split <;> constructor <;> decide
    simp!
    refine ⟨.inl ⟨by decide, by decide⟩, ns.map V.int, .inl hS, ?_⟩
    rw [List.length_map]
    refine ite2 (fun h => ?_) (fun h => ?_)
    · obtain ⟨z, hz⟩ : ∃ z, ns[k.toNat]? = some z := ⟨ns[k.toNat]'(by omega), by simp⟩
      refine ⟨a, _, k, .int z, rfl, rfl, hS, atI_of k0 (by rw [List.getElem?_map, hz]; rfl), ?_⟩
      simp!
      exact tail z
    · refine ⟨ns.map V.int, .inl hS, ?_⟩
      rw [List.length_map]
      refine ite2 (fun h2 => ?_) (fun h2 => ?_)
      · refine ⟨ns.map V.int, .inl hS, ?_⟩
        rw [List.length_map]
        have q := m1 k (ns.length : Int) (by omega)
        obtain ⟨z, hz⟩ : ∃ z, ns[(k % (ns.length : Int)).toNat]? = some z := ⟨ns[(k % (ns.length : Int)).toNat]'(by omega), by simp⟩
        refine ⟨by omega, a, _, _, .int z, rfl, rfl, hS, atI_of q.1 (by rw [List.getElem?_map, hz]; rfl), ?_⟩
        simp!
        have q3 := m1 z 2147483629 (by decide)
        refine ⟨by decide, .inl ⟨by omega, by omega⟩, ?_⟩
        exact tail _
      · exact tail _
end
structure Letters (z : Str) (m : Nat) : Prop where
  lo : 1 ≤ z.length
  hi : z.length ≤ m
  az : ∀ c ∈ z.cps.toList, 97 ≤ c ∧ c ≤ 122
  nd : z.cps.toList.Nodup
def chV (c : Nat) : V := .str ⟨#[c]⟩
def spLetters : Sp := fun vs H Q _ => ∃ (b : Addr) (m : Nat) (o : HO), vs = [.ref b, .int (m : Int)] ∧ H b = some o ∧ BoxO o ∧ 1 ≤ m ∧ m ≤ 4 ∧ ∀ z o' H', Letters z m → BoxO o' → H' b = some o' → Kp [b] H H' → Q (.str z) H'
theorem erase_perm {α : Type} : ∀ (l : List α) (i : Nat) (x : α), l[i]? = some x → (x :: l.eraseIdx i).Perm l
  | [], i, x, h => by simp at h
  | a :: l, 0, x, h => by simp at h; subst h; exact List.Perm.refl _
  | a :: l, i + 1, x, h => by
    rw [List.eraseIdx_cons_succ]
    exact (List.Perm.swap _ _ _).trans ((erase_perm l i x (by simpa using h)).cons a)
theorem map_erase {α β : Type} (f : α → β) : ∀ (l : List α) (i : Nat), (l.map f).eraseIdx i = (l.eraseIdx i).map f
  | [], _ => rfl
  | _ :: _, 0 => rfl
  | a :: l, i + 1 => by rw [List.map_cons, List.eraseIdx_cons_succ, List.eraseIdx_cons_succ, List.map_cons, map_erase f l i]
theorem abc_sgn : sgn (Str.ofString "abcdefghijklmnopqrstuvwxyz") = ((List.range 26).map (97 + ·)).map chV := by decide +kernel
structure TLetters (mg : Str → Option Value) (ft : Addr) : Prop where
  n_len : mg "len" = none
  n_list : mg "list" = none
  n_range : mg "range" = none
  m__law_take : mg "_law_take" = some (.ref ft)
section
variable {P : Program} {w : World} {K : PySem.W.Frag} {mg : Str → Option Value} {base : Heap}
abbrev s__law_letters : Stmt := top 11
theorem sc__law_letters : FnScope ["_law_box_here", "_law_most", "_law_pool", "_law_found", "_law_k"] ["_law_box_here", "_law_most"] (defScope s__law_letters) := ⟨rfl, rfl, rfl, by decide +kernel, rfl, by decide +kernel, by decide +kernel⟩
theorem ok__law_letters {f ft : Addr} {fd fdt : FuncData} (F : Fun K "_law_letters" "_law_letters" s__law_letters f fd) (T : TLetters mg ft) (F__law_take : Fun K "_law_take" "_law_take" s__law_take ft fdt) (b__law_take : Binds K fdt ["_law_box_here", "_law_wide"] [])
    (G__law_take : FnOk P w K mg base CX0 1 ft fdt ["_law_box_here", "_law_wide"] spTake) : FnOk P w K mg base CX0 2 f fd ["_law_box_here", "_law_most"] spLetters := by
  refine F.ok sc__law_letters (fun vs H Q E h => ?_) (fun cdv A outer s H vs Q E hr h => ?_)
  · obtain ⟨b, m, o, rfl, _⟩ := h
    rfl
  · obtain ⟨b, m, o, rfl, hb, ho, m1, m4, k⟩ := h
    refine ⟨_, (QSs.h (qpss_cons (qps_set (i := 2) sc__law_letters.nd rfl (by first | exact Or.inl rfl | exact Or.inr rfl) (qpe_callTy (call_listU rfl) (by rfl) T.n_list bt_list (qpa_cons qpe_str qpa_nil)))
    (qpss_cons (qps_set (i := 3) sc__law_letters.nd rfl (by first | exact Or.inl rfl | exact Or.inr rfl) qpe_str)
    (qpss_cons (qps_for PassesOwn.never rfl (qpi_range1 rfl T.n_range (qpa_cons (qpe_op op_addW qpe_int (qpe_call G__law_take (hr.mono (by decide)) rfl T.m__law_take F__law_take.kp b__law_take .nil pass0 (qpa_cons (qpv 0) (qpa_cons (qpv 1) qpa_nil)))) qpa_nil)) (qpg_name (i := 4) sc__law_letters.nd rfl (by first | exact Or.inl rfl | exact Or.inr rfl)) (qpss_one (qps_set (i := 3) sc__law_letters.nd rfl (by first | exact Or.inl rfl | exact Or.inr rfl) (qpe_op op_addW (qpv 3) (qpe_bmL PySem.F.slot_list_pop PySem.F.type_list_pop mt_popU (qpv 2) (qpa_cons (qpe_call G__law_take (hr.mono (by decide)) rfl T.m__law_take F__law_take.kp b__law_take .nil pass0 (qpa_cons (qpv 0) (qpa_cons (qpe_callB call_lenU (by rfl) T.n_len bt_len (qpa_cons (qpv 2) qpa_nil)) qpa_nil))) qpa_nil) mono_var)))))
    (qpss_one (qps_ret (qpv 3))))))), ?_⟩
    simp!
    refine ⟨by decide, fun p hp => ?_⟩
    have npb : b ≠ p := ne_of_none hb hp
    obtain ⟨c0, s0, rfl, _, _⟩ := id ho
    refine ⟨b, (m : Int), _, rfl, by rw [upd_ne npb]; exact hb, ho, by omega, by omega, fun d o1 d0 d1 ho1 => ?_⟩
    simp!
    obtain ⟨n, rfl⟩ : ∃ n : Nat, d = (n : Int) := ⟨d.toNat, by omega⟩
    have en : (1 + (n : Int)).toNat = n + 1 := by omega
    refine ⟨by omega, by omega, ?_⟩
    rw [en]
    refine loop_range (fun i σ H' => ∃ l R o' v, σ = [some (.ref b), some (.int (m : Int)), some (.ref p), some (.str (toS l)), v] ∧ H' b = some o' ∧ BoxO o' ∧ H' p = some (.lst (R.map chV)) ∧ Kp [b] H H' ∧ l.length = i ∧ R.length + i = 26 ∧
      (l ++ R).Nodup ∧ ∀ c ∈ l ++ R, 97 ≤ c ∧ c ≤ 122) ?_ ?_ ?_
    · refine ⟨[], (List.range 26).map (97 + ·), o1, none, rfl, upd_same, ho1, ?_, ?_, rfl, by simp, ?_, ?_⟩
      · rw [upd_ne npb.symm, upd_same, abc_sgn]
      · exact ((Kp.refl [b] H).new hp).set (by rw [upd_ne npb]; exact hb) (.inl (by simp))
      · decide
      · decide
    · rintro i σ H' hi ⟨l, R, o', v, rfl, hb', ho', hp', kp, hl, hR, nd, az⟩
      simp! [hp']
      obtain ⟨c1, s1, rfl, _, _⟩ := id ho'
      refine ⟨b, _, _, rfl, hb', ho', by rw [List.length_map]; omega, by rw [List.length_map]; omega, fun d o2 d0 d1 ho2 => ?_⟩
      rw [List.length_map] at d1
      have hp2 : upd H' b o2 p = some (.lst (R.map chV)) := by rw [upd_ne npb.symm]; exact hp'
      simp! [hp2]
      obtain ⟨c, hc⟩ : ∃ c, R[d.toNat]? = some c := ⟨R[d.toNat]'(by omega), by simp⟩
      have hc' : (R.map chV)[d.toNat]? = some (.str ⟨#[c]⟩) := by rw [List.getElem?_map, hc]; rfl
      refine ⟨d0, _, hc', ?_⟩
      simp!
      have pm := erase_perm R d.toNat c hc
      have e1 : ((l ++ [c]) ++ R.eraseIdx d.toNat).Perm (l ++ R) := by
        rw [List.append_assoc]
        exact pm.append_left l
      have hlen : (R.eraseIdx d.toNat).length + 1 = R.length := by
        have := pm.length_eq
        simpa using this
      refine ⟨?_, l ++ [c], R.eraseIdx d.toNat, o2, _, ⟨toS_app l c, rfl⟩, by rw [upd_ne npb, upd_same], ho2, map_erase chV R _, ?_, by simp [hl], by omega, ?_, ?_⟩
      · rw [toS_len]
        show l.length + 1 ≤ sizeLine
        have : sizeLine = 16777216 := PySem.sizeLine_eq
        omega
      · exact (kp.set hb' (.inl (by simp))).set hp2 (.inr hp)
      · exact e1.nodup_iff.mpr nd
      · exact fun x hx => az x (e1.mem_iff.mp hx)
    · rintro σ H' ⟨l, R, o', v, rfl, hb', ho', hp', kp, hl, hR, nd, az⟩
      simp! [hp']
      exact k (toS l) o' H' ⟨by rw [toS_len]; omega, by rw [toS_len]; omega, fun c hc => az c (List.mem_append_left _ (by simpa [toS] using hc)), by simpa [toS] using (List.nodup_append.mp nd).1⟩ ho' hb' kp
end
theorem upd_swap {H : Hp} {a b : Addr} {x y : HO} (h : a ≠ b) : upd (upd H a x) b y = upd (upd H b y) a x := by
  funext c
  by_cases h1 : c = a
  · subst h1; rw [upd_ne h, upd_same, upd_same]
  · by_cases h2 : c = b
    · subst h2; rw [upd_same, upd_ne h1, upd_same]
    · rw [upd_ne h2, upd_ne h1, upd_ne h1, upd_ne h2]
theorem comp_box {lo : Int} {n : Nat} {D b : Addr} {te : TE} {E : Ends} {r : L2.St} {H : Hp} {o0 : HO} (P : V → Prop) (hb : H b = some o0) (ho0 : BoxO o0) (hD : H D = none) (hz : n ≤ sizeLine)
    (he : ∀ x H' o Q, H' b = some o → BoxO o → (∀ v o', P v → BoxO o' → Q v (upd H' b o')) → te (some x :: r) H' Q)
    (hn : ∀ v xs o', xs.length = n → (∀ x ∈ xs, P x) → BoxO o' → E.nx (v :: r) (upd (upd H b o') D (.lst xs))) : LoopR (Itr lo n) (gName 0) (tEmit D te) E (none :: r) (upd H D (.lst [])) := by
  have nbD : b ≠ D := ne_of_none hb hD
  refine loop_range (fun i σ H' => ∃ (v : Option V) (xs : List V) (o' : HO), σ = v :: r ∧ xs.length = i ∧ (∀ x ∈ xs, P x) ∧ BoxO o' ∧ H' = upd (upd H b o') D (.lst xs)) ?_ ?_ ?_
  · refine ⟨none, [], o0, rfl, rfl, (fun x h => nomatch h), ho0, ?_⟩
    have : upd H b o0 = H := by
      funext c
      by_cases h : c = b
      · subst h; rw [upd_same, hb]
      · rw [upd_ne h]
    rw [this]
  · rintro i σ H' hi ⟨v, xs, o', rfl, hl, hP, ho', rfl⟩
    refine he _ _ o' _ (by rw [upd_ne nbD, upd_same]) ho' fun y o2 hy ho2 => ?_
    have e : upd (upd (upd H b o') D (.lst xs)) b o2 = upd (upd H b o2) D (.lst xs) := by rw [upd_swap nbD.symm, upd_upd]
    refine ⟨xs, by rw [e, upd_same]; rfl, by omega, _, xs ++ [y], o2, rfl, by simp [hl], fun x hx => ?_, ho2, by rw [e, upd_upd]⟩
    rcases List.mem_append.mp hx with h | h
    · exact hP x h
    · simp at h; subst h; exact hy
  · rintro σ H' ⟨v, xs, o', rfl, hl, hP, ho', rfl⟩
    exact hn v xs o' hl hP ho'
theorem _root_.L2.Kp.seq {S : List Addr} {K : PySem.W.Frag} {H H' : Hp} {a : Addr} {xs : List V} (e : Kp S H H') (n : a ∉ S) (h : SqL K H a xs) : SqL K H' a xs := by
  rcases h with (h | ⟨o, h⟩) | h
  · exact .inl (.inl (e.old _ _ h n))
  · exact .inl (.inr ⟨o, e.old _ _ h n⟩)
  · exact .inr h
def spLaw (K : PySem.W.Frag) : Sp := fun vs H Q _ => ∃ (a : Addr) (ns : List Int), vs = [.ref a] ∧ SqL K H a (ns.map V.int) ∧ ns.length ≤ 63 ∧ ∀ H', Q (.bl true) H'
def spRowAt : Sp := fun vs H Q _ => ∃ (b : Addr) (m : Int) (o : HO), vs = [.ref b, .int m] ∧ H b = some o ∧ BoxO o ∧ 1 ≤ m ∧ m ≤ 1000 ∧ ∀ d o' H', 0 ≤ d → d < m → BoxO o' → H' b = some o' → Kp [b] H H' → Q (.int d) H'
theorem BoxO.lst {o : HO} (h : BoxO o) : ∃ xs, o = .lst xs := by obtain ⟨c, s, e, _⟩ := h; exact ⟨_, e⟩
section
variable {P : Program} {w : World} {K : PySem.W.Frag} {mg : Str → Option Value} {base : Heap}
structure TRow (mg : Str → Option Value) (ft : Addr) : Prop where
  m__law_take : mg "_law_take" = some (.ref ft)
abbrev s__law_row_at : Stmt := top 12
theorem sc__law_row_at : FnScope ["_law_box_here", "_law_k"] ["_law_box_here", "_law_k"] (defScope s__law_row_at) := ⟨rfl, rfl, rfl, by decide +kernel, rfl, by decide +kernel, by decide +kernel⟩
theorem ok__law_row_at {f ft : Addr} {fd fdt : FuncData} (F : Fun K "_law_row_at" "_law_row_at" s__law_row_at f fd) (T : TRow mg ft) (F__law_take : Fun K "_law_take" "_law_take" s__law_take ft fdt) (b__law_take : Binds K fdt ["_law_box_here", "_law_wide"] [])
    (G__law_take : FnOk P w K mg base CX0 1 ft fdt ["_law_box_here", "_law_wide"] spTake) : FnOk P w K mg base CX0 2 f fd ["_law_box_here", "_law_k"] spRowAt := by
  refine F.ok sc__law_row_at (fun vs H Q E h => ?_) (fun cdv A outer s H vs Q E hr h => ?_)
  · obtain ⟨b, m, o, rfl, _⟩ := h
    rfl
  · obtain ⟨b, m, o, rfl, hb, ho, m1, m2, k⟩ := h
    refine ⟨_, (QSs.h (qpss_one (qps_ret (qpe_ix ix_U (qpe_lst (qpa_cons (qpe_op op_sub (qpv 1) qpe_int) (qpa_cons (qpe_call G__law_take (hr.mono (by decide)) rfl T.m__law_take F__law_take.kp b__law_take .nil pass0 (qpa_cons (qpv 0) (qpa_cons (qpv 1) qpa_nil))) qpa_nil))) (qpe_call G__law_take (hr.mono (by decide)) rfl T.m__law_take F__law_take.kp b__law_take .nil pass0 (qpa_cons (qpv 0) (qpa_cons qpe_int qpa_nil))) (fun _ _ => rfl))))), ?_⟩
    have hsz : sizeLine = 16777216 := PySem.sizeLine_eq
    simp!
    refine ⟨b, m, o, rfl, hb, ho, by omega, by omega, fun d o1 d0 d1 ho1 => ?_⟩
    refine ⟨by omega, fun p hp => ?_⟩
    have nbp : b ≠ p := ne_of_none upd_same hp
    obtain ⟨xs0, rfl⟩ := ho.lst
    obtain ⟨xs1, rfl⟩ := id ho1.lst
    refine ⟨b, 2, _, rfl, by rw [upd_ne nbp, upd_same], ho1, by omega, by omega, fun e o2 e0 e1 ho2 => ?_⟩
    have hp2 : upd (upd (upd H b (.lst xs1)) p (.lst [V.int (m - 1), V.int d])) b o2 p = some (.lst [V.int (m - 1), V.int d]) := by rw [upd_ne nbp.symm, upd_same]
    simp! [hp2]
    have kp : Kp [b] H (upd (upd (upd H b (.lst xs1)) p (.lst [V.int (m - 1), V.int d])) b o2) := ((((Kp.refl [b] H).set hb (.inl (by simp))).new hp).set (by rw [upd_ne nbp, upd_same]) (.inl (by simp)))
    have : e = 0 ∨ e = 1 := by omega
    rcases this with rfl | rfl
    · exact ⟨_, atI_0 _ _, k _ o2 _ (by omega) (by omega) ho2 upd_same kp⟩
    · exact ⟨_, atI_1 _ _ _, k _ o2 _ d0 d1 ho2 upd_same kp⟩
end
def lowS (z : Str) : Prop := ∀ c ∈ sg z, c ≤ 122
theorem lowS.app {x y : Str} (h1 : lowS x) (h2 : lowS y) : lowS (x ++ y) := fun c hc => by
  rw [sg_app] at hc
  rcases List.mem_append.mp hc with h | h
  · exact h1 c h
  · exact h2 c h
theorem lowS.one {c : Nat} (h : c ≤ 122) : lowS ⟨#[c]⟩ := fun d hd => by
  have : d = c := by simpa [sg] using hd
  rw [this]; exact h
theorem lowS.join {l : List Str} (h : ∀ z ∈ l, lowS z) : lowS (Txt.join (Str.ofString "") l) := fun c hc => by
  rw [joinT] at hc
  obtain ⟨m, hm, hc⟩ := List.mem_flatten.mp hc
  obtain ⟨z, hz, rfl⟩ := List.mem_map.mp hm
  exact h z hz c hc
theorem ones_low : ∀ {xs : List V}, (∀ x ∈ xs, ∃ c : Nat, x = .str ⟨#[c]⟩ ∧ c ≤ 122) → ∃ ys : List Str, xs = ys.map V.str ∧ ys.length = xs.length ∧ ∀ y ∈ ys, y.length = 1 ∧ lowS y
  | [], _ => ⟨[], rfl, rfl, fun _ h => nomatch h⟩
  | x :: xs, h => by
    obtain ⟨c, rfl, hc⟩ := h x (.head _)
    obtain ⟨ys, rfl, hl, hy⟩ := ones_low fun y hy => h y (.tail _ hy)
    refine ⟨⟨#[c]⟩ :: ys, rfl, by simp, fun y hy' => ?_⟩
    rcases List.mem_cons.mp hy' with rfl | h
    · exact ⟨rfl, lowS.one hc⟩
    · exact hy y h
def NmOk (z : Str) : Prop := z.length ≤ 3 ∧ lowS z
def spPN : Sp := fun vs H Q _ => ∃ (b : Addr) (m : Nat) (o : HO), vs = [.ref b, .int (m : Int)] ∧ H b = some o ∧ BoxO o ∧ 1 ≤ m ∧ m ≤ 26 ∧
  ∀ (p : Addr) (zs : List Str) (o' : HO) (H' : Hp), zs.length = m → (∀ z ∈ zs, NmOk z) → H p = none → H' p = some (.lst (zs.map V.str)) → BoxO o' → H' b = some o' → Kp [b] H H' → Q (.ref p) H'
theorem sap_len (x y : Str) : (x ++ y).length = x.length + y.length := by simp [Str.length, Str.cps_append]
theorem join_ones2 (l : List Str) (h : ∀ a ∈ l, a.length = 1) : (Txt.join (Str.ofString "") l).length = l.length := PySem.W.KT.join_ones l h
theorem cutV_strs (ys : List Str) (lo hi : Option Int) : cutV (ys.map V.str) lo hi = ((ys.drop (HT.sIx ys.length 0 lo)).take (HT.sIx ys.length ys.length hi - HT.sIx ys.length 0 lo)).map V.str := by
  simp only [cutV, List.length_map, List.map_take, List.map_drop]
def JN (H : Hp) (b D c : Addr) (m n : Nat) (sp fi : Int) (i ch : Nat) (v4 : Option V) (ys zs : List Str) : L2.St → Hp → Prop := fun σ H5 => ∃ (nm : Str) (o' : HO),
  σ = [some (.ref b), some (.int (m : Int)), some (.str "abcdefghijklmnopqrstuvwxyz"), some (.int (1 + (n : Int))), some (.ref D), some (.int sp), some (.int fi), some (.ref c), some (.int (0 + (i : Int))), some (.str ⟨#[ch]⟩), some (.str nm), v4] ∧
  (nm.length ≤ 3 ∧ lowS nm) ∧ BoxO o' ∧ H5 b = some o' ∧ H5 c = some (.lst (zs.map V.str)) ∧ H5 D = some (.lst (ys.map V.str)) ∧ Kp [b] H H5
structure TPN (mg : Str → Option Value) (ft : Addr) : Prop where
  n_range : mg "range" = none
  m__law_take : mg "_law_take" = some (.ref ft)
section
variable {P : Program} {w : World} {K : PySem.W.Frag} {mg : Str → Option Value} {base : Heap}
abbrev s__law_place_names : Stmt := top 13
theorem sc__law_place_names : FnScope ["_law_box_here", "_law_many", "_law_letters_here", "_law_size", "_law_signs", "_law_spot", "_law_first", "_law_found", "_law_k", "_law_one", "_law_name", "_law_odd"] ["_law_box_here", "_law_many"] (defScope s__law_place_names) := ⟨rfl, rfl, rfl, by decide +kernel, rfl, by decide +kernel, by decide +kernel⟩
theorem ok__law_place_names {f ft : Addr} {fd fdt : FuncData} (F : Fun K "_law_place_names" "_law_place_names" s__law_place_names f fd) (T : TPN mg ft) (F__law_take : Fun K "_law_take" "_law_take" s__law_take ft fdt) (b__law_take : Binds K fdt ["_law_box_here", "_law_wide"] [])
    (G__law_take : FnOk P w K mg base CX0 1 ft fdt ["_law_box_here", "_law_wide"] spTake) : FnOk P w K mg base CX0 2 f fd ["_law_box_here", "_law_many"] spPN := by
  refine F.ok sc__law_place_names (fun vs H Q E h => ?_) (fun cdv A outer s H vs Q E hr h => ?_)
  · obtain ⟨b, m, o, rfl, _⟩ := h
    rfl
  · obtain ⟨b, m, o, rfl, hb, ho, m1, m2, k⟩ := h
    have hu := hr.units
    refine ⟨_, (QSs.h (qpss_cons (qps_set (i := 2) sc__law_place_names.nd rfl (by first | exact Or.inl rfl | exact Or.inr rfl) qpe_str)
    (qpss_cons (qps_set (i := 3) sc__law_place_names.nd rfl (by first | exact Or.inl rfl | exact Or.inr rfl) (qpe_op op_addW qpe_int (qpe_call G__law_take (hr.mono (by decide)) rfl T.m__law_take F__law_take.kp b__law_take .nil pass0 (qpa_cons (qpv 0) (qpa_cons qpe_int qpa_nil)))))
    (qpss_cons (qps_setc (i := 4) sc__law_place_names.nd rfl (by first | exact Or.inl rfl | exact Or.inr rfl) rfl (compOk_of (sc := defScope s__law_place_names) (N := ["_law_box_here", "_law_many", "_law_letters_here", "_law_size", "_law_signs", "_law_spot", "_law_first", "_law_found", "_law_k", "_law_one", "_law_name", "_law_odd"]) (Nc := ["_law_k", "_law_letters_here", "_law_box_here"]) (js := [none, some 2, some 0]) (by decide +kernel)) (qpi_range1 rfl T.n_range (qpa_cons (qpv 3) qpa_nil)) (fun _ _ _ _ => (qpg_name (i := 0) (show List.Nodup [("_law_k" : Str), ("_law_letters_here" : Str), ("_law_box_here" : Str)] from by decide +kernel) rfl (by first | exact Or.inl rfl | exact Or.inr rfl))) (fun _ _ _ _ => (qpe_ix ix_U (qpv 1) (qpe_call G__law_take (hr.mono (by decide)) rfl T.m__law_take F__law_take.kp b__law_take .nil pass0 (qpa_cons (qpv 2) (qpa_cons qpe_int qpa_nil))) (fun _ _ => rfl))))
    (qpss_cons (qps_set (i := 5) sc__law_place_names.nd rfl (by first | exact Or.inl rfl | exact Or.inr rfl) (qpe_call G__law_take (hr.mono (by decide)) rfl T.m__law_take F__law_take.kp b__law_take .nil pass0 (qpa_cons (qpv 0) (qpa_cons (qpv 3) qpa_nil))))
    (qpss_cons (qps_set (i := 6) sc__law_place_names.nd rfl (by first | exact Or.inl rfl | exact Or.inr rfl) (qpe_call G__law_take (hr.mono (by decide)) rfl T.m__law_take F__law_take.kp b__law_take .nil pass0 (qpa_cons (qpv 0) (qpa_cons qpe_int qpa_nil))))
    (qpss_cons (qps_set (i := 7) sc__law_place_names.nd rfl (by first | exact Or.inl rfl | exact Or.inr rfl) (qpe_lst qpa_nil))
    (qpss_cons (qps_for PassesOwn.never rfl (qpi_range1 rfl T.n_range (qpa_cons (qpv 1) qpa_nil)) (qpg_name (i := 8) sc__law_place_names.nd rfl (by first | exact Or.inl rfl | exact Or.inr rfl)) (qpss_cons (qps_set (i := 9) sc__law_place_names.nd rfl (by first | exact Or.inl rfl | exact Or.inr rfl) (qpe_ix ix_U (qpv 2) (qpe_op op_mod (qpe_op op_addW (qpv 6) (qpe_op op_mulW qpe_int (qpv 8))) qpe_int) (fun _ _ => rfl)))
    (qpss_cons (qps_set (i := 10) sc__law_place_names.nd rfl (by first | exact Or.inl rfl | exact Or.inr rfl) (qpe_op op_addW (qpe_op op_addW (qpe_bmS PySem.F.slot_str_join PySem.F.type_str_join mt_joinU qpe_str (qpa_cons (qpe_slice (sl_UK (K := K) rfl) (qpv 4) qpo_none (qpo_some (qpv 5))) qpa_nil) mono_c) (qpv 9)) (qpe_bmS PySem.F.slot_str_join PySem.F.type_str_join mt_joinU qpe_str (qpa_cons (qpe_slice (sl_UK (K := K) rfl) (qpv 4) (qpo_some (qpe_op op_addW (qpv 5) qpe_int)) qpo_none) qpa_nil) mono_c)))
    (qpss_mid (qps_if (QW.pt (qpw_and (qpt_cmpR (op_eqU hu) (qpe_op op_mod (qpv 8) qpe_int) qpe_int (nomark _)) (qpw_and (qpt_cmpR op_ltU (qpv 3) qpe_int (nomark _)) (qpw_and1 (qpt_cmpR (op_eqU hu) (qpe_call G__law_take (hr.mono (by decide)) rfl T.m__law_take F__law_take.kp b__law_take .nil pass0 (qpa_cons (qpv 0) (qpa_cons qpe_int qpa_nil))) qpe_int (nomark _)))))) (qpss_one (qps_set (i := 10) sc__law_place_names.nd rfl (by first | exact Or.inl rfl | exact Or.inr rfl) (qpe_op op_addW (qpv 10) qpe_str))) qpss_nil)
    (qpss_mid (qps_if (qpt_cmpR (op_inU (K := K) rfl) (qpv 10) (qpe_tup (qpa_cons qpe_str (qpa_cons qpe_str (qpa_cons qpe_str (qpa_cons qpe_str (qpa_cons qpe_str qpa_nil)))))) (by with_unfolding_all rfl)) (qpss_one (qps_set (i := 10) sc__law_place_names.nd rfl (by first | exact Or.inl rfl | exact Or.inr rfl) (qpe_op op_addW qpe_str (qpv 9)))) qpss_nil)
    (qpss_one (qps_expr (qpe_bmL PySem.F.slot_list_append PySem.F.type_list_append mt_appendU (qpv 7) (qpa_cons (qpv 10) qpa_nil) mono_var))))))))
    (qpss_mid (qps_if (qpt_cmpR (op_eqU hu) (qpe_call G__law_take (hr.mono (by decide)) rfl T.m__law_take F__law_take.kp b__law_take .nil pass0 (qpa_cons (qpv 0) (qpa_cons qpe_int qpa_nil))) qpe_int (nomark _)) (qpss_cons (qps_set (i := 11) sc__law_place_names.nd rfl (by first | exact Or.inl rfl | exact Or.inr rfl) (qpe_ix ix_U (qpe_lst (qpa_cons qpe_str (qpa_cons qpe_str (qpa_cons qpe_str (qpa_cons qpe_str (qpa_cons qpe_str (qpa_cons qpe_str (qpa_cons qpe_str (qpa_cons qpe_str qpa_nil))))))))) (qpe_call G__law_take (hr.mono (by decide)) rfl T.m__law_take F__law_take.kp b__law_take .nil pass0 (qpa_cons (qpv 0) (qpa_cons qpe_int qpa_nil))) (fun _ _ => rfl)))
    (qpss_one (qps_if (qpt_cmpR (op_notinU (K := K) rfl) (qpv 11) (qpv 7) (by with_unfolding_all rfl)) (qpss_one (qps_asg (qpv 11) (qpg_sub (qpv 7) (qpe_call G__law_take (hr.mono (by decide)) rfl T.m__law_take F__law_take.kp b__law_take .nil pass0 (qpa_cons (qpv 0) (qpa_cons (qpv 1) qpa_nil))) set_U))) qpss_nil))) qpss_nil)
    (qpss_one (qps_ret (qpv 7)))))))))))), ?_⟩
    have hsz : sizeLine = 16777216 := PySem.sizeLine_eq
    have la : (Str.ofString "abcdefghijklmnopqrstuvwxyz").length = 26 := by decide +kernel
    have l26 : (Str.ofString "abcdefghijklmnopqrstuvwxyz").cps.toList.length = 26 := by simpa [Str.length] using la
    have lq : (Str.ofString "q").length = 1 := by decide +kernel
    have hlq : lowS (Str.ofString "q") := by unfold lowS; decide +kernel
    have hlqq : lowS (Str.ofString "qq") := by unfold lowS; decide +kernel
    have hab : ∀ c ∈ (Str.ofString "abcdefghijklmnopqrstuvwxyz").cps.toList, c ≤ 122 := by decide +kernel
    have lqq : (Str.ofString "qq").length = 2 := by decide +kernel
    simp!
    refine ⟨b, 3, o, rfl, hb, ho, by omega, by omega, fun d o1 d0 d1 ho1 => ?_⟩
    obtain ⟨n, rfl⟩ : ∃ n : Nat, d = (n : Int) := ⟨d.toNat, by omega⟩
    have en : (1 + (n : Int)).toNat = n + 1 := by omega
    obtain ⟨xs0, rfl⟩ := ho.lst
    obtain ⟨xs1, rfl⟩ := id ho1.lst
    refine ⟨_, rfl, by omega, by omega, fun D hD => ?_⟩
    rw [en]
    have nbD : b ≠ D := ne_of_none upd_same hD
    have hD0 : H D = none := by rw [upd_ne nbD.symm] at hD; exact hD
    refine comp_box (fun x => ∃ c : Nat, x = .str ⟨#[c]⟩ ∧ c ≤ 122) upd_same ho1 hD (by omega) (fun x H' o' Q' hb' ho' hq => ?_) fun v xs o2 hl hP ho2 => ?_
    · simp!
      refine ⟨b, 26, _, rfl, hb', ho', by omega, by omega, fun e o5 e0 e1 ho5 => ?_⟩
      simp!
      refine ⟨by omega, (Str.ofString "abcdefghijklmnopqrstuvwxyz").cps.toList[e.toNat]'(by omega), atI_of e0 (by simp), hq _ _ ⟨_, rfl, hab _ (List.getElem_mem _)⟩ ho5⟩
    obtain ⟨ys, rfl, hy1, hy2'⟩ := ones_low hP
    have hy2 : ∀ y ∈ ys, y.length = 1 := fun y hy => (hy2' y hy).1
    rw [List.length_map] at hl
    obtain ⟨xs2, rfl⟩ := id ho2.lst
    have f1 : upd (upd (upd H b (.lst xs1)) b (.lst xs2)) D (.lst (ys.map V.str)) b = some (.lst xs2) := by rw [upd_ne nbD, upd_same]
    have f2 : upd (upd (upd H b (.lst xs1)) b (.lst xs2)) D (.lst (ys.map V.str)) D = some (.lst (ys.map V.str)) := upd_same
    have f3 : Kp [b] H (upd (upd (upd H b (.lst xs1)) b (.lst xs2)) D (.lst (ys.map V.str))) := (((Kp.refl [b] H).set hb (.inl (by simp))).set upd_same (.inl (by simp))).new (by rw [upd_ne nbD.symm]; exact hD)
    revert f1 f2 f3
    generalize upd (upd (upd H b (.lst xs1)) b (.lst xs2)) D (.lst (ys.map V.str)) = H2
    intro f1 f2 f3
    refine ⟨b, _, _, rfl, f1, ho2, by omega, by omega, fun sp o3 sp0 sp1 ho3 => ?_⟩
    obtain ⟨xs3, rfl⟩ := id ho3.lst
    refine ⟨b, _, _, rfl, upd_same, ho3, by omega, by omega, fun fi o4 fi0 fi1 ho4 => ?_⟩
    obtain ⟨xs4, rfl⟩ := id ho4.lst
    refine ⟨by omega, fun c hc => ?_⟩
    rw [upd_upd] at hc ⊢
    have g1 : upd H2 b (.lst xs4) D = some (.lst (ys.map V.str)) := by rw [upd_ne nbD.symm]; exact f2
    have g3 : Kp [b] H (upd H2 b (.lst xs4)) := f3.set f1 (.inl (by simp))
    have nbc : b ≠ c := ne_of_none upd_same hc
    have nDc : D ≠ c := ne_of_none g1 hc
    have hc0 : H c = none := g3.free hc
    refine ⟨by omega, by omega, ?_⟩
    rw [Int.toNat_natCast]
    refine loop_range (fun i σ H' => ∃ (zs : List Str) (o' : HO) (v1 v2 v3 v4 : Option V), σ = [some (.ref b), some (.int (m : Int)), some (.str "abcdefghijklmnopqrstuvwxyz"), some (.int (1 + (n : Int))), some (.ref D), some (.int sp), some (.int fi), some (.ref c), v1, v2, v3, v4] ∧
      zs.length = i ∧ (∀ z ∈ zs, NmOk z) ∧ H' c = some (.lst (zs.map V.str)) ∧ BoxO o' ∧ H' b = some o' ∧ H' D = some (.lst (ys.map V.str)) ∧ Kp [b] H H') ?_ ?_ ?_
    · exact ⟨[], _, none, none, none, none, rfl, rfl, (fun _ h => nomatch h), upd_same, ho4, by rw [upd_ne nbc, upd_same], by rw [upd_ne nDc]; exact g1, g3.new hc⟩
    · rintro i σ H' hi ⟨zs, o', v1, v2, v3, v4, rfl, hz1, hz2, hc', ho', hb', hD', kp⟩
      simp!
      have q0 := Int.emod_nonneg (fi + 5 * (0 + (i : Int))) (show (26 : Int) ≠ 0 by decide)
      have q1 := Int.emod_lt_of_pos (fi + 5 * (0 + (i : Int))) (show (0 : Int) < 26 by decide)
      refine ⟨.inl ⟨by omega, by omega⟩, by decide, by omega, (Str.ofString "abcdefghijklmnopqrstuvwxyz").cps.toList[((fi + 5 * (0 + (i : Int))) % 26).toNat]'(by omega), atI_of q0 (by simp), ?_⟩
      have hch : (Str.ofString "abcdefghijklmnopqrstuvwxyz").cps.toList[((fi + 5 * (0 + (i : Int))) % 26).toNat]'(by omega) ≤ 122 := hab _ (List.getElem_mem _)
      generalize (Str.ofString "abcdefghijklmnopqrstuvwxyz").cps.toList[((fi + 5 * (0 + (i : Int))) % 26).toNat]'(by omega) = ch at hch
      have lch : (⟨#[ch]⟩ : Str).length = 1 := rfl
      refine rSlU.lst hD' fun s1 hs1 => ?_
      rw [cutV_strs]
      have a1 : HT.sIx ys.length 0 none = 0 := rfl
      have a2 : HT.sIx ys.length ys.length (some sp) = sp.toNat := by simp only [HT.sIx]; split <;> omega
      have a3 : HT.sIx ys.length 0 (some (sp + 1)) = sp.toNat + 1 := by simp only [HT.sIx]; split <;> omega
      have a4 : HT.sIx ys.length ys.length none = ys.length := rfl
      generalize hL1 : (ys.drop (HT.sIx ys.length 0 none)).take (HT.sIx ys.length ys.length (some sp) - HT.sIx ys.length 0 none) = La
      have l1 : La.length = sp.toNat := by rw [← hL1, a1, a2, List.length_take, List.length_drop]; omega
      have o1 : ∀ z ∈ La, z.length = 1 := fun z hz => by rw [← hL1] at hz; exact hy2 z (List.mem_of_mem_drop (List.mem_of_mem_take hz))
      have sm : ∀ L : List Str, (∀ z ∈ L, z.length = 1) → (L.map (·.length)).sum = L.length := by
        intro L
        induction L with
        | nil => intro _; rfl
        | cons y L ih => intro h; simp [h y (.head _), ih fun z hz => h z (.tail _ hz)]; omega
      refine ⟨La, upd_same, by rw [sm La o1]; show La.length + La.length * 0 ≤ _; omega, ?_⟩
      have j1 := join_ones2 La o1
      have w1 : lowS (Txt.join (Str.ofString "") La) := lowS.join fun z hz => by rw [← hL1] at hz; exact (hy2' z (List.mem_of_mem_drop (List.mem_of_mem_take hz))).2
      generalize Txt.join (Str.ofString "") La = t1 at j1 w1 ⊢
      simp!
      refine ⟨by omega, ?_⟩
      have nDs : D ≠ s1 := ne_of_none hD' hs1
      have hD2 : ∀ o, upd H' s1 o D = some (.lst (ys.map V.str)) := fun o => by rw [upd_ne nDs]; exact hD'
      refine rSlU.lst (hD2 _) fun s2 hs2 => ?_
      rw [cutV_strs]
      generalize hL2 : (ys.drop (HT.sIx ys.length 0 (some (sp + 1)))).take (HT.sIx ys.length ys.length none - HT.sIx ys.length 0 (some (sp + 1))) = Lb
      have l2 : Lb.length = n - sp.toNat := by rw [← hL2, a3, a4, List.length_take, List.length_drop]; omega
      have o2 : ∀ z ∈ Lb, z.length = 1 := fun z hz => by rw [← hL2] at hz; exact hy2 z (List.mem_of_mem_drop (List.mem_of_mem_take hz))
      refine ⟨Lb, upd_same, by rw [sm Lb o2]; show Lb.length + Lb.length * 0 ≤ _; omega, ?_⟩
      have j2 := join_ones2 Lb o2
      have w2 : lowS (Txt.join (Str.ofString "") Lb) := lowS.join fun z hz => by rw [← hL2] at hz; exact (hy2' z (List.mem_of_mem_drop (List.mem_of_mem_take hz))).2
      generalize Txt.join (Str.ofString "") Lb = t2 at j2 w2 ⊢
      simp!
      refine ⟨by rw [sap_len]; omega, ?_⟩
      have lnm : (t1 ++ (⟨#[ch]⟩ : Str) ++ t2).length = n + 1 := by rw [sap_len, sap_len]; omega
      have wnm : lowS (t1 ++ (⟨#[ch]⟩ : Str) ++ t2) := (w1.app (lowS.one hch)).app w2
      generalize t1 ++ (⟨#[ch]⟩ : Str) ++ t2 = nm at lnm wnm ⊢
      have nbs1 : b ≠ s1 := ne_of_none hb' hs1
      have ncs1 : c ≠ s1 := ne_of_none hc' hs1
      have e1 : upd (upd H' s1 (.lst (La.map V.str))) s2 (.lst (Lb.map V.str)) b = some o' := by rw [upd_ne (ne_of_none (by rw [upd_ne nbs1]; exact hb') hs2), upd_ne nbs1]; exact hb'
      have e2 : upd (upd H' s1 (.lst (La.map V.str))) s2 (.lst (Lb.map V.str)) c = some (.lst (zs.map V.str)) := by rw [upd_ne (ne_of_none (by rw [upd_ne ncs1]; exact hc') hs2), upd_ne ncs1]; exact hc'
      have e3 : upd (upd H' s1 (.lst (La.map V.str))) s2 (.lst (Lb.map V.str)) D = some (.lst (ys.map V.str)) := by rw [upd_ne (ne_of_none (hD2 _) hs2)]; exact hD2 _
      have e4 : Kp [b] H (upd (upd H' s1 (.lst (La.map V.str))) s2 (.lst (Lb.map V.str))) := (kp.new hs1).new hs2
      revert e1 e2 e3 e4
      generalize upd (upd H' s1 (.lst (La.map V.str))) s2 (.lst (Lb.map V.str)) = H5
      intro e1 e2 e3 e4
      refine ⟨JN H b D c m n sp fi i ch v4 ys zs, ?_, ?_⟩
      · simp!
        refine ⟨by decide, ite2 (fun h1 => ite2 (fun h2 => ?_) (fun h2 => ?_)) (fun h1 => ?_)⟩
        · refine ⟨b, _, _, rfl, e1, ho', by omega, by omega, fun d9 o9 d90 d91 ho9 => ?_⟩
          obtain ⟨xs9, rfl⟩ := id ho9.lst
          obtain ⟨xs8, rfl⟩ := id ho'.lst
          simp!
          have k9 := e4.set (o := .lst xs9) e1 (.inl (by simp))
          have c9 : upd H5 b (.lst xs9) c = some (.lst (zs.map V.str)) := by rw [upd_ne nbc.symm]; exact e2
          have D9 : upd H5 b (.lst xs9) D = some (.lst (ys.map V.str)) := by rw [upd_ne nbD.symm]; exact e3
          refine ite2 (fun h3 => ?_) (fun h3 => ?_)
          · exact ⟨by omega, _, _, rfl, ⟨by rw [sap_len]; omega, wnm.app hlq⟩, ho9, upd_same, c9, D9, k9⟩
          · exact ⟨_, _, rfl, ⟨by omega, wnm⟩, ho9, upd_same, c9, D9, k9⟩
        · exact ⟨_, _, rfl, ⟨by omega, wnm⟩, ho', e1, e2, e3, e4⟩
        · exact ⟨_, _, rfl, ⟨by omega, wnm⟩, ho', e1, e2, e3, e4⟩
      · rintro σ6 H6 ⟨nm, o6, rfl, hn6, ho6, hb6, hc6, hD6, kp6⟩
        refine ⟨JN H b D c m n sp fi i ch v4 ys zs, ?_, ?_⟩
        · simp!
          refine ⟨by omega, fun p9 hp9 => rInU.tupS (SqT.of upd_same) rfl (by decide) ⟨_, rfl, ?_⟩⟩
          have k9 := kp6.new (o := .tup [V.str (Str.ofString "yes"), V.str (Str.ofString "is"), V.str (Str.ofString "not"), V.str (Str.ofString "and"), V.str (Str.ofString "or")]) hp9
          have b9 := upd_ne (H := H6) (o := .tup [V.str (Str.ofString "yes"), V.str (Str.ofString "is"), V.str (Str.ofString "not"), V.str (Str.ofString "and"), V.str (Str.ofString "or")]) (ne_of_none hb6 hp9)
          have c9 := upd_ne (H := H6) (o := .tup [V.str (Str.ofString "yes"), V.str (Str.ofString "is"), V.str (Str.ofString "not"), V.str (Str.ofString "and"), V.str (Str.ofString "or")]) (ne_of_none hc6 hp9)
          have D9 := upd_ne (H := H6) (o := .tup [V.str (Str.ofString "yes"), V.str (Str.ofString "is"), V.str (Str.ofString "not"), V.str (Str.ofString "and"), V.str (Str.ofString "or")]) (ne_of_none hD6 hp9)
          refine ite2 (fun h3 => ?_) (fun h3 => ?_)
          · exact ⟨by omega, _, _, rfl, ⟨by rw [sap_len]; omega, hlqq.app (lowS.one hch)⟩, ho6, b9.trans hb6, c9.trans hc6, D9.trans hD6, k9⟩
          · exact ⟨_, _, rfl, hn6, ho6, b9.trans hb6, c9.trans hc6, D9.trans hD6, k9⟩
        · rintro σ7 H7 ⟨nm, o7, rfl, hn7, ho7, hb7, hc7, hD7, kp7⟩
          simp! [hc7]
          refine ⟨by rw [List.length_map]; omega, zs ++ [nm], o7, _, _, _, _, ⟨rfl, rfl, rfl, rfl⟩, by simp [hz1], fun z hz => ?_, by simp, ho7, by rw [upd_ne nbc]; exact hb7, by rw [upd_ne nDc]; exact hD7, kp7.set hc7 (.inr hc0)⟩
          rcases List.mem_append.mp hz with h | h
          · exact hz2 z h
          · rw [List.mem_singleton.mp h]; exact hn7
    · rintro σ H' ⟨zs, o', v1, v2, v3, v4, rfl, hz1, hz2, hc', ho', hb', hD', kp⟩
      simp!
      refine ⟨fun σ H9 => σ[7]? = some (some (.ref c)) ∧ ∃ (zs : List Str) (o' : HO), zs.length = m ∧ (∀ z ∈ zs, NmOk z) ∧ H9 c = some (.lst (zs.map V.str)) ∧ BoxO o' ∧ H9 b = some o' ∧ Kp [b] H H9, ?_, ?_⟩
      · simp!
        refine ⟨b, _, _, rfl, hb', ho', by omega, by omega, fun d9 o9 d90 d91 ho9 => ?_⟩
        obtain ⟨xs9, rfl⟩ := id ho9.lst
        obtain ⟨xs8, rfl⟩ := id ho'.lst
        simp!
        have k9 := kp.set (o := .lst xs9) hb' (.inl (by simp))
        have c9 : upd H' b (.lst xs9) c = some (.lst (zs.map V.str)) := by rw [upd_ne nbc.symm]; exact hc'
        refine ite2 (fun h3 => ?_) (fun h3 => ?_)
        · refine ⟨by omega, fun p2 hp2 => ?_⟩
          have nb2 : b ≠ p2 := ne_of_none upd_same hp2
          have nc2 : c ≠ p2 := ne_of_none c9 hp2
          refine ⟨b, _, _, rfl, by rw [upd_ne nb2, upd_same], ho9, by omega, by omega, fun d8 o8 d80 d81 ho8 => ?_⟩
          obtain ⟨xs7, rfl⟩ := id ho8.lst
          have odd : ∃ od : Str, ([V.str (Str.ofString "som"), V.str (Str.ofString "eac"), V.str (Str.ofString "no"), V.str (Str.ofString "an"), V.str (Str.ofString "ors"), V.str (Str.ofString "iss"), V.str (Str.ofString "so"), V.str (Str.ofString "ye")] : List V)[d8.toNat]? = some (.str od) ∧ NmOk od := by
            have hn : d8.toNat < 8 := by omega
            generalize d8.toNat = e at hn
            have : e = 0 ∨ e = 1 ∨ e = 2 ∨ e = 3 ∨ e = 4 ∨ e = 5 ∨ e = 6 ∨ e = 7 := by omega
            rcases this with rfl | rfl | rfl | rfl | rfl | rfl | rfl | rfl <;> exact ⟨_, rfl, by unfold NmOk lowS; decide +kernel⟩
          obtain ⟨od, hod, lod⟩ := odd
          have p8 : ∀ o, upd (upd (upd H' b (.lst xs9)) p2 o) b (.lst xs7) p2 = some o := fun o => by rw [upd_ne nb2.symm, upd_same]
          simp! [p8]
          refine ⟨_, atI_of d80 hod, ?_⟩
          have c8 : ∀ o, upd (upd (upd H' b (.lst xs9)) p2 o) b (.lst xs7) c = some (.lst (zs.map V.str)) := fun o => by rw [upd_ne nbc.symm, upd_ne nc2]; exact c9
          have k8 : ∀ o, Kp [b] H (upd (upd (upd H' b (.lst xs9)) p2 o) b (.lst xs7)) := fun o => (k9.new hp2).set (by rw [upd_ne nb2, upd_same]) (.inl (by simp))
          refine rInU.lst (c8 _) rfl (by simp [List.all_map]; intro z _; rfl) ⟨_, rfl, ?_⟩
          refine ite2 (fun h4 => ?_) (fun h4 => ?_)
          · refine ⟨b, _, _, rfl, upd_same, ho8, by omega, by omega, fun d7 o7 d70 d71 ho7 => ?_⟩
            obtain ⟨xs6, rfl⟩ := id ho7.lst
            have c7 : ∀ o, upd (upd (upd (upd H' b (.lst xs9)) p2 o) b (.lst xs7)) b (.lst xs6) c = some (.lst (zs.map V.str)) := fun o => by rw [upd_ne nbc.symm]; exact c8 o
            simp! [c7]
            have c6 : ∀ o, upd (upd (upd H' b (.lst xs9)) p2 o) b (.lst xs6) c = some (.lst (zs.map V.str)) := fun o => by rw [upd_ne nbc.symm, upd_ne nc2]; exact c9
            have k6 : ∀ o, Kp [b] H (upd (upd (upd H' b (.lst xs9)) p2 o) b (.lst xs6)) := fun o => (k9.new hp2).set (by rw [upd_ne nb2, upd_same]) (.inl (by simp))
            refine ⟨_, by rw [c6]; rfl, d7.toNat, by unfold ixN; rw [if_pos d70, if_pos (by rw [List.length_map]; omega)], zs.set d7.toNat od, by simp [hz1], fun z hz => ?_, by rw [List.map_set], _, ho7, by rw [upd_ne nbc, upd_same], (k6 _).set (c6 _) (.inr hc0)⟩
            rcases List.mem_or_eq_of_mem_set hz with h | h
            · exact hz2 z h
            · rw [h]; exact lod
          · exact ⟨zs, hz1, hz2, c8 _, _, ho8, upd_same, k8 _⟩
        · exact ⟨zs, hz1, hz2, c9, _, ho9, rfl, k9⟩
      · rintro σ H9 ⟨e, zs, o', hz1, hz2, hc9, ho9, hb9, kp9⟩
        simp!
        exact ⟨_, e, k c zs o' H9 hz1 hz2 hc0 hc9 ho9 hb9 kp9⟩
end
inductive RS where
  | yes | is (x a : Str) | ahead (x y : Str) | no (i : Nat) | bin (b : Bool) (i j : Nat) | qn (b : Bool) (x : Str) (i : Nat)
def bw (b : Bool) : Str := if b then "and" else "or"
def qw (b : Bool) : Str := if b then "some" else "each"
def rowV : RS → List V
  | .yes => [.str "yes"]
  | .is x a => [.str "is", .str x, .str a]
  | .ahead x y => [.str "ahead", .str x, .str y]
  | .no i => [.str "not", .int (i : Int)]
  | .bin b i j => [.str (bw b), .int (i : Int), .int (j : Int)]
  | .qn b x i => [.str (qw b), .str x, .int (i : Int)]
def RS.ok (zs : List Str) (k : Nat) : RS → Prop
  | .yes => True
  | .is x _ => x ∈ zs
  | .ahead x y => x ∈ zs ∧ y ∈ zs
  | .no i => i < k
  | .bin _ i j => i < k ∧ j < k
  | .qn _ x i => x ∈ zs ∧ i < k
def okR (zs : List Str) (rs : List RS) : Prop := ∀ (k : Nat) (r : RS), rs[k]? = some r → r.ok zs k
theorem okR.snoc {zs : List Str} {rs : List RS} {r : RS} (h : okR zs rs) (hr : r.ok zs rs.length) : okR zs (rs ++ [r]) := fun k x e => by
  by_cases hk : k < rs.length
  · exact h k x (by rwa [List.getElem?_append_left hk] at e)
  · rw [List.getElem?_append_right (by omega)] at e
    have : k - rs.length = 0 := by
      cases hq : k - rs.length with
      | zero => rfl
      | succ n => rw [hq] at e; simp at e
    rw [this] at e
    simp at e
    subst e
    rw [show k = rs.length by omega]
    exact hr
theorem okR.take {zs : List Str} {rs : List RS} (h : okR zs rs) (m : Nat) : okR zs (rs.take m) := fun k x e => h k x (by
  rw [List.getElem?_take] at e
  split at e
  · exact e
  · cases e)
def RowsAt (H : Hp) (vs : List V) (rs : List RS) : Prop := Paired (fun v r => ∃ a, v = .ref a ∧ H a = some (.tup (rowV r))) vs rs
theorem RowsAt.kp {S : List Addr} {H H' : Hp} {vs : List V} {rs : List RS} (k : Kp S H H') (h : RowsAt H vs rs) : RowsAt H' vs rs := Paired.mapP h fun _ _ ⟨a, e, h⟩ => ⟨a, e, k.tup _ _ h⟩
theorem RowsAt.get : ∀ {H : Hp} {vs : List V} {rs : List RS} {k : Nat} {v : V}, RowsAt H vs rs → vs[k]? = some v → ∃ r a, rs[k]? = some r ∧ v = .ref a ∧ H a = some (.tup (rowV r))
  | H, _, _, k, v, .nil, e => by simp at e
  | H, _, _, 0, v, .cons (b := b) ⟨a, q1, q2⟩ _, e => by simp at e; subst e; exact ⟨b, a, rfl, q1, q2⟩
  | H, _, _, k + 1, v, .cons _ t, e => by simp at e; obtain ⟨r, a, h⟩ := RowsAt.get (rs := _) t e; exact ⟨r, a, by simpa using h.1, h.2⟩
theorem ite_or {c1 c2 A B : Prop} [Decidable c1] [Decidable c2] (h1 : c1 ∨ c2 → A) (h2 : ¬ c1 → ¬ c2 → B) : if c1 then A else if c2 then A else B := by
  by_cases a : c1
  · rw [if_pos a]; exact h1 (.inl a)
  · rw [if_neg a]
    by_cases b : c2
    · rw [if_pos b]; exact h1 (.inr b)
    · rw [if_neg b]; exact h2 a b
def IR (H : Hp) (b p q : Addr) (z : Str) (zn : List Str) (m : Nat) (i : Nat) : L2.St → Hp → Prop := fun σ H' => ∃ (vs : List V) (rs : List RS) (o : HO) (v5 v6 v7 v8 v9 : Option V), σ = [some (.ref b), some (.str z), some (.ref p), some (.int (m : Int)), some (.ref q), v5, v6, v7, v8, v9] ∧
  rs.length = i ∧ RowsAt H' vs rs ∧ okR zn rs ∧ H' q = some (.lst vs) ∧ BoxO o ∧ H' b = some o ∧ Kp [b] H H'
theorem IR.step {H H9 : Hp} {b p q : Addr} {z : Str} {zn : List Str} {m i : Nat} {vs : List V} {rs : List RS} {o : HO} {v5 v6 v7 v8 v9 : Option V} (r : RS) (t : Addr) (hr : r.ok zn i) (ht : H9 t = some (.tup (rowV r))) (hl : rs.length = i) (ra : RowsAt H9 vs rs) (ok : okR zn rs)
    (hq : H9 q = some (.lst vs)) (hq0 : H q = none) (ho : BoxO o) (hb : H9 b = some o) (nbq : b ≠ q) (kp : Kp [b] H H9) : IR H b p q z zn m (i + 1) [some (.ref b), some (.str z), some (.ref p), some (.int (m : Int)), some (.ref q), v5, v6, v7, v8, v9] (upd H9 q (.lst (vs ++ [.ref t]))) := by
  have kq : Kp [q] H9 (upd H9 q (.lst (vs ++ [.ref t]))) := (Kp.refl [q] H9).set hq (.inl (by simp))
  exact ⟨vs ++ [.ref t], rs ++ [r], o, v5, v6, v7, v8, v9, rfl, by simp [hl], Paired.snoc (ra.kp kq) ⟨t, rfl, kq.tup _ _ ht⟩, ok.snoc (by rw [hl]; exact hr), upd_same, ho, by rw [upd_ne nbq]; exact hb, kp.set hq (.inr hq0)⟩
structure Fc (H : Hp) (b q : Addr) (us : List V) (rs : List RS) (o : HO) (H1 : Hp) : Prop where
  hb : H1 b = some o
  ho : BoxO o
  hq : H1 q = some (.lst us)
  ra : RowsAt H1 us rs
  kp : Kp [b] H H1
theorem Fc.new {H H1 : Hp} {b q : Addr} {us : List V} {rs : List RS} {o x : HO} {t : Addr} (F : Fc H b q us rs o H1) (ht : H1 t = none) : Fc H b q us rs o (upd H1 t x) :=
  ⟨by rw [upd_ne (ne_of_none F.hb ht)]; exact F.hb, F.ho, by rw [upd_ne (ne_of_none F.hq ht)]; exact F.hq, F.ra.kp ((Kp.refl [b] H1).new ht), F.kp.new ht⟩
theorem Fc.step {H H1 H2 : Hp} {b q : Addr} {us : List V} {rs : List RS} {o o' : HO} (F : Fc H b q us rs o H1) (nbq : b ≠ q) (k : Kp [b] H1 H2) (ho : BoxO o') (hb : H2 b = some o') : Fc H b q us rs o' H2 :=
  ⟨hb, ho, k.old _ _ F.hq (by simpa using nbq.symm), F.ra.kp k, F.kp.trans k⟩
theorem Fc.box {H H1 : Hp} {b q : Addr} {us : List V} {rs : List RS} {o o' : HO} (F : Fc H b q us rs o H1) (nbq : b ≠ q) (ho : BoxO o') : Fc H b q us rs o' (upd H1 b o') := by
  obtain ⟨xs, rfl⟩ := F.ho.lst
  exact F.step nbq ((Kp.refl [b] H1).set F.hb (.inl (by simp))) ho upd_same
def spSR : Sp := fun vs H Q _ => ∃ (b p : Addr) (z : Str) (zs : List Str) (m : Nat) (o : HO), vs = [.ref b, .str z, .ref p, .int (m : Int)] ∧ H b = some o ∧ BoxO o ∧ Letters z 4 ∧ H p = some (.lst (zs.map V.str)) ∧ 1 ≤ zs.length ∧ zs.length ≤ 26 ∧ 1 ≤ m ∧ m ≤ 60 ∧ b ≠ p ∧
  ∀ (q : Addr) (us : List V) (rs : List RS) (o' : HO) (H' : Hp), 1 ≤ rs.length → rs.length ≤ m → RowsAt H' us rs → okR zs rs → H q = none → H' q = some (.lst us) → BoxO o' → H' b = some o' → Kp [b] H H' → Q (.ref q) H'
structure TSR (mg : Str → Option Value) (ft fr : Addr) : Prop where
  n_range : mg "range" = none
  n_len : mg "len" = none
  m__law_take : mg "_law_take" = some (.ref ft)
  m__law_row_at : mg "_law_row_at" = some (.ref fr)
theorem at_str {zs : List Str} {d : Int} (h0 : 0 ≤ d) (h : d < (zs.length : Int)) : ∃ y, y ∈ zs ∧ atI (zs.map V.str) d = some (.str y) :=
  ⟨zs[d.toNat]'(by omega), List.getElem_mem _, atI_of h0 (by rw [List.getElem?_map]; simp)⟩
section
variable {P : Program} {w : World} {K : PySem.W.Frag} {mg : Str → Option Value} {base : Heap}
abbrev s__law_saying_rows : Stmt := top 14
theorem sc__law_saying_rows : FnScope ["_law_box_here", "_law_letters_here", "_law_names", "_law_most", "_law_rows", "_law_k", "_law_kind", "_law_x", "_law_y", "_law_base"] ["_law_box_here", "_law_letters_here", "_law_names", "_law_most"] (defScope s__law_saying_rows) := ⟨rfl, rfl, rfl, by decide +kernel, rfl, by decide +kernel, by decide +kernel⟩
theorem ok__law_saying_rows {f ft fr : Addr} {fd fdt fdr : FuncData} (F : Fun K "_law_saying_rows" "_law_saying_rows" s__law_saying_rows f fd) (T : TSR mg ft fr) (F__law_take : Fun K "_law_take" "_law_take" s__law_take ft fdt) (b__law_take : Binds K fdt ["_law_box_here", "_law_wide"] [])
    (G__law_take : FnOk P w K mg base CX0 1 ft fdt ["_law_box_here", "_law_wide"] spTake) (F__law_row_at : Fun K "_law_row_at" "_law_row_at" s__law_row_at fr fdr) (b__law_row_at : Binds K fdr ["_law_box_here", "_law_k"] [])
    (G__law_row_at : FnOk P w K mg base CX0 2 fr fdr ["_law_box_here", "_law_k"] spRowAt) : FnOk P w K mg base CX0 3 f fd ["_law_box_here", "_law_letters_here", "_law_names", "_law_most"] spSR := by
  refine F.ok sc__law_saying_rows (fun vs H Q E h => ?_) (fun cdv A outer s H vs Q E hr h => ?_)
  · obtain ⟨b, p, z, zs, m, o, rfl, _⟩ := h
    rfl
  · obtain ⟨b, p, z, zs, m, o, rfl, hb, ho, hz, hp, z1, z2, m1, m2, nbp, k⟩ := h
    have hu := hr.units
    refine ⟨_, (QSs.h (qpss_cons (qps_set (i := 4) sc__law_saying_rows.nd rfl (by first | exact Or.inl rfl | exact Or.inr rfl) (qpe_lst qpa_nil))
    (qpss_cons (qps_for PassesOwn.never rfl (qpi_range1 rfl T.n_range (qpa_cons (qpe_op op_addW qpe_int (qpe_call G__law_take (hr.mono (by decide)) rfl T.m__law_take F__law_take.kp b__law_take .nil pass0 (qpa_cons (qpv 0) (qpa_cons (qpv 3) qpa_nil)))) qpa_nil)) (qpg_name (i := 5) sc__law_saying_rows.nd rfl (by first | exact Or.inl rfl | exact Or.inr rfl)) (qpss_cons (qps_set (i := 6) sc__law_saying_rows.nd rfl (by first | exact Or.inl rfl | exact Or.inr rfl) (qpe_call G__law_take (hr.mono (by decide)) rfl T.m__law_take F__law_take.kp b__law_take .nil pass0 (qpa_cons (qpv 0) (qpa_cons qpe_int qpa_nil))))
    (qpss_cons (qps_set (i := 7) sc__law_saying_rows.nd rfl (by first | exact Or.inl rfl | exact Or.inr rfl) (qpe_ix ix_U (qpv 2) (qpe_call G__law_take (hr.mono (by decide)) rfl T.m__law_take F__law_take.kp b__law_take .nil pass0 (qpa_cons (qpv 0) (qpa_cons (qpe_callB call_lenU (by rfl) T.n_len bt_len (qpa_cons (qpv 2) qpa_nil)) qpa_nil))) (fun _ _ => rfl)))
    (qpss_one (qps_if (QW.pt (qpw_or (qpt_cmpR (op_eqU hu) (qpv 5) qpe_int (nomark _)) (qpw_or1 (qpt_cmpR op_ltU (qpv 6) qpe_int (nomark _))))) (qpss_cons (qps_set (i := 8) sc__law_saying_rows.nd rfl (by first | exact Or.inl rfl | exact Or.inr rfl) (qpe_ix ix_U (qpv 2) (qpe_call G__law_take (hr.mono (by decide)) rfl T.m__law_take F__law_take.kp b__law_take .nil pass0 (qpa_cons (qpv 0) (qpa_cons (qpe_callB call_lenU (by rfl) T.n_len bt_len (qpa_cons (qpv 2) qpa_nil)) qpa_nil))) (fun _ _ => rfl)))
    (qpss_cons (qps_set (i := 9) sc__law_saying_rows.nd rfl (by first | exact Or.inl rfl | exact Or.inr rfl) (qpe_lst (qpa_cons (qpe_tup (qpa_cons qpe_str (qpa_cons (qpv 7) (qpa_cons (qpe_ix ix_U (qpv 1) (qpe_call G__law_take (hr.mono (by decide)) rfl T.m__law_take F__law_take.kp b__law_take .nil pass0 (qpa_cons (qpv 0) (qpa_cons (qpe_callB call_lenU (by rfl) T.n_len bt_len (qpa_cons (qpv 1) qpa_nil)) qpa_nil))) (fun _ _ => rfl)) qpa_nil)))) (qpa_cons (qpe_tup (qpa_cons qpe_str (qpa_cons (qpv 7) (qpa_cons (qpv 8) qpa_nil)))) (qpa_cons (qpe_tup (qpa_cons qpe_str qpa_nil)) qpa_nil)))))
    (qpss_one (qps_expr (qpe_bmL PySem.F.slot_list_append PySem.F.type_list_append mt_appendU (qpv 4) (qpa_cons (qpe_ix ix_U (qpv 9) (qpe_ix ix_U (qpe_lst (qpa_cons qpe_int (qpa_cons qpe_int (qpa_cons qpe_int (qpa_cons qpe_int (qpa_cons qpe_int (qpa_cons qpe_int (qpa_cons qpe_int qpa_nil)))))))) (qpe_call G__law_take (hr.mono (by decide)) rfl T.m__law_take F__law_take.kp b__law_take .nil pass0 (qpa_cons (qpv 0) (qpa_cons qpe_int qpa_nil))) (fun _ _ => rfl)) (fun _ _ => rfl)) qpa_nil) mono_var))))) (qpss_one (qps_if (qpt_cmpR op_ltU (qpv 6) qpe_int (nomark _)) (qpss_one (qps_expr (qpe_bmL PySem.F.slot_list_append PySem.F.type_list_append mt_appendU (qpv 4) (qpa_cons (qpe_tup (qpa_cons qpe_str (qpa_cons (qpe_call G__law_row_at (hr.mono (by decide)) rfl T.m__law_row_at F__law_row_at.kp b__law_row_at .nil pass0 (qpa_cons (qpv 0) (qpa_cons (qpv 5) qpa_nil))) qpa_nil))) qpa_nil) mono_var))) (qpss_one (qps_if (qpt_cmpR op_ltU (qpv 6) qpe_int (nomark _)) (qpss_one (qps_expr (qpe_bmL PySem.F.slot_list_append PySem.F.type_list_append mt_appendU (qpv 4) (qpa_cons (qpe_tup (qpa_cons (qpe_ix ix_U (qpe_lst (qpa_cons qpe_str (qpa_cons qpe_str (qpa_cons qpe_str qpa_nil)))) (qpe_op op_sub (qpv 6) qpe_int) (fun _ _ => rfl)) (qpa_cons (qpe_call G__law_row_at (hr.mono (by decide)) rfl T.m__law_row_at F__law_row_at.kp b__law_row_at .nil pass0 (qpa_cons (qpv 0) (qpa_cons (qpv 5) qpa_nil))) (qpa_cons (qpe_call G__law_take (hr.mono (by decide)) rfl T.m__law_take F__law_take.kp b__law_take .nil pass0 (qpa_cons (qpv 0) (qpa_cons (qpv 5) qpa_nil))) qpa_nil)))) qpa_nil) mono_var))) (qpss_one (qps_expr (qpe_bmL PySem.F.slot_list_append PySem.F.type_list_append mt_appendU (qpv 4) (qpa_cons (qpe_tup (qpa_cons (qpe_ix ix_U (qpe_lst (qpa_cons qpe_str (qpa_cons qpe_str (qpa_cons qpe_str qpa_nil)))) (qpe_op op_sub (qpv 6) qpe_int) (fun _ _ => rfl)) (qpa_cons (qpv 7) (qpa_cons (qpe_call G__law_row_at (hr.mono (by decide)) rfl T.m__law_row_at F__law_row_at.kp b__law_row_at .nil pass0 (qpa_cons (qpv 0) (qpa_cons (qpv 5) qpa_nil))) qpa_nil)))) qpa_nil) mono_var))))))))))))
    (qpss_one (qps_ret (qpv 4)))))), ?_⟩
    have hsz : sizeLine = 16777216 := PySem.sizeLine_eq
    simp!
    refine ⟨by omega, fun q hq => ?_⟩
    have nbq : b ≠ q := ne_of_none hb hq
    have npq : p ≠ q := ne_of_none hp hq
    refine ⟨b, (m : Int), o, rfl, by rw [upd_ne nbq]; exact hb, ho, by omega, by omega, fun d o1 d0 d1 ho1 => ?_⟩
    obtain ⟨n, rfl⟩ : ∃ n : Nat, d = (n : Int) := ⟨d.toNat, by omega⟩
    have en : (1 + (n : Int)).toNat = n + 1 := by omega
    obtain ⟨xs0, rfl⟩ := ho.lst
    obtain ⟨xs1, rfl⟩ := id ho1.lst
    simp!
    refine ⟨by omega, by omega, ?_⟩
    rw [en]
    refine loop_range (IR H b p q z zs m) ?_ ?_ ?_
    · exact ⟨[], [], _, none, none, none, none, none, rfl, rfl, .nil, (fun k r e => by simp at e), by rw [upd_ne nbq.symm, upd_same], ho1, upd_same, ((Kp.refl [b] H).new hq).set (by rw [upd_ne nbq]; exact hb) (.inl (by simp))⟩
    · rintro i σ H1 hi ⟨us, rs, o2, v5, v6, v7, v8, v9, rfl, hl, ra, ok, hq1, ho2, hb1, kp⟩
      have hp1 : H1 p = some (.lst (zs.map V.str)) := kp.old _ _ hp (by simpa using nbp.symm)
      obtain ⟨xs2, rfl⟩ := id ho2.lst
      simp!
      refine ⟨b, 12, _, rfl, hb1, ho2, by omega, by omega, fun kd o3 kd0 kd1 ho3 => ?_⟩
      obtain ⟨xs3, rfl⟩ := id ho3.lst
      have pA : ∀ o, upd H1 b o p = some (.lst (zs.map V.str)) := fun o => by rw [upd_ne nbp.symm]; exact hp1
      have qA : ∀ o, upd H1 b o q = some (.lst us) := fun o => by rw [upd_ne nbq.symm]; exact hq1
      have kA : ∀ o, Kp [b] H (upd H1 b o) := fun o => kp.set hb1 (.inl (by simp))
      simp! [pA]
      refine ⟨b, _, _, rfl, upd_same, ho3, by rw [List.length_map]; omega, by rw [List.length_map]; omega, fun dx o4 dx0 dx1 ho4 => ?_⟩
      obtain ⟨xs4, rfl⟩ := id ho4.lst
      rw [List.length_map] at dx1
      simp! [pA]
      obtain ⟨x, hx, ax⟩ := at_str dx0 dx1
      refine ⟨_, ax, ite_or (fun h1 => ?_) (fun h1 h2 => ite2 (fun h3 => ?_) (fun h3 => ite2 (fun h4 => ?_) (fun h4 => ?_)))⟩
      · have F0 : Fc H b q us rs (.lst xs4) (upd H1 b (.lst xs4)) := ⟨upd_same, ho4, qA _, ra.kp ((Kp.refl [b] H1).set hb1 (.inl (by simp))), kA _⟩
        refine ⟨b, _, _, rfl, upd_same, ho4, by rw [List.length_map]; omega, by rw [List.length_map]; omega, fun dy o5 dy0 dy1 ho5 => ?_⟩
        rw [List.length_map] at dy1
        obtain ⟨xs5, rfl⟩ := id ho5.lst
        simp! [pA]
        obtain ⟨y, hy, ay⟩ := at_str dy0 dy1
        have := hz.lo
        have := hz.hi
        refine ⟨_, ay, by omega, b, _, _, rfl, upd_same, ho5, by omega, by omega, fun dz o6 dz0 dz1 ho6 => ?_⟩
        obtain ⟨xs6, rfl⟩ := id ho6.lst
        simp!
        have hzl : z.cps.toList.length = z.length := by simp [Str.length]
        refine ⟨by omega, z.cps.toList[dz.toNat]'(by omega), atI_of dz0 (by simp), by omega, fun t1 ht1 => ⟨by omega, fun t2 ht2 => ⟨by omega, fun t3 ht3 => ⟨by omega, fun t4 ht4 => ?_⟩⟩⟩⟩
        have F1 : Fc H b q us rs (.lst xs6) (upd H1 b (.lst xs6)) := ⟨upd_same, ho6, qA _, ra.kp ((Kp.refl [b] H1).set hb1 (.inl (by simp))), kA _⟩
        generalize z.cps.toList[dz.toNat]'(by omega) = ch at ht2 ht3 ht4 ⊢
        have F4 := (((F1.new (x := .tup [V.str (Str.ofString "is"), V.str x, V.str ⟨#[ch]⟩]) ht1).new (x := .tup [V.str (Str.ofString "ahead"), V.str x, V.str y]) ht2).new (x := .tup [V.str (Str.ofString "yes")]) ht3).new (x := .lst [V.ref t1, V.ref t2, V.ref t3]) ht4
        have n12 : t1 ≠ t2 := ne_of_none upd_same ht2
        have n23 : t2 ≠ t3 := ne_of_none upd_same ht3
        have n34 : t3 ≠ t4 := ne_of_none upd_same ht4
        have n13 : t1 ≠ t3 := ne_of_none (by rw [upd_ne n12, upd_same]) ht3
        have n24 : t2 ≠ t4 := ne_of_none (by rw [upd_ne n23, upd_same]) ht4
        have n14 : t1 ≠ t4 := ne_of_none (by rw [upd_ne n13, upd_ne n12, upd_same]) ht4
        have g1 : upd (upd (upd (upd (upd H1 b (.lst xs6)) t1 (.tup [V.str (Str.ofString "is"), V.str x, V.str ⟨#[ch]⟩])) t2 (.tup [V.str (Str.ofString "ahead"), V.str x, V.str y])) t3 (.tup [V.str (Str.ofString "yes")])) t4 (.lst [V.ref t1, V.ref t2, V.ref t3]) t1 = some (.tup (rowV (.is x ⟨#[ch]⟩))) := by rw [upd_ne n14, upd_ne n13, upd_ne n12, upd_same]; rfl
        have g2 : upd (upd (upd (upd (upd H1 b (.lst xs6)) t1 (.tup [V.str (Str.ofString "is"), V.str x, V.str ⟨#[ch]⟩])) t2 (.tup [V.str (Str.ofString "ahead"), V.str x, V.str y])) t3 (.tup [V.str (Str.ofString "yes")])) t4 (.lst [V.ref t1, V.ref t2, V.ref t3]) t2 = some (.tup (rowV (.ahead x y))) := by rw [upd_ne n24, upd_ne n23, upd_same]; rfl
        have g3 : upd (upd (upd (upd (upd H1 b (.lst xs6)) t1 (.tup [V.str (Str.ofString "is"), V.str x, V.str ⟨#[ch]⟩])) t2 (.tup [V.str (Str.ofString "ahead"), V.str x, V.str y])) t3 (.tup [V.str (Str.ofString "yes")])) t4 (.lst [V.ref t1, V.ref t2, V.ref t3]) t3 = some (.tup (rowV .yes)) := by rw [upd_ne n34, upd_same]; rfl
        have g4 : upd (upd (upd (upd (upd H1 b (.lst xs6)) t1 (.tup [V.str (Str.ofString "is"), V.str x, V.str ⟨#[ch]⟩])) t2 (.tup [V.str (Str.ofString "ahead"), V.str x, V.str y])) t3 (.tup [V.str (Str.ofString "yes")])) t4 (.lst [V.ref t1, V.ref t2, V.ref t3]) t4 = some (.lst [V.ref t1, V.ref t2, V.ref t3]) := upd_same
        revert F4 g1 g2 g3 g4
        generalize upd (upd (upd (upd (upd H1 b (.lst xs6)) t1 (.tup [V.str (Str.ofString "is"), V.str x, V.str ⟨#[ch]⟩])) t2 (.tup [V.str (Str.ofString "ahead"), V.str x, V.str y])) t3 (.tup [V.str (Str.ofString "yes")])) t4 (.lst [V.ref t1, V.ref t2, V.ref t3]) = H5
        intro F4 g1 g2 g3 g4
        refine ⟨by rw [F4.hq]; rfl, by omega, fun t5 ht5 => ?_⟩
        have F5 := F4.new (x := .lst [V.int 0, V.int 0, V.int 0, V.int 1, V.int 1, V.int 1, V.int 2]) ht5
        refine ⟨b, _, _, rfl, F5.hb, F5.ho, by omega, by omega, fun e o7 e0 e1 ho7 => ?_⟩
        have F6 := F5.box nbq ho7
        have nb5 : b ≠ t5 := ne_of_none F4.hb ht5
        have nb4 : b ≠ t4 := fun z => by subst z; have := F4.hb; rw [g4] at this; obtain ⟨c, sd, q1, _⟩ := F4.ho; rw [q1] at this; cases this
        have n45 : t4 ≠ t5 := ne_of_none g4 ht5
        have i5 : ∀ o, upd (upd H5 t5 o) b o7 t5 = some o := fun o => by rw [upd_ne nb5.symm, upd_same]
        have i4 : ∀ o, upd (upd H5 t5 o) b o7 t4 = some (.lst [V.ref t1, V.ref t2, V.ref t3]) := fun o => by rw [upd_ne nb4.symm, upd_ne n45]; exact g4
        simp! [i5, i4]
        have k6 : Kp [b] H5 (upd (upd H5 t5 (.lst [V.int 0, V.int 0, V.int 0, V.int 1, V.int 1, V.int 1, V.int 2])) b o7) := by
          obtain ⟨xs9, e9⟩ := F4.ho.lst
          have hb5 := F5.hb
          rw [e9] at hb5
          exact ((Kp.refl [b] H5).new ht5).set hb5 (.inl (by simp))
        have pick : ∀ (r : RS) (t : Addr), r.ok zs i → H5 t = some (.tup (rowV r)) → ∃ xs_1, lstOf (upd (upd H5 t5 (.lst [V.int 0, V.int 0, V.int 0, V.int 1, V.int 1, V.int 1, V.int 2])) b o7 q) = some xs_1 ∧ xs_1.length < sizeLine ∧
            IR H b p q z zs m (i + 1) [some (V.ref b), some (V.str z), some (V.ref p), some (V.int (m : Int)), some (V.ref q), some (V.int (0 + (i : Int))), some (V.int kd), some (V.str x), some (V.str y), some (V.ref t4)] (upd (upd (upd H5 t5 (.lst [V.int 0, V.int 0, V.int 0, V.int 1, V.int 1, V.int 1, V.int 2])) b o7) q (.lst (xs_1 ++ [V.ref t]))) :=
          fun r t hr ht => ⟨us, by rw [F6.hq]; rfl, by have : us.length = rs.length := Paired.length ra; omega, IR.step r t hr (k6.tup _ _ ht) hl F6.ra ok F6.hq hq F6.ho F6.hb nbq F6.kp⟩
        have : e = 0 ∨ e = 1 ∨ e = 2 ∨ e = 3 ∨ e = 4 ∨ e = 5 ∨ e = 6 := by omega
        rcases this with rfl | rfl | rfl | rfl | rfl | rfl | rfl
        · exact ⟨_, atI_of (by decide) rfl, _, by rw [i4]; rfl, _, atI_of (by decide) rfl, pick (.is x ⟨#[ch]⟩) t1 hx g1⟩
        · exact ⟨_, atI_of (by decide) rfl, _, by rw [i4]; rfl, _, atI_of (by decide) rfl, pick (.is x ⟨#[ch]⟩) t1 hx g1⟩
        · exact ⟨_, atI_of (by decide) rfl, _, by rw [i4]; rfl, _, atI_of (by decide) rfl, pick (.is x ⟨#[ch]⟩) t1 hx g1⟩
        · exact ⟨_, atI_of (by decide) rfl, _, by rw [i4]; rfl, _, atI_of (by decide) rfl, pick (.ahead x y) t2 ⟨hx, hy⟩ g2⟩
        · exact ⟨_, atI_of (by decide) rfl, _, by rw [i4]; rfl, _, atI_of (by decide) rfl, pick (.ahead x y) t2 ⟨hx, hy⟩ g2⟩
        · exact ⟨_, atI_of (by decide) rfl, _, by rw [i4]; rfl, _, atI_of (by decide) rfl, pick (.ahead x y) t2 ⟨hx, hy⟩ g2⟩
        · exact ⟨_, atI_of (by decide) rfl, _, by rw [i4]; rfl, _, atI_of (by decide) rfl, pick .yes t3 trivial g3⟩
      · have F0 : Fc H b q us rs (.lst xs4) (upd H1 b (.lst xs4)) := ⟨upd_same, ho4, qA _, ra.kp ((Kp.refl [b] H1).set hb1 (.inl (by simp))), kA _⟩
        refine ⟨by rw [F0.hq]; rfl, b, _, _, rfl, F0.hb, F0.ho, by omega, by omega, fun e o7 H5 e0 e1 ho7 hb7 k7 => ⟨by omega, fun t ht => ?_⟩⟩
        obtain ⟨j, rfl⟩ : ∃ j : Nat, e = (j : Int) := ⟨e.toNat, by omega⟩
        have F6 := (F0.step nbq k7 ho7 hb7).new (x := .tup [V.str (Str.ofString "not"), V.int (j : Int)]) ht
        exact ⟨us, by rw [F6.hq]; rfl, by have : us.length = rs.length := Paired.length ra; omega, IR.step (.no j) t (show j < i by omega) upd_same hl F6.ra ok F6.hq hq F6.ho F6.hb nbq F6.kp⟩
      · have F0 : Fc H b q us rs (.lst xs4) (upd H1 b (.lst xs4)) := ⟨upd_same, ho4, qA _, ra.kp ((Kp.refl [b] H1).set hb1 (.inl (by simp))), kA _⟩
        obtain ⟨bb, hbb⟩ : ∃ bb : Bool, atI [V.str (Str.ofString "and"), V.str (Str.ofString "and"), V.str (Str.ofString "or")] (kd - 6) = some (.str (bw bb)) := by
          have : kd = 6 ∨ kd = 7 ∨ kd = 8 := by omega
          rcases this with rfl | rfl | rfl
          · exact ⟨true, atI_of (by decide) rfl⟩
          · exact ⟨true, atI_of (by decide) rfl⟩
          · exact ⟨false, atI_of (by decide) rfl⟩
        refine ⟨by rw [F0.hq]; rfl, by omega, fun t0 ht0 => ⟨_, hbb, ?_⟩⟩
        have Fa := F0.new (x := .lst [V.str (Str.ofString "and"), V.str (Str.ofString "and"), V.str (Str.ofString "or")]) ht0
        refine ⟨b, _, _, rfl, Fa.hb, Fa.ho, by omega, by omega, fun e o7 H5 e0 e1 ho7 hb7 k7 => ?_⟩
        have Fb := Fa.step nbq k7 ho7 hb7
        refine ⟨b, _, _, rfl, hb7, ho7, by omega, by omega, fun e2 o8 e20 e21 ho8 => ⟨by omega, fun t ht => ?_⟩⟩
        obtain ⟨j, rfl⟩ : ∃ j : Nat, e = (j : Int) := ⟨e.toNat, by omega⟩
        obtain ⟨l, rfl⟩ : ∃ l : Nat, e2 = (l : Int) := ⟨e2.toNat, by omega⟩
        have F6 := (Fb.box nbq ho8).new (x := .tup [V.str (bw bb), V.int (j : Int), V.int (l : Int)]) ht
        exact ⟨us, by rw [F6.hq]; rfl, by have : us.length = rs.length := Paired.length ra; omega, IR.step (.bin bb j l) t (show j < i ∧ l < i by omega) upd_same hl F6.ra ok F6.hq hq F6.ho F6.hb nbq F6.kp⟩
      · have F0 : Fc H b q us rs (.lst xs4) (upd H1 b (.lst xs4)) := ⟨upd_same, ho4, qA _, ra.kp ((Kp.refl [b] H1).set hb1 (.inl (by simp))), kA _⟩
        obtain ⟨bb, hbb⟩ : ∃ bb : Bool, atI [V.str (Str.ofString "some"), V.str (Str.ofString "some"), V.str (Str.ofString "each")] (kd - 9) = some (.str (qw bb)) := by
          have : kd = 9 ∨ kd = 10 ∨ kd = 11 := by omega
          rcases this with rfl | rfl | rfl
          · exact ⟨true, atI_of (by decide) rfl⟩
          · exact ⟨true, atI_of (by decide) rfl⟩
          · exact ⟨false, atI_of (by decide) rfl⟩
        refine ⟨by rw [F0.hq]; rfl, by omega, fun t0 ht0 => ⟨_, hbb, ?_⟩⟩
        have Fa := F0.new (x := .lst [V.str (Str.ofString "some"), V.str (Str.ofString "some"), V.str (Str.ofString "each")]) ht0
        refine ⟨b, _, _, rfl, Fa.hb, Fa.ho, by omega, by omega, fun e o7 H5 e0 e1 ho7 hb7 k7 => ⟨by omega, fun t ht => ?_⟩⟩
        obtain ⟨j, rfl⟩ : ∃ j : Nat, e = (j : Int) := ⟨e.toNat, by omega⟩
        have F6 := (Fa.step nbq k7 ho7 hb7).new (x := .tup [V.str (qw bb), V.str x, V.int (j : Int)]) ht
        exact ⟨us, by rw [F6.hq]; rfl, by have : us.length = rs.length := Paired.length ra; omega, IR.step (.qn bb x j) t ⟨hx, show j < i by omega⟩ upd_same hl F6.ra ok F6.hq hq F6.ho F6.hb nbq F6.kp⟩
    · rintro σ H1 ⟨us, rs, o2, v5, v6, v7, v8, v9, rfl, hl, ra, ok, hq1, ho2, hb1, kp⟩
      simp!
      exact k q us rs o2 H1 (by omega) (by omega) ra ok hq hq1 ho2 hb1 kp
end
def fm (F : List (List Str)) : RS → List Str
  | .yes => []
  | .is x _ => [x]
  | .ahead x y => [x, y]
  | .no i => F.getD i []
  | .bin _ i j => F.getD i [] ++ F.getD j []
  | .qn _ x i => (F.getD i []).filter fun y => !decide (y = x)
structure Cn (l raw : List Str) : Prop where
  so : PyProof.Rows.sortedS l = true
  nd : l.Nodup
  me : ∀ x, x ∈ l ↔ x ∈ raw
theorem Cn.one {l m raw raw' : List Str} (h : Cn l raw) (h' : Cn m raw') (e : ∀ x, x ∈ raw ↔ x ∈ raw') : l = m := sorted_one h.so h'.so h.nd h'.nd fun x => by rw [h.me, h'.me, e]
theorem getD_snoc {α : Type} {d : α} {F : List α} {x : α} {i : Nat} (h : i < F.length) : (F ++ [x]).getD i d = F.getD i d := by
  rw [List.getD_eq_getElem?_getD, List.getD_eq_getElem?_getD, List.getElem?_append_left h]
theorem getD_last {α : Type} {d : α} {F : List α} {x : α} : (F ++ [x]).getD F.length d = x := by
  rw [List.getD_eq_getElem?_getD, List.getElem?_append_right (Nat.le_refl _)]
  simp
theorem fm_cong {F G : List (List Str)} {zs : List Str} {k : Nat} (h : ∀ i, i < k → F.getD i [] = G.getD i []) : ∀ {r : RS}, r.ok zs k → fm F r = fm G r
  | .yes, _ => rfl
  | .is _ _, _ => rfl
  | .ahead _ _, _ => rfl
  | .no i, ok => h i ok
  | .bin _ i j, ok => by simp only [fm]; rw [h i ok.1, h j ok.2]
  | .qn _ x i, ok => by simp only [fm]; rw [h i ok.2]
structure CF (zs : List Str) (F : List (List Str)) (rs : List RS) : Prop where
  len : F.length = rs.length
  at_ : ∀ k r, rs[k]? = some r → Cn (F.getD k []) (fm F r)
  sub : ∀ k x, x ∈ F.getD k [] → x ∈ zs
theorem fm_sub {zs : List Str} {F : List (List Str)} {k : Nat} (h : ∀ k x, x ∈ F.getD k [] → x ∈ zs) : ∀ {r : RS}, r.ok zs k → ∀ x ∈ fm F r, x ∈ zs
  | .yes, _, x, hx => by simp [fm] at hx
  | .is y _, ok, x, hx => by
    have : x = y := by simpa [fm] using hx
    rw [this]; exact ok
  | .ahead y z, ok, x, hx => by
    have : x = y ∨ x = z := by simpa [fm] using hx
    rcases this with rfl | rfl
    · exact ok.1
    · exact ok.2
  | .no i, _, x, hx => h i x hx
  | .bin _ i j, _, x, hx => by
    rcases List.mem_append.mp hx with q | q
    · exact h i x q
    · exact h j x q
  | .qn _ y i, _, x, hx => h i x (List.mem_filter.mp hx).1
theorem CF.nil (zs : List Str) : CF zs [] [] := ⟨rfl, fun k r e => by simp at e, fun k x hx => by simp at hx⟩
theorem CF.snoc {zs : List Str} {F : List (List Str)} {rs : List RS} {r : RS} {l : List Str} (h : CF zs F rs) (okr : okR zs rs) (hr : r.ok zs rs.length) (hl : Cn l (fm F r)) : CF zs (F ++ [l]) (rs ++ [r]) := by
  have hF := h.len
  refine ⟨by simp [hF], fun k x e => ?_, fun k x hx => ?_⟩
  · by_cases hk : k < rs.length
    · rw [List.getElem?_append_left hk] at e
      rw [getD_snoc (by omega), fm_cong (G := F) (fun i hi => getD_snoc (by omega)) (okr k x e)]
      exact h.at_ k x e
    · have hk' : k = rs.length := by
        have := (List.getElem?_eq_some_iff.mp e).1
        simp at this
        omega
      subst hk'
      rw [List.getElem?_append_right (Nat.le_refl _)] at e
      simp at e
      subst e
      rw [← hF, getD_last, fm_cong (G := F) (k := rs.length) (fun i hi => getD_snoc (by omega)) hr]
      exact hl
  · by_cases hk : k < F.length
    · rw [getD_snoc hk] at hx; exact h.sub k x hx
    · by_cases hk2 : k = F.length
      · rw [hk2, getD_last] at hx
        exact fm_sub h.sub hr x ((hl.me x).mp hx)
      · rw [List.getD_eq_getElem?_getD, List.getElem?_eq_none (by simp; omega)] at hx
        simp at hx
theorem CF.eq {zs : List Str} {F G : List (List Str)} {rs : List RS} (ok : okR zs rs) (h : CF zs F rs) (h' : CF zs G rs) : F = G := by
  have key : ∀ k, F.getD k [] = G.getD k [] := by
    intro k
    induction k using Nat.strongRecOn with
    | ind k ih =>
      by_cases hk : k < rs.length
      · have e := List.getElem?_eq_getElem hk
        exact (h.at_ k _ e).one (h'.at_ k _ e) fun x => by rw [fm_cong (fun i hi => ih i hi) (ok k _ e)]
      · have h1 := h.len
        have h2 := h'.len
        rw [List.getD_eq_getElem?_getD, List.getElem?_eq_none (by omega), List.getD_eq_getElem?_getD, List.getElem?_eq_none (by omega)]
  refine List.ext_getElem? fun k => ?_
  have h1 := h.len
  have h2 := h'.len
  have := key k
  by_cases hk : k < rs.length
  · rw [List.getD_eq_getElem?_getD, List.getD_eq_getElem?_getD, List.getElem?_eq_getElem (by omega), List.getElem?_eq_getElem (by omega)] at this
    rw [List.getElem?_eq_getElem (by omega), List.getElem?_eq_getElem (by omega)]
    exact congrArg some this
  · rw [List.getElem?_eq_none (by omega), List.getElem?_eq_none (by omega)]
theorem CF.take {zs : List Str} {F : List (List Str)} {rs : List RS} (ok : okR zs rs) (h : CF zs F rs) (m : Nat) (hm : m ≤ rs.length) : CF zs (F.take m) (rs.take m) := by
  have hF := h.len
  have gt : ∀ i, i < m → (F.take m).getD i [] = F.getD i [] := fun i hi => by
    rw [List.getD_eq_getElem?_getD, List.getD_eq_getElem?_getD, List.getElem?_take, if_pos hi]
  refine ⟨by rw [List.length_take, List.length_take, hF], fun k r e => ?_, fun k x hx => ?_⟩
  · rw [List.getElem?_take] at e
    split at e
    · rename_i hk
      rw [gt k hk, fm_cong (G := F) (fun i hi => gt i (by omega)) (ok k r e)]
      exact h.at_ k r e
    · cases e
  · by_cases hk : k < m
    · rw [gt k hk] at hx; exact h.sub k x hx
    · rw [List.getD_eq_getElem?_getD, List.getElem?_take, if_neg hk] at hx
      simp at hx
theorem nodup_le : ∀ {l zs : List Str}, l.Nodup → (∀ x ∈ l, x ∈ zs) → l.length ≤ zs.length
  | [], _, _, _ => Nat.zero_le _
  | x :: l, zs, nd, h => by
    obtain ⟨hx, nd'⟩ := List.nodup_cons.mp nd
    have hm := h x (.head _)
    have := nodup_le (l := l) (zs := zs.erase x) nd' fun y hy => (List.mem_erase_of_ne (fun e : y = x => hx (e ▸ hy))).mpr (h y (.tail _ hy))
    rw [List.length_erase_of_mem hm] at this
    have hp : 0 < zs.length := List.length_pos_of_mem hm
    rw [List.length_cons]
    omega
theorem CF.le {zs : List Str} {F : List (List Str)} {rs : List RS} (h : CF zs F rs) (k : Nat) : (F.getD k []).length ≤ zs.length := by
  by_cases hk : k < rs.length
  · exact nodup_le (h.at_ k _ (List.getElem?_eq_getElem hk)).nd (h.sub k)
  · have := h.len
    rw [List.getD_eq_getElem?_getD, List.getElem?_eq_none (by omega)]
    exact Nat.zero_le _
theorem fm_len {zs : List Str} {F : List (List Str)} {rs : List RS} (h : CF zs F rs) (hz : zs.length ≤ 26) : ∀ r : RS, (fm F r).length ≤ 52
  | .yes => Nat.zero_le _
  | .is _ _ => by simp [fm]
  | .ahead _ _ => by simp [fm]
  | .no i => by have := h.le i; simp only [fm]; omega
  | .bin _ i j => by have := h.le i; have := h.le j; simp only [fm, List.length_append]; omega
  | .qn _ x i => by have := h.le i; have := List.length_filter_le (fun y => !decide (y = x)) (F.getD i []); simp only [fm]; omega
def dp (D : List Nat) : RS → Nat
  | .no i => D.getD i 0
  | .bin _ i j => max (D.getD i 0) (D.getD j 0)
  | .qn _ _ i => D.getD i 0 + 1
  | _ => 0
def deps (rs : List RS) : List Nat := rs.foldl (fun D r => D ++ [dp D r]) []
theorem deps_snoc (rs : List RS) (r : RS) : deps (rs ++ [r]) = deps rs ++ [dp (deps rs) r] := by simp [deps, List.foldl_append]
theorem snoc_ind {α : Type} {M : List α → Prop} (h0 : M []) (h1 : ∀ l x, M l → M (l ++ [x])) : ∀ l, M l := by
  intro l
  rw [← List.reverse_reverse l]
  induction l.reverse with
  | nil => exact h0
  | cons x l ih => rw [List.reverse_cons]; exact h1 _ _ ih
theorem deps_len : ∀ rs : List RS, (deps rs).length = rs.length := snoc_ind rfl fun l x ih => by rw [deps_snoc, List.length_append, List.length_append, ih]; rfl
theorem deps_pre (rs : List RS) : ∀ t : List RS, ∃ u, deps (rs ++ t) = deps rs ++ u := snoc_ind ⟨[], by simp⟩ fun l x ⟨u, hu⟩ => ⟨u ++ [dp (deps (rs ++ l)) x], by rw [← List.append_assoc, deps_snoc, hu, List.append_assoc]⟩
theorem deps_take (rs : List RS) (m : Nat) (hm : m ≤ rs.length) : deps (rs.take m) = (deps rs).take m := by
  obtain ⟨u, hu⟩ := deps_pre (rs.take m) (rs.drop m)
  rw [List.take_append_drop] at hu
  have hl := deps_len (rs.take m)
  rw [List.length_take, Nat.min_eq_left hm] at hl
  rw [hu, List.take_append_of_le_length (Nat.le_of_eq hl.symm), List.take_of_length_le (Nat.le_of_eq hl)]
def pts : RS → List Nat
  | .no i => [i]
  | .bin _ i j => [i, j]
  | .qn _ _ i => [i]
  | _ => []
def isI : V → Bool
  | .int _ => true
  | _ => false
theorem pts_rows (r : RS) : (rowV r).filter isI = (pts r).map fun i : Nat => V.int (i : Int) := by cases r <;> rfl
def spParts : Sp := fun vs H Q _ => ∃ (a : Addr) (r : RS), vs = [.ref a] ∧ H a = some (.tup (rowV r)) ∧ ∀ p, H p = none → Q (.ref p) (upd H p (.lst ((pts r).map fun i : Nat => V.int (i : Int))))
structure TPa (K : PySem.W.Frag) (mg : Str → Option Value) : Prop where
  n_isinstance : mg "isinstance" = none
  n_int : mg "int" = none
  si : PySem.W.kitOne K (.type "str") (.type "int") = some false
  ii : PySem.W.kitOne K (.type "int") (.type "int") = some true
def NT (H : Hp) (ys : List V) (F : List (List Str)) : Prop := Paired (fun y l => ∃ q, y = .ref q ∧ H q = some (.tup (l.map V.str))) ys F
theorem NT.kp {S : List Addr} {H H' : Hp} {ys : List V} {F : List (List Str)} (k : Kp S H H') (h : NT H ys F) : NT H' ys F := Paired.mapP h fun _ _ ⟨q, e, g⟩ => ⟨q, e, k.tup _ _ g⟩
theorem NT.get : ∀ {H : Hp} {ys : List V} {F : List (List Str)} {i : Nat}, NT H ys F → i < F.length → ∃ q, ys[i]? = some (.ref q) ∧ H q = some (.tup ((F.getD i []).map V.str))
  | _, _, _, 0, .cons ⟨q, e, g⟩ _, _ => ⟨q, by rw [e]; rfl, g⟩
  | _, _, _, i + 1, .cons _ p, h => by
    obtain ⟨q, e, g⟩ := NT.get p (i := i) (by simpa using h)
    exact ⟨q, e, g⟩
def BN : List V := [.str "some", .str "each"]
structure TNR (K : PySem.W.Frag) (mg : Str → Option Value) (fp ab : Addr) : Prop where
  n_tuple : mg "tuple" = none
  n_sorted : mg "sorted" = none
  n_set : mg "set" = none
  m_parts_of : mg "parts_of" = some (.ref fp)
  m_BINDING : mg "BINDING" = some (.ref ab)
  bn : ∀ H, SqT K H ab BN
def spNR : Sp := fun vs H Q _ => ∃ (a n : Addr) (r : RS) (ys : List V) (F : List (List Str)) (rs : List RS) (zs : List Str), vs = [.ref a, .ref n] ∧ H a = some (.tup (rowV r)) ∧ H n = some (.lst ys) ∧ NT H ys F ∧ CF zs F rs ∧ r.ok zs rs.length ∧ zs.length ≤ 26 ∧
  ∀ q l H', Kp [] H H' → H' q = some (.tup (l.map V.str)) → Cn l (fm F r) → Q (.ref q) H'
theorem sorted1 (x : Str) : Cn [x] [x] := ⟨rfl, by simp, fun _ => Iff.rfl⟩
def tg : RS → Fin 8
  | .yes => 0
  | .is _ _ => 1
  | .ahead _ _ => 2
  | .no _ => 3
  | .bin true _ _ => 4
  | .bin false _ _ => 5
  | .qn true _ _ => 6
  | .qn false _ _ => 7
def hdw : Fin 8 → Str
  | 0 => "yes"
  | 1 => "is"
  | 2 => "ahead"
  | 3 => "not"
  | 4 => "and"
  | 5 => "or"
  | 6 => "some"
  | 7 => "each"
def hd (r : RS) : Str := hdw (tg r)
theorem hd_at (r : RS) : atI (rowV r) 0 = some (.str (hd r)) := by
  cases r with
  | bin b => cases b <;> exact atI_of (by decide) rfl
  | qn b => cases b <;> exact atI_of (by decide) rfl
  | _ => exact atI_of (by decide) rfl
theorem w_is : ∀ t : Fin 8, hdw t = Str.ofString "is" → t = 1 := by decide +kernel
theorem w_ah : ∀ t : Fin 8, hdw t = Str.ofString "ahead" → t = 2 := by decide +kernel
theorem w_in : ∀ t : Fin 8, inV (.str (hdw t)) BN = true → t = 6 ∨ t = 7 := by decide +kernel
theorem hd_is {r : RS} (h : hd r = Str.ofString "is") : ∃ x c, r = .is x c := by
  have q := w_is _ h
  cases r with
  | is x c => exact ⟨x, c, rfl⟩
  | bin b => cases b <;> cases q
  | qn b => cases b <;> cases q
  | _ => cases q
theorem hd_ahead {r : RS} (h : hd r = Str.ofString "ahead") : ∃ x y, r = .ahead x y := by
  have q := w_ah _ h
  cases r with
  | ahead x y => exact ⟨x, y, rfl⟩
  | bin b => cases b <;> cases q
  | qn b => cases b <;> cases q
  | _ => cases q
theorem hd_in {r : RS} (h : inV (.str (hd r)) BN = true) : ∃ b x i, r = .qn b x i := by
  have q := w_in _ h
  cases r with
  | qn b x i => exact ⟨b, x, i, rfl⟩
  | bin b => cases b <;> (rcases q with q | q <;> cases q)
  | _ => rcases q with q | q <;> cases q
theorem qn_in (b : Bool) (x : Str) (i : Nat) : inV (.str (hd (.qn b x i))) BN = true := by
  cases b
  · exact (by decide +kernel : inV (.str (hdw 7)) BN = true)
  · exact (by decide +kernel : inV (.str (hdw 6)) BN = true)
def rb (F : List (List Str)) (l : List Nat) : List Str := (l.map fun i => F.getD i []).flatten
theorem rb_snoc (F : List (List Str)) (l : List Nat) (i : Nat) : rb F (l ++ [i]) = rb F l ++ F.getD i [] := by simp [rb]
theorem rb_fm {F : List (List Str)} {r : RS} (h1 : hd r ≠ Str.ofString "is") (h2 : hd r ≠ Str.ofString "ahead") (h3 : inV (.str (hd r)) BN ≠ true) : fm F r = rb F (pts r) := by
  cases r with
  | yes => rfl
  | is => exact absurd rfl h1
  | ahead => exact absurd rfl h2
  | no => simp [fm, rb, pts]
  | bin => simp [fm, rb, pts]
  | qn b x i => exact absurd (qn_in b x i) h3
theorem pts_lt {zs : List Str} {k : Nat} : ∀ {r : RS}, r.ok zs k → ∀ i ∈ pts r, i < k
  | .no i, ok, j, hj => by rw [List.mem_singleton.mp hj]; exact ok
  | .bin _ i j, ok, l, hl => by
    rcases List.mem_cons.mp hl with rfl | hl
    · exact ok.1
    · rw [List.mem_singleton.mp hl]; exact ok.2
  | .qn _ _ i, ok, j, hj => by rw [List.mem_singleton.mp hj]; exact ok.2
  | .yes, _, j, hj => nomatch hj
  | .is _ _, _, j, hj => nomatch hj
  | .ahead _ _, _, j, hj => nomatch hj
theorem rb_len {zs : List Str} {F : List (List Str)} {rs : List RS} (cf : CF zs F rs) (hz : zs.length ≤ 26) : ∀ l : List Nat, l.length ≤ 2 → (rb F l).length ≤ 52
  | [], _ => Nat.zero_le _
  | [i], _ => by have := cf.le i; simp [rb]; simp at this; omega
  | [i, j], _ => by have := cf.le i; have := cf.le j; simp [rb]; simp at *; omega
  | _ :: _ :: _ :: _, h => by simp at h
theorem pts_len (r : RS) : (pts r).length ≤ 2 := by cases r <;> simp [pts]
section
variable {P : Program} {w : World} {K : PySem.W.Frag} {mg : Str → Option Value} {base : Heap}
abbrev s_parts_of : Stmt := top 1
theorem sc_parts_of : FnScope ["row"] ["row"] (defScope s_parts_of) := ⟨rfl, rfl, rfl, by decide +kernel, rfl, by decide +kernel, by decide +kernel⟩
theorem ok_parts_of {f : Addr} {fd : FuncData} (F : Fun K "parts_of" "parts_of" s_parts_of f fd) (T : TPa K mg) : FnOk P w K mg base CX0 1 f fd ["row"] spParts := by
  refine F.ok sc_parts_of (fun vs H Q E h => ?_) (fun cdv A outer s H vs Q E hr h => ?_)
  · obtain ⟨a, r, rfl, _⟩ := h
    rfl
  · obtain ⟨a, r, rfl, ha, k⟩ := h
    have hu := hr.units
    have hsz : sizeLine = 16777216 := PySem.sizeLine_eq
    refine ⟨_, (QSs.h (qpss_one (qps_ret (qpe_compIf rfl (compOk_of (sc := defScope s_parts_of) (N := ["row"]) (Nc := ["thing"]) (js := [none]) (by decide +kernel)) (qpi_any (K := K) (qpv 0) rfl) (fun _ _ _ _ => (qpg_name (i := 0) (show List.Nodup [("thing" : Str)] from by decide +kernel) rfl (by first | exact Or.inl rfl | exact Or.inr rfl))) (fun _ _ _ _ => (qpt_val (qpe_callB (call_isinstanceK (K := K) rfl) (by rfl) T.n_isinstance bt_isinstance (qpa_cons (qpv 0) (qpa_cons (qpe_bltn (v := .ty "int") rfl T.n_int bt_int rfl) qpa_nil))))) (fun _ _ _ _ => (qpv 0)))))), ?_⟩
    simp! [ha]
    intro D hD
    have hl : (rowV r).length ≤ 3 := by cases r <;> simp [rowV]
    refine compIf_tup isI id ha hD (by omega) (fun x hx l Q' q => ?_) (fun x hx _ l Q' q => ?_) fun v => ?_
    · simp!
      have hx' : (∃ z, x = .str z) ∨ ∃ i, x = .int i := by
        cases r <;> simp [rowV] at hx <;> rcases hx with rfl | rfl | rfl <;> first | exact .inl ⟨_, rfl⟩ | exact .inr ⟨_, rfl⟩
      rcases hx' with ⟨z, rfl⟩ | ⟨i, rfl⟩
      · exact ⟨_, .str _, _, T.si, q⟩
      · exact ⟨_, .int _, _, T.ii, q⟩
    · simp!
      exact q
    · rw [List.map_id, pts_rows]
      exact k D hD
abbrev s_names_of_row : Stmt := top 6
theorem sc_names_of_row : FnScope ["row", "names", "word", "free", "part"] ["row", "names"] (defScope s_names_of_row) := ⟨rfl, rfl, rfl, by decide +kernel, rfl, by decide +kernel, by decide +kernel⟩
theorem ok_names_of_row {f fp ab : Addr} {fd fdp : FuncData} (F : Fun K "names_of_row" "names_of_row" s_names_of_row f fd) (T : TNR K mg fp ab) (F_parts_of : Fun K "parts_of" "parts_of" s_parts_of fp fdp) (b_parts_of : Binds K fdp ["row"] [])
    (G_parts_of : FnOk P w K mg base CX0 1 fp fdp ["row"] spParts) : FnOk P w K mg base CX0 2 f fd ["row", "names"] spNR := by
  refine F.ok sc_names_of_row (fun vs H Q E h => ?_) (fun cdv A outer s H vs Q E hr h => ?_)
  · obtain ⟨a, n, r, ys, G, rs, zs, rfl, _⟩ := h
    rfl
  · obtain ⟨a, n, r, ys, G, rs, zs, rfl, ha, hn, nt, cf, ok, hz, k⟩ := h
    have hu := hr.units
    have hsz : sizeLine = 16777216 := PySem.sizeLine_eq
    have fl := fm_len cf hz r
    have hlen := cf.len
    refine ⟨_, (QSs.h (qpss_cons (qps_set (i := 2) sc_names_of_row.nd rfl (by first | exact Or.inl rfl | exact Or.inr rfl) (qpe_ix ix_U (qpv 0) qpe_int (fun _ _ => rfl)))
    (qpss_mid (qps_if (qpt_cmpR (op_eqU hu) (qpv 2) qpe_str (nomark _)) (qpss_one (qps_ret (qpe_tup (qpa_cons (qpe_ix ix_U (qpv 0) qpe_int (fun _ _ => rfl)) qpa_nil)))) qpss_nil)
    (qpss_mid (qps_if (qpt_cmpR (op_eqU hu) (qpv 2) qpe_str (nomark _)) (qpss_one (qps_ret (qpe_callTy call_tupleU (by rfl) T.n_tuple bt_tuple (qpa_cons (qpe_sortedSet rfl rfl T.n_sorted rfl T.n_set (qpe_slice (sl_UK (K := K) rfl) (qpv 0) (qpo_some qpe_int) qpo_none)) qpa_nil)))) qpss_nil)
    (qpss_cons (qps_set (i := 3) sc_names_of_row.nd rfl (by first | exact Or.inl rfl | exact Or.inr rfl) (qpe_lst qpa_nil))
    (qpss_cons (qps_for PassesOwn.never rfl (qpi_any (K := K) (qpe_call G_parts_of (hr.mono (by decide)) rfl T.m_parts_of F_parts_of.kp b_parts_of .nil pass0 (qpa_cons (qpv 0) qpa_nil)) rfl) (qpg_name (i := 4) sc_names_of_row.nd rfl (by first | exact Or.inl rfl | exact Or.inr rfl)) (qpss_one (qps_expr (qpe_bmL PySem.F.slot_list_extend PySem.F.type_list_extend mt_extendT (qpv 3) (qpa_cons (qpe_ix ix_U (qpv 1) (qpv 4) (fun _ _ => rfl)) qpa_nil) mono_var))))
    (qpss_mid (qps_if (qpt_cmpR (op_inU (K := K) rfl) (qpv 2) (qpe_glob (v := .ref _) rfl T.m_BINDING rfl) (by with_unfolding_all rfl)) (qpss_one (qps_setcIf (i := 3) sc_names_of_row.nd rfl (by first | exact Or.inl rfl | exact Or.inr rfl) rfl (compOk_of (sc := defScope s_names_of_row) (N := ["row", "names", "word", "free", "part"]) (Nc := ["name", "row"]) (js := [none, some 0]) (by decide +kernel)) (qpi_any (K := K) (qpv 3) rfl) (fun _ _ _ _ => (qpg_name (i := 0) (show List.Nodup [("name" : Str), ("row" : Str)] from by decide +kernel) rfl (by first | exact Or.inl rfl | exact Or.inr rfl))) (fun _ _ _ _ => (qpt_cmpR (op_neU hu) (qpv 0) (qpe_ix ix_U (qpv 1) qpe_int (fun _ _ => rfl)) (nomark _))) (fun _ _ _ _ => (qpv 0)))) qpss_nil)
    (qpss_one (qps_ret (qpe_callTy call_tupleU (by rfl) T.n_tuple bt_tuple (qpa_cons (qpe_sortedSet rfl rfl T.n_sorted rfl T.n_set (qpv 3)) qpa_nil))))))))))), ?_⟩
    simp! [ha]
    refine ⟨_, hd_at r, ?_⟩
    refine ⟨fun σ H' => [some (.ref a), some (.ref n), some (.str (hd r)), none, none] = σ ∧ H = H' ∧ hd r ≠ Str.ofString "is", ?_, ?_⟩
    · simp! [ha]
      refine ite2 (fun e => ?_) (fun e => e)
      obtain ⟨x, c, rfl⟩ := hd_is e
      exact ⟨_, atI_of (by decide) rfl, by omega, fun q hq => k q [x] _ ((Kp.refl [] H).new hq) upd_same (sorted1 x)⟩
    rintro _ _ ⟨rfl, rfl, h1⟩
    refine ⟨fun σ H' => [some (.ref a), some (.ref n), some (.str (hd r)), none, none] = σ ∧ H = H' ∧ hd r ≠ Str.ofString "ahead", ?_, ?_⟩
    · simp! [ha]
      refine ite2 (fun e => ?_) (fun e => e)
      obtain ⟨x, y, rfl⟩ := hd_ahead e
      refine rSlU.tup ha (fun h => absurd h.1 (show ¬ HT.sIx 3 0 (some 1) = 0 by decide)) fun q hq => ?_
      rw [show cutV (rowV (.ahead x y)) (some 1) none = [x, y].map V.str from rfl]
      refine ⟨[x, y], by rw [upd_same]; rfl, by simp, fun p ss hp so nd me => ?_⟩
      refine rTupleU_lst upd_same fun l hl => k l ss _ ((((Kp.refl [] H).new hq).new hp).new hl) upd_same ⟨so, nd, me⟩
    rintro _ _ ⟨rfl, rfl, h2⟩
    simp! [ha]
    refine ⟨by omega, fun fr hfr => ⟨a, r, rfl, by rw [upd_ne (ne_of_none ha hfr)]; exact ha, fun pl hpl => ?_⟩⟩
    have k1 : Kp [] H (upd (upd H fr (.lst [])) pl (.lst ((pts r).map fun i : Nat => V.int (i : Int)))) := ((Kp.refl [] H).new hfr).new hpl
    have nfp : fr ≠ pl := ne_of_none upd_same hpl
    have ef : upd (upd H fr (.lst [])) pl (.lst ((pts r).map fun i : Nat => V.int (i : Int))) fr = some (.lst []) := by rw [upd_ne nfp, upd_same]
    have el : upd (upd H fr (.lst [])) pl (.lst ((pts r).map fun i : Nat => V.int (i : Int))) pl = some (.lst ((pts r).map fun i : Nat => V.int (i : Int))) := upd_same
    generalize upd (upd H fr (.lst [])) pl (.lst ((pts r).map fun i : Nat => V.int (i : Int))) = H1 at k1 ef el
    simp only [el]
    have pl2 := pts_len r
    refine loop_list (xs := (pts r).map fun i : Nat => V.int (i : Int)) (fun i σ H' => ∃ v : Option V, σ = [some (.ref a), some (.ref n), some (.str (hd r)), some (.ref fr), v] ∧ Kp [] H H' ∧ H' pl = some (.lst ((pts r).map fun i : Nat => V.int (i : Int))) ∧ H' fr = some (.lst ((rb G ((pts r).take i)).map V.str))) ?_ ?_ ?_ ?_
    · exact ⟨none, rfl, k1, el, ef⟩
    · rintro i σ H' _ ⟨v, rfl, _, e, _⟩
      exact e
    · rintro i x σ H2 hx ⟨v, rfl, k2, el2, ef2⟩
      rw [List.getElem?_map] at hx
      obtain ⟨j, hj, rfl⟩ : ∃ j : Nat, (pts r)[i]? = some j ∧ x = .int (j : Int) := by
        cases e : (pts r)[i]? with
        | none => rw [e] at hx; cases hx
        | some j => rw [e] at hx; exact ⟨j, rfl, (Option.some.inj hx).symm⟩
      have hjk : j < G.length := by rw [hlen]; exact pts_lt ok j (List.mem_of_getElem? hj)
      obtain ⟨q, hq1, hq2⟩ := nt.get hjk
      have hn2 := k2.old _ _ hn (by simp)
      have hil : i < (pts r).length := (List.getElem?_eq_some_iff.mp hj).1
      simp! [hn2, ef2]
      refine ⟨_, atI_nat hq1, ?_⟩
      have hq3 := k2.tup _ _ hq2
      have rl := rb_len cf hz ((pts r).take i) (by rw [List.length_take]; omega)
      have gl := cf.le j
      refine ⟨_, by rw [ef2]; rfl, _, by rw [hq3]; rfl, by rw [List.length_map, List.length_map]; omega, k2.set ef2 (.inr hfr), by rw [upd_ne nfp.symm]; exact el2, ?_⟩
      rw [upd_same, List.take_succ, hj, ← List.map_append]
      show some (HO.lst ((rb G ((pts r).take i) ++ G.getD j []).map V.str)) = some (.lst ((rb G ((pts r).take i ++ [j])).map V.str))
      rw [rb_snoc]
    · rintro σ H2 ⟨v, rfl, k2, el2, ef2⟩
      rw [List.length_map, List.take_length] at ef2
      refine ⟨fun σ H' => ∃ (q : Addr) (v : Option V), σ = [some (.ref a), some (.ref n), some (.str (hd r)), some (.ref q), v] ∧ Kp [] H H' ∧ H' q = some (.lst ((fm G r).map V.str)), ?_, ?_⟩
      · simp!
        refine rInU.tupS (T.bn H2) rfl rfl ⟨_, rfl, ?_⟩
        rw [show (if false = true then !inV (.str (hd r)) BN else inV (.str (hd r)) BN) = inV (.str (hd r)) BN from rfl]
        refine ite2 (fun e => ?_) (fun e => ⟨fr, v, ⟨rfl, rfl⟩, k2, by rw [rb_fm h1 h2 e]; exact ef2⟩)
        obtain ⟨bb, x, i, rfl⟩ := hd_in e
        simp only [ef2]
        intro D hD
        have ha2 := k2.tup _ _ ha
        have ad : a ≠ D := ne_of_none ha2 hD
        have rl := rb_len cf hz [i] (by simp)
        refine compIf_list (fun v => match v with | .str y => !decide (y = x) | _ => false) id ef2 hD (by rw [List.length_map]; show (rb G [i]).length ≤ _; omega) (fun u hu l Q' q => ?_) (fun u hu _ l Q' q => ?_) fun v' => ?_
        · obtain ⟨y, hy, rfl⟩ := List.mem_map.mp hu
          have ha3 : upd H2 D (.lst l) a = some (.tup (rowV (.qn bb x i))) := by rw [upd_ne ad]; exact ha2
          simp! [ha3]
          exact ⟨_, atI_of (by decide) rfl, _, rfl, q⟩
        · simp!
          exact q
        · refine ⟨D, v, ⟨rfl, rfl⟩, k2.new hD, ?_⟩
          rw [upd_same, List.map_id, List.filter_map]
          show some (HO.lst (((rb G [i]).filter fun y => !decide (y = x)).map V.str)) = _
          simp [rb, fm]
      rintro _ H3 ⟨q, v, rfl, k3, e3⟩
      simp! [e3]
      refine ⟨fm G r, rfl, by omega, fun p ss hp so nd me => ?_⟩
      exact rTupleU_lst upd_same fun l hl => k l ss _ ((k3.new hp).new hl) upd_same ⟨so, nd, me⟩
end
def spNRS : Sp := fun vs H Q _ => ∃ (a : Addr) (us : List V) (rs : List RS) (zs : List Str), vs = [.ref a] ∧ H a = some (.tup us) ∧ RowsAt H us rs ∧ okR zs rs ∧ zs.length ≤ 26 ∧ rs.length ≤ 100 ∧
  ∀ p ys F H', Kp [] H H' → H' p = some (.lst ys) → NT H' ys F → CF zs F rs → Q (.ref p) H'
structure TNRS (mg : Str → Option Value) (fr : Addr) : Prop where
  m_names_of_row : mg "names_of_row" = some (.ref fr)
def spFree : Sp := fun vs H Q _ => ∃ (a : Addr) (us : List V) (rs : List RS) (zs : List Str), vs = [.ref a] ∧ H a = some (.tup us) ∧ RowsAt H us rs ∧ okR zs rs ∧ zs.length ≤ 26 ∧ 1 ≤ rs.length ∧ rs.length ≤ 100 ∧
  ∀ q F H', Kp [] H H' → CF zs F rs → H' q = some (.tup ((F.getD (rs.length - 1) []).map V.str)) → Q (.ref q) H'
structure TFr (mg : Str → Option Value) (fr : Addr) : Prop where
  m_names_of_rows : mg "names_of_rows" = some (.ref fr)
def spDepth : Sp := fun vs H Q _ => ∃ (a : Addr) (us : List V) (rs : List RS) (zs : List Str), vs = [.ref a] ∧ H a = some (.tup us) ∧ RowsAt H us rs ∧ okR zs rs ∧ 1 ≤ rs.length ∧ rs.length ≤ 100 ∧
  ∀ H', Kp [] H H' → Q (.int ((deps rs).getD (rs.length - 1) 0 : Nat)) H'
structure TDe (K : PySem.W.Frag) (mg : Str → Option Value) (fp ab : Addr) : Prop where
  n_max : mg "max" = none
  m_parts_of : mg "parts_of" = some (.ref fp)
  m_BINDING : mg "BINDING" = some (.ref ab)
  bn : ∀ H, SqT K H ab BN
theorem take_snoc {α : Type} {l : List α} {i : Nat} {x : α} (h : l[i]? = some x) : l.take (i + 1) = l.take i ++ [x] := by rw [List.take_succ, h]; rfl
theorem NT.len {H : Hp} {ys : List V} {F : List (List Str)} (h : NT H ys F) : ys.length = F.length := Paired.length h
def mxD (D : List Nat) (r : RS) : Int := match (pts r).map fun i => ((D.getD i 0 : Nat) : Int) with
  | [] => 0
  | x :: l => maxL x l
theorem at_int {D : List Nat} {i : Nat} (h : i < D.length) : (D.map fun n : Nat => V.int (n : Int))[i]? = some (.int ((D.getD i 0 : Nat) : Int)) := by
  rw [List.getElem?_map, List.getD_eq_getElem?_getD, List.getElem?_eq_getElem h]; rfl
theorem mxD_dp (D : List Nat) (r : RS) : (if inV (.str (hd r)) BN = true then mxD D r + 1 else mxD D r) = ((dp D r : Nat) : Int) := by
  by_cases h : inV (.str (hd r)) BN = true
  · obtain ⟨b, x, i, rfl⟩ := hd_in h
    rw [if_pos h]
    simp [mxD, pts, dp, maxL]
  · rw [if_neg h]
    cases r with
    | qn b x i => exact absurd (qn_in b x i) h
    | bin b i j =>
      simp only [mxD, pts, dp, List.map_cons, List.map_nil, maxL]
      split <;> omega
    | no i => simp [mxD, pts, dp, maxL]
    | _ => rfl
section
variable {P : Program} {w : World} {K : PySem.W.Frag} {mg : Str → Option Value} {base : Heap}
abbrev s_names_of_rows : Stmt := top 5
theorem sc_names_of_rows : FnScope ["saying", "names", "row"] ["saying"] (defScope s_names_of_rows) := ⟨rfl, rfl, rfl, by decide +kernel, rfl, by decide +kernel, by decide +kernel⟩
theorem ok_names_of_rows {f fr : Addr} {fd fdr : FuncData} (F : Fun K "names_of_rows" "names_of_rows" s_names_of_rows f fd) (T : TNRS mg fr) (F_names_of_row : Fun K "names_of_row" "names_of_row" s_names_of_row fr fdr) (b_names_of_row : Binds K fdr ["row", "names"] [])
    (G_names_of_row : FnOk P w K mg base CX0 2 fr fdr ["row", "names"] spNR) : FnOk P w K mg base CX0 3 f fd ["saying"] spNRS := by
  refine F.ok sc_names_of_rows (fun vs H Q E h => ?_) (fun cdv A outer s H vs Q E hr h => ?_)
  · obtain ⟨a, us, rs, zs, rfl, _⟩ := h
    rfl
  · obtain ⟨a, us, rs, zs, rfl, ha, ra, ok, hz, hl, k⟩ := h
    have hu := hr.units
    have hsz : sizeLine = 16777216 := PySem.sizeLine_eq
    have hul : us.length = rs.length := Paired.length ra
    refine ⟨_, (QSs.h (qpss_cons (qps_set (i := 1) sc_names_of_rows.nd rfl (by first | exact Or.inl rfl | exact Or.inr rfl) (qpe_lst qpa_nil))
    (qpss_cons (qps_for PassesOwn.never rfl (qpi_any (K := K) (qpv 0) rfl) (qpg_name (i := 2) sc_names_of_rows.nd rfl (by first | exact Or.inl rfl | exact Or.inr rfl)) (qpss_one (qps_expr (qpe_bmL PySem.F.slot_list_append PySem.F.type_list_append mt_appendU (qpv 1) (qpa_cons (qpe_call G_names_of_row (hr.mono (by decide)) rfl T.m_names_of_row F_names_of_row.kp b_names_of_row .nil pass0 (qpa_cons (qpv 2) (qpa_cons (qpv 1) qpa_nil))) qpa_nil) mono_var))))
    (qpss_one (qps_ret (qpv 1)))))), ?_⟩
    simp!
    refine ⟨by omega, fun nm hnm => ?_⟩
    have a0 : upd H nm (.lst []) a = some (.tup us) := by rw [upd_ne (ne_of_none ha hnm)]; exact ha
    simp only [a0]
    refine loop_tup (xs := us) (fun i σ H' => ∃ (v : Option V) (ys : List V) (G : List (List Str)), σ = [some (.ref a), some (.ref nm), v] ∧ Kp [] H H' ∧ H' nm = some (.lst ys) ∧ NT H' ys G ∧ CF zs G (rs.take i)) ?_ ?_ ?_ ?_
    · exact ⟨none, [], [], rfl, (Kp.refl [] H).new hnm, upd_same, .nil, CF.nil zs⟩
    · rintro i σ H' _ ⟨v, ys, G, rfl, kp, _⟩
      exact kp.tup _ _ ha
    · rintro i x σ H1 hx ⟨v, ys, G, rfl, k1, e1, nt, cf⟩
      obtain ⟨r, c, hri, rfl, hc⟩ := ra.get hx
      have hi : i < rs.length := (List.getElem?_eq_some_iff.mp hri).1
      have hl1 : (rs.take i).length = i := by rw [List.length_take]; omega
      have okr := ok i r hri
      have hyl := nt.len
      have hG := cf.len
      simp!
      refine ⟨by rw [e1]; rfl, c, nm, r, ys, G, rs.take i, zs, rfl, k1.tup _ _ hc, e1, nt, cf, by rw [hl1]; exact okr, hz, fun q l H2 k2 e2 cn => ?_⟩
      have e12 := k2.old _ _ e1 (by simp)
      have kL : Kp [nm] H2 (upd H2 nm (.lst (ys ++ [.ref q]))) := (Kp.refl [nm] H2).set e12 (.inl (by simp))
      refine ⟨ys, by rw [e12]; rfl, by omega, (k1.trans k2).set e12 (.inr hnm), G ++ [l], ?_, ?_⟩
      · exact Paired.snoc ((nt.kp k2).kp kL) ⟨q, rfl, kL.tup _ _ e2⟩
      · rw [take_snoc hri]
        exact cf.snoc (ok.take i) (by rw [hl1]; exact okr) cn
    · rintro σ H1 ⟨v, ys, G, rfl, k1, e1, nt, cf⟩
      rw [hul, List.take_length] at cf
      simp!
      exact k nm ys G H1 k1 e1 nt cf
abbrev s_free_names : Stmt := top 4
theorem sc_free_names : FnScope ["saying"] ["saying"] (defScope s_free_names) := ⟨rfl, rfl, rfl, by decide +kernel, rfl, by decide +kernel, by decide +kernel⟩
theorem ok_free_names {f fr : Addr} {fd fdr : FuncData} (F : Fun K "free_names" "free_names" s_free_names f fd) (T : TFr mg fr) (F_names_of_rows : Fun K "names_of_rows" "names_of_rows" s_names_of_rows fr fdr) (b_names_of_rows : Binds K fdr ["saying"] [])
    (G_names_of_rows : FnOk P w K mg base CX0 3 fr fdr ["saying"] spNRS) : FnOk P w K mg base CX0 4 f fd ["saying"] spFree := by
  refine F.ok sc_free_names (fun vs H Q E h => ?_) (fun cdv A outer s H vs Q E hr h => ?_)
  · obtain ⟨a, us, rs, zs, rfl, _⟩ := h
    rfl
  · obtain ⟨a, us, rs, zs, rfl, ha, ra, ok, hz, h1, hl, k⟩ := h
    have hu := hr.units
    refine ⟨_, (QSs.h (qpss_one (qps_ret (qpe_ix ix_U (qpe_call G_names_of_rows (hr.mono (by decide)) rfl T.m_names_of_rows F_names_of_rows.kp b_names_of_rows .nil pass0 (qpa_cons (qpv 0) qpa_nil)) (qpe_un un_neg qpe_int) (fun _ _ => rfl))))), ?_⟩
    simp!
    refine ⟨a, us, rs, zs, rfl, ha, ra, ok, hz, hl, fun p ys G H1 k1 e1 nt cf => ?_⟩
    obtain ⟨q, hq1, hq2⟩ := nt.get (i := rs.length - 1) (by rw [cf.len]; omega)
    simp! [e1]
    have hyl := nt.len
    have hG := cf.len
    exact ⟨_, atI_m1 (by rw [hyl, hG]; exact hq1), k q G H1 k1 cf hq2⟩
abbrev s_depth_of : Stmt := top 7
theorem sc_depth_of : FnScope ["saying", "depths", "row", "inner"] ["saying"] (defScope s_depth_of) := ⟨rfl, rfl, rfl, by decide +kernel, rfl, by decide +kernel, by decide +kernel⟩
theorem ok_depth_of {f fp ab : Addr} {fd fdp : FuncData} (F : Fun K "depth_of" "depth_of" s_depth_of f fd) (T : TDe K mg fp ab) (F_parts_of : Fun K "parts_of" "parts_of" s_parts_of fp fdp) (b_parts_of : Binds K fdp ["row"] [])
    (G_parts_of : FnOk P w K mg base CX0 1 fp fdp ["row"] spParts) : FnOk P w K mg base CX0 2 f fd ["saying"] spDepth := by
  refine F.ok sc_depth_of (fun vs H Q E h => ?_) (fun cdv A outer s H vs Q E hr h => ?_)
  · obtain ⟨a, us, rs, zs, rfl, _⟩ := h
    rfl
  · obtain ⟨a, us, rs, zs, rfl, ha, ra, ok, h1, hl, k⟩ := h
    have hu := hr.units
    have hsz : sizeLine = 16777216 := PySem.sizeLine_eq
    have hul : us.length = rs.length := Paired.length ra
    refine ⟨_, (QSs.h (qpss_cons (qps_set (i := 1) sc_depth_of.nd rfl (by first | exact Or.inl rfl | exact Or.inr rfl) (qpe_lst qpa_nil))
    (qpss_cons (qps_for PassesOwn.never rfl (qpi_any (K := K) (qpv 0) rfl) (qpg_name (i := 2) sc_depth_of.nd rfl (by first | exact Or.inl rfl | exact Or.inr rfl)) (qpss_cons (qps_set (i := 3) sc_depth_of.nd rfl (by first | exact Or.inl rfl | exact Or.inr rfl) (qpe_maxD rfl rfl T.n_max (qpe_comp rfl (compOk_of (sc := defScope s_depth_of) (N := ["saying", "depths", "row", "inner"]) (Nc := ["part", "depths"]) (js := [none, some 1]) (by decide +kernel)) (qpi_any (K := K) (qpe_call G_parts_of (hr.mono (by decide)) rfl T.m_parts_of F_parts_of.kp b_parts_of .nil pass0 (qpa_cons (qpv 2) qpa_nil)) rfl) (fun _ _ _ _ => (qpg_name (i := 0) (show List.Nodup [("part" : Str), ("depths" : Str)] from by decide +kernel) rfl (by first | exact Or.inl rfl | exact Or.inr rfl))) (fun _ _ _ _ => (qpe_ix ix_U (qpv 1) (qpv 0) (fun _ _ => rfl)))) qpe_int))
    (qpss_one (qps_expr (qpe_bmL PySem.F.slot_list_append PySem.F.type_list_append mt_appendU (qpv 1) (qpa_cons (qpe_ifExp (qpt_cmpR (op_inU (K := K) rfl) (qpe_ix ix_U (qpv 2) qpe_int (fun _ _ => rfl)) (qpe_glob (v := .ref _) rfl T.m_BINDING rfl) (by with_unfolding_all rfl)) (qpe_op op_addW (qpv 3) qpe_int) (qpv 3)) qpa_nil) mono_var)))))
    (qpss_one (qps_ret (qpe_ix ix_U (qpv 1) (qpe_un un_neg qpe_int) (fun _ _ => rfl))))))), ?_⟩
    simp!
    refine ⟨by omega, fun nm hnm => ?_⟩
    have a0 : upd H nm (.lst []) a = some (.tup us) := by rw [upd_ne (ne_of_none ha hnm)]; exact ha
    simp only [a0]
    refine loop_tup (xs := us) (fun i σ H' => ∃ (v v2 : Option V), σ = [some (.ref a), some (.ref nm), v, v2] ∧ Kp [] H H' ∧ H' nm = some (.lst ((deps (rs.take i)).map fun n : Nat => V.int (n : Int)))) ?_ ?_ ?_ ?_
    · exact ⟨none, none, rfl, (Kp.refl [] H).new hnm, upd_same⟩
    · rintro i σ H' _ ⟨v, v2, rfl, kp, _⟩
      exact kp.tup _ _ ha
    · rintro i x σ H1 hx ⟨v, v2, rfl, k1, e1⟩
      obtain ⟨r, c, hri, rfl, hc⟩ := ra.get hx
      have hi : i < rs.length := (List.getElem?_eq_some_iff.mp hri).1
      have okr := ok i r hri
      have hc1 := k1.tup _ _ hc
      simp!
      refine ⟨c, r, rfl, hc1, fun pl hpl => ?_⟩
      have k2 : Kp [] H (upd H1 pl (.lst ((pts r).map fun i : Nat => V.int (i : Int)))) := k1.new hpl
      have np : nm ≠ pl := ne_of_none e1 hpl
      have en2 : upd H1 pl (.lst ((pts r).map fun i : Nat => V.int (i : Int))) nm = some (.lst ((deps (rs.take i)).map fun n : Nat => V.int (n : Int))) := by rw [upd_ne np]; exact e1
      have el2 : upd H1 pl (.lst ((pts r).map fun i : Nat => V.int (i : Int))) pl = some (.lst ((pts r).map fun i : Nat => V.int (i : Int))) := upd_same
      have hc2 : upd H1 pl (.lst ((pts r).map fun i : Nat => V.int (i : Int))) c = some (.tup (rowV r)) := by rw [upd_ne (ne_of_none hc1 hpl)]; exact hc1
      generalize upd H1 pl (.lst ((pts r).map fun i : Nat => V.int (i : Int))) = H2 at k2 en2 el2 hc2 ⊢
      simp only [el2]
      intro D hD
      have nD : nm ≠ D := ne_of_none en2 hD
      have cD : c ≠ D := ne_of_none hc2 hD
      have hDl : (deps (rs.take i)).length = i := by rw [deps_len, List.length_take]; omega
      have pl2 := pts_len r
      refine comp_list (fun v => match v with | .int t => .int (((deps (rs.take i)).getD t.toNat 0 : Nat) : Int) | _ => .non) el2 hD (by rw [List.length_map]; omega) (fun u hu l Q' q => ?_) fun v' => ?_
      · obtain ⟨j, hj, rfl⟩ := List.mem_map.mp hu
        have hj' := pts_lt okr j hj
        have en3 : upd H2 D (.lst l) nm = some (.lst ((deps (rs.take i)).map fun n : Nat => V.int (n : Int))) := by rw [upd_ne nD]; exact en2
        simp! [en3]
        exact ⟨_, atI_nat (at_int (by omega)), q⟩
      · refine ⟨(pts r).map fun j => (((deps (rs.take i)).getD j 0 : Nat) : Int), by rw [upd_same, List.map_map, List.map_map]; rfl, by rw [upd_ne nD, en2]; rfl, _, by rw [upd_ne cD, hc2]; rfl, _, hd_at r, ?_⟩
        refine rInU.tupS (T.bn _) rfl rfl ⟨_, rfl, ?_⟩
        rw [show (if false = true then !inV (.str (hd r)) BN else inV (.str (hd r)) BN) = inV (.str (hd r)) BN from rfl]
        have en4 : upd H2 D (.lst (((pts r).map fun i : Nat => V.int (i : Int)).map fun v => match v with | .int t => .int (((deps (rs.take i)).getD t.toNat 0 : Nat) : Int) | _ => .non)) nm = some (.lst ((deps (rs.take i)).map fun n : Nat => V.int (n : Int))) := by rw [upd_ne nD]; exact en2
        have md := mxD_dp (deps (rs.take i)) r
        refine ite2 (fun e => ?_) (fun e => ?_)
        · refine ⟨_, by rw [en4]; rfl, by rw [List.length_map]; omega, _, _, ⟨rfl, rfl⟩, (k2.new hD).set en4 (.inr hnm), ?_⟩
          rw [take_snoc hri, deps_snoc, List.map_append]
          rw [if_pos e] at md
          exact congrArg (fun z : Int => (deps (rs.take i)).map (fun n : Nat => V.int (n : Int)) ++ [V.int z]) md
        · refine ⟨_, by rw [en4]; rfl, by rw [List.length_map]; omega, _, _, ⟨rfl, rfl⟩, (k2.new hD).set en4 (.inr hnm), ?_⟩
          rw [take_snoc hri, deps_snoc, List.map_append]
          rw [if_neg e] at md
          exact congrArg (fun z : Int => (deps (rs.take i)).map (fun n : Nat => V.int (n : Int)) ++ [V.int z]) md
    · rintro σ H1 ⟨v, v2, rfl, k1, e1⟩
      rw [hul, List.take_length] at e1
      simp! [e1]
      have dl := deps_len rs
      exact ⟨_, atI_m1 (by rw [List.length_map, dl]; exact at_int (by omega)), k H1 k1⟩
end
def FL (N : List Addr) (H : Hp) (ys : List V) (F : List (List Str)) : Prop := Paired (fun y l => ∃ q, y = .ref q ∧ q ∉ N ∧ H q = some (.lst (l.map V.str))) ys F
theorem FL.kp {N S : List Addr} {H H' : Hp} {ys : List V} {F : List (List Str)} (hS : ∀ x ∈ S, x ∈ N) (k : Kp S H H') (h : FL N H ys F) : FL N H' ys F := Paired.mapP h fun _ _ ⟨q, e, n, g⟩ => ⟨q, e, n, k.old _ _ g fun m => n (hS q m)⟩
theorem FL.len {N : List Addr} {H : Hp} {ys : List V} {F : List (List Str)} (h : FL N H ys F) : ys.length = F.length := Paired.length h
theorem FL.get : ∀ {N : List Addr} {H : Hp} {ys : List V} {F : List (List Str)} {i : Nat}, FL N H ys F → i < F.length → ∃ q, ys[i]? = some (.ref q) ∧ q ∉ N ∧ H q = some (.lst ((F.getD i []).map V.str))
  | _, _, _, _, 0, .cons ⟨q, e, n, g⟩ _, _ => ⟨q, by rw [e]; rfl, n, g⟩
  | _, _, _, _, i + 1, .cons _ p, h => by
    obtain ⟨q, e, g⟩ := FL.get p (i := i) (by simpa using h)
    exact ⟨q, e, g⟩
def spNO : Sp := fun vs H Q _ => ∃ (a n : Addr) (r : RS) (N : List Addr) (ys : List V) (F : List (List Str)) (rs : List RS) (zs : List Str), vs = [.ref a, .ref n] ∧ H a = some (.tup (rowV r)) ∧ H n = some (.lst ys) ∧ FL N H ys F ∧ CF zs F rs ∧ r.ok zs rs.length ∧ zs.length ≤ 26 ∧
  ∀ p l H', H p = none → Kp [] H H' → H' p = some (.lst (l.map V.str)) → Cn l (fm F r) → Q (.ref p) H'
structure TNO (mg : Str → Option Value) : Prop where
  n_sorted : mg "sorted" = none
  n_set : mg "set" = none
theorem w_na : ∀ t : Fin 8, inV (.str (hdw t)) [.str "not", .str "and", .str "or"] = true → t = 3 ∨ t = 4 ∨ t = 5 := by decide +kernel
def st1 : RS → List Str
  | .is x _ => [x]
  | .ahead x _ => [x]
  | _ => []
def st2 : RS → List Str
  | .is x _ => [x]
  | .ahead x y => [x, y]
  | _ => []
def st3 (F : List (List Str)) : RS → List Str
  | .is x _ => [x]
  | .ahead x y => [x, y]
  | .no i => F.getD i []
  | .bin _ i j => F.getD i [] ++ F.getD j []
  | _ => []
theorem w_so : ∀ t : Fin 8, hdw t = Str.ofString "some" → t = 6 := by decide +kernel
theorem w_ea : ∀ t : Fin 8, hdw t = Str.ofString "each" → t = 7 := by decide +kernel
theorem hd_some {r : RS} (h : hd r = Str.ofString "some") : ∃ b x i, r = .qn b x i := by
  have q := w_so _ h
  cases r with
  | qn b x i => exact ⟨b, x, i, rfl⟩
  | bin b => cases b <;> cases q
  | _ => cases q
theorem hd_each {r : RS} (h : hd r = Str.ofString "each") : ∃ b x i, r = .qn b x i := by
  have q := w_ea _ h
  cases r with
  | qn b x i => exact ⟨b, x, i, rfl⟩
  | bin b => cases b <;> cases q
  | _ => cases q
theorem hd_na {F : List (List Str)} {r : RS} (h : inV (.str (hd r)) [.str "not", .str "and", .str "or"] = true) : (st2 r = [] ∧ st3 F r = rb F (pts r)) ∧ ¬ (HT.sIx (rowV r).length 0 (some 1) = 0 ∧ HT.sIx (rowV r).length (rowV r).length none = (rowV r).length) ∧ cutV (rowV r) (some 1) none = (pts r).map fun i : Nat => V.int (i : Int) := by
  have q := w_na _ h
  cases r with
  | no i => exact ⟨⟨rfl, by simp [st3, rb, pts]⟩, fun h => absurd h.1 (show ¬ HT.sIx 2 0 (some 1) = 0 by decide), rfl⟩
  | bin b i j => exact ⟨⟨rfl, by simp [st3, rb, pts]⟩, fun h => absurd h.1 (show ¬ HT.sIx 3 0 (some 1) = 0 by decide), rfl⟩
  | qn b => cases b <;> (rcases q with q | q | q <;> cases q)
  | _ => rcases q with q | q | q <;> cases q
section
variable {P : Program} {w : World} {K : PySem.W.Frag} {mg : Str → Option Value} {base : Heap}
abbrev s__law_names_of : Stmt := top 15
theorem sc__law_names_of : FnScope ["_law_row", "_law_frees_here", "_law_some", "_law_part"] ["_law_row", "_law_frees_here"] (defScope s__law_names_of) := ⟨rfl, rfl, rfl, by decide +kernel, rfl, by decide +kernel, by decide +kernel⟩
theorem ok__law_names_of {f : Addr} {fd : FuncData} (F : Fun K "_law_names_of" "_law_names_of" s__law_names_of f fd) (T : TNO mg) : FnOk P w K mg base CX0 1 f fd ["_law_row", "_law_frees_here"] spNO := by
  refine F.ok sc__law_names_of (fun vs H Q E h => ?_) (fun cdv A outer s H vs Q E hr h => ?_)
  · obtain ⟨a, n, r, N, ys, G, rs, zs, rfl, _⟩ := h
    rfl
  · obtain ⟨a, n, r, N, ys, G, rs, zs, rfl, ha, hn, fl, cf, ok, hz, k⟩ := h
    have hu := hr.units
    have hsz : sizeLine = 16777216 := PySem.sizeLine_eq
    have hlen := cf.len
    have hyl := fl.len
    refine ⟨_, (QSs.h (qpss_cons (qps_set (i := 2) sc__law_names_of.nd rfl (by first | exact Or.inl rfl | exact Or.inr rfl) (qpe_lst qpa_nil))
    (qpss_mid (qps_if (QW.pt (qpw_or (qpt_cmpR (op_eqU hu) (qpe_ix ix_U (qpv 0) qpe_int (fun _ _ => rfl)) qpe_str (nomark _)) (qpw_or1 (qpt_cmpR (op_eqU hu) (qpe_ix ix_U (qpv 0) qpe_int (fun _ _ => rfl)) qpe_str (nomark _))))) (qpss_one (qps_set (i := 2) sc__law_names_of.nd rfl (by first | exact Or.inl rfl | exact Or.inr rfl) (qpe_lst (qpa_cons (qpe_ix ix_U (qpv 0) qpe_int (fun _ _ => rfl)) qpa_nil)))) qpss_nil)
    (qpss_mid (qps_if (qpt_cmpR (op_eqU hu) (qpe_ix ix_U (qpv 0) qpe_int (fun _ _ => rfl)) qpe_str (nomark _)) (qpss_one (qps_set (i := 2) sc__law_names_of.nd rfl (by first | exact Or.inl rfl | exact Or.inr rfl) (qpe_lst (qpa_cons (qpe_ix ix_U (qpv 0) qpe_int (fun _ _ => rfl)) (qpa_cons (qpe_ix ix_U (qpv 0) qpe_int (fun _ _ => rfl)) qpa_nil))))) qpss_nil)
    (qpss_mid (qps_if (qpt_cmpR (op_inU (K := K) rfl) (qpe_ix ix_U (qpv 0) qpe_int (fun _ _ => rfl)) (qpe_tup (qpa_cons qpe_str (qpa_cons qpe_str (qpa_cons qpe_str qpa_nil)))) (by with_unfolding_all rfl)) (qpss_one (qps_for PassesOwn.never rfl (qpi_any (K := K) (qpe_slice (sl_UK (K := K) rfl) (qpv 0) (qpo_some qpe_int) qpo_none) rfl) (qpg_name (i := 3) sc__law_names_of.nd rfl (by first | exact Or.inl rfl | exact Or.inr rfl)) (qpss_one (qps_set (i := 2) sc__law_names_of.nd rfl (by first | exact Or.inl rfl | exact Or.inr rfl) (qpe_op op_addW (qpv 2) (qpe_ix ix_U (qpv 1) (qpv 3) (fun _ _ => rfl))))))) qpss_nil)
    (qpss_mid (qps_if (QW.pt (qpw_or (qpt_cmpR (op_eqU hu) (qpe_ix ix_U (qpv 0) qpe_int (fun _ _ => rfl)) qpe_str (nomark _)) (qpw_or1 (qpt_cmpR (op_eqU hu) (qpe_ix ix_U (qpv 0) qpe_int (fun _ _ => rfl)) qpe_str (nomark _))))) (qpss_one (qps_setcIf (i := 2) sc__law_names_of.nd rfl (by first | exact Or.inl rfl | exact Or.inr rfl) rfl (compOk_of (sc := defScope s__law_names_of) (N := ["_law_row", "_law_frees_here", "_law_some", "_law_part"]) (Nc := ["_law_name", "_law_row"]) (js := [none, some 0]) (by decide +kernel)) (qpi_any (K := K) (qpe_ix ix_U (qpv 1) (qpe_ix ix_U (qpv 0) qpe_int (fun _ _ => rfl)) (fun _ _ => rfl)) rfl) (fun _ _ _ _ => (qpg_name (i := 0) (show List.Nodup [("_law_name" : Str), ("_law_row" : Str)] from by decide +kernel) rfl (by first | exact Or.inl rfl | exact Or.inr rfl))) (fun _ _ _ _ => (qpt_cmpR (op_neU hu) (qpv 0) (qpe_ix ix_U (qpv 1) qpe_int (fun _ _ => rfl)) (nomark _))) (fun _ _ _ _ => (qpv 0)))) qpss_nil)
    (qpss_one (qps_ret (qpe_sortedSet rfl rfl T.n_sorted rfl T.n_set (qpv 2)))))))))), ?_⟩
    simp!
    refine ⟨by omega, fun p hp => ?_⟩
    have k0 : Kp [] H (upd H p (.lst [])) := (Kp.refl [] H).new hp
    have ha0 : upd H p (.lst []) a = some (.tup (rowV r)) := by rw [upd_ne (ne_of_none ha hp)]; exact ha
    refine ⟨fun σ H' => ∃ (q : Addr), σ = [some (.ref a), some (.ref n), some (.ref q), none] ∧ Kp [] H H' ∧ H' q = some (.lst ((st1 r).map V.str)), ?_, ?_⟩
    · simp! [ha0]
      refine ⟨_, hd_at r, ?_⟩
      simp! [ha0]
      refine ite2 (fun e => ?_) (fun e1 => ⟨_, hd_at r, ?_⟩)
      · obtain ⟨x, c, rfl⟩ := hd_is e
        exact ⟨_, atI_of (by decide) rfl, by omega, fun q hq => ⟨k0.new hq, rfl⟩⟩
      simp! [ha0]
      refine ite2 (fun e => ?_) (fun e2 => ⟨k0, ?_⟩)
      · obtain ⟨x, y, rfl⟩ := hd_ahead e
        exact ⟨_, atI_of (by decide) rfl, by omega, fun q hq => ⟨k0.new hq, rfl⟩⟩
      cases r with
      | is => exact absurd rfl e1
      | ahead => exact absurd rfl e2
      | _ => rfl
    rintro _ H1 ⟨p1, rfl, k1, e1⟩
    have ha1 := k1.tup _ _ ha
    refine ⟨fun σ H' => ∃ (q : Addr), σ = [some (.ref a), some (.ref n), some (.ref q), none] ∧ Kp [] H H' ∧ H' q = some (.lst ((st2 r).map V.str)), ?_, ?_⟩
    · simp! [ha1]
      refine ⟨_, hd_at r, ?_⟩
      simp! [ha1]
      refine ite2 (fun e => ?_) (fun e2 => ⟨k1, ?_⟩)
      · obtain ⟨x, y, rfl⟩ := hd_ahead e
        exact ⟨_, atI_of (by decide) rfl, _, atI_of (by decide) rfl, by omega, fun q hq => ⟨k1.new hq, rfl⟩⟩
      rw [e1]
      cases r with
      | ahead => exact absurd rfl e2
      | _ => rfl
    rintro _ H2 ⟨p2, rfl, k2, e2⟩
    have ha2 := k2.tup _ _ ha
    refine ⟨fun σ H' => ∃ (q : Addr) (v : Option V), σ = [some (.ref a), some (.ref n), some (.ref q), v] ∧ Kp [] H H' ∧ H' q = some (.lst ((st3 G r).map V.str)), ?_, ?_⟩
    · simp! [ha2]
      refine ⟨_, hd_at r, by omega, fun t ht => ?_⟩
      refine rInU.tupS (.of upd_same) rfl rfl ⟨_, rfl, ?_⟩
      rw [show (if false = true then !inV (.str (hd r)) [.str "not", .str "and", .str "or"] else inV (.str (hd r)) [.str "not", .str "and", .str "or"]) = inV (.str (hd r)) [.str "not", .str "and", .str "or"] from rfl]
      have k2' := k2.new (o := .tup [.str "not", .str "and", .str "or"]) ht
      have e2' : upd H2 t (.tup [.str "not", .str "and", .str "or"]) p2 = some (.lst ((st2 r).map V.str)) := by rw [upd_ne (ne_of_none e2 ht)]; exact e2
      refine ite2 (fun e => ?_) (fun e => ⟨p2, none, ⟨rfl, rfl⟩, k2', ?_⟩)
      · obtain ⟨h2, hcut⟩ := hd_na (F := G) e
        refine rSlU.tup (k2'.tup _ _ ha) hcut.1 fun q hq => ?_
        rw [hcut.2]
        have k3 := k2'.new (o := .tup ((pts r).map fun i : Nat => V.int (i : Int))) hq
        have e3 : upd (upd H2 t (.tup [.str "not", .str "and", .str "or"])) q (.tup ((pts r).map fun i : Nat => V.int (i : Int))) p2 = some (.lst ((rb G ((pts r).take 0)).map V.str)) := by rw [upd_ne (ne_of_none e2' hq), e2', h2.1]; rfl
        have et : upd (upd H2 t (.tup [.str "not", .str "and", .str "or"])) q (.tup ((pts r).map fun i : Nat => V.int (i : Int))) q = some (.tup ((pts r).map fun i : Nat => V.int (i : Int))) := upd_same
        generalize upd (upd H2 t (.tup [.str "not", .str "and", .str "or"])) q (.tup ((pts r).map fun i : Nat => V.int (i : Int))) = H3 at k3 e3 et ⊢
        simp only [et]
        have pl2 := pts_len r
        refine loop_tup (xs := (pts r).map fun i : Nat => V.int (i : Int)) (fun i σ H' => ∃ (z : Addr) (v : Option V), σ = [some (.ref a), some (.ref n), some (.ref z), v] ∧ Kp [] H H' ∧ Kp [] H3 H' ∧ H' z = some (.lst ((rb G ((pts r).take i)).map V.str))) ?_ ?_ ?_ ?_
        · exact ⟨p2, none, rfl, k3, Kp.refl [] H3, e3⟩
        · rintro i σ H' _ ⟨z, v, rfl, _, kk, _⟩
          exact kk.tup _ _ et
        · rintro i x σ H4 hx ⟨z, v, rfl, k4, kk, e4⟩
          rw [List.getElem?_map] at hx
          obtain ⟨j, hj, rfl⟩ : ∃ j : Nat, (pts r)[i]? = some j ∧ x = .int (j : Int) := by
            cases e : (pts r)[i]? with
            | none => rw [e] at hx; cases hx
            | some j => rw [e] at hx; exact ⟨j, rfl, (Option.some.inj hx).symm⟩
          have hjk : j < G.length := by rw [hlen]; exact pts_lt ok j (List.mem_of_getElem? hj)
          obtain ⟨fq, hq1, nq, hq2⟩ := fl.get hjk
          have hn4 := k4.old _ _ hn (by simp)
          have hq4 := k4.old _ _ hq2 (by simp)
          have hil : i < (pts r).length := (List.getElem?_eq_some_iff.mp hj).1
          have rl := rb_len cf hz ((pts r).take i) (by rw [List.length_take]; omega)
          have gl := cf.le j
          simp! [hn4]
          refine ⟨_, atI_nat hq1, ?_⟩
          refine rAddW.lst e4 hq4 (by rw [List.length_map, List.length_map]; omega) fun z' hz' => ⟨z', _, ⟨rfl, rfl⟩, k4.new hz', kk.new hz', ?_⟩
          rw [upd_same, List.take_succ, hj, ← List.map_append]
          show some (HO.lst ((rb G ((pts r).take i) ++ G.getD j []).map V.str)) = some (.lst ((rb G ((pts r).take i ++ [j])).map V.str))
          rw [rb_snoc]
        · rintro σ H4 ⟨z, v, rfl, k4, _, e4⟩
          rw [List.length_map, List.take_length, ← h2.2] at e4
          exact ⟨z, v, rfl, k4, e4⟩
      · rw [e2']
        cases r with
        | no => exact absurd rfl e
        | bin b => cases b <;> exact absurd (by rfl) e
        | _ => rfl
    rintro _ H3 ⟨p3, v, rfl, k3, e3⟩
    have ha3 := k3.tup _ _ ha
    refine ⟨fun σ H' => ∃ (q : Addr) (v : Option V), σ = [some (.ref a), some (.ref n), some (.ref q), v] ∧ Kp [] H H' ∧ H' q = some (.lst ((fm G r).map V.str)), ?_, ?_⟩
    · simp! [ha3]
      refine ⟨_, hd_at r, ?_⟩
      simp! [ha3]
      refine ite2 (fun e => ?_) (fun f1 => ⟨_, hd_at r, ?_⟩)
      · obtain ⟨bb, x, i, rfl⟩ := hd_some e
        have okq : i < rs.length := ok.2
        obtain ⟨fq, hq1, nq, hq2⟩ := fl.get (i := i) (by omega)
        have hn3 := k3.old _ _ hn (by simp)
        have hq3 := k3.old _ _ hq2 (by simp)
        refine ⟨_, atI_of (by decide) rfl, ?_⟩
        simp! [hn3]
        refine ⟨_, atI_nat hq1, ?_⟩
        simp only [hq3]
        intro D hD
        have ad : a ≠ D := ne_of_none ha3 hD
        have gl := cf.le i
        refine compIf_list (fun v => match v with | .str y => !decide (y = x) | _ => false) id hq3 hD (by rw [List.length_map]; omega) (fun u hu l Q' q => ?_) (fun u hu _ l Q' q => ?_) fun v' => ?_
        · obtain ⟨y, hy, rfl⟩ := List.mem_map.mp hu
          have ha4 : upd H3 D (.lst l) a = some (.tup (rowV (.qn bb x i))) := by rw [upd_ne ad]; exact ha3
          simp! [ha4]
          exact ⟨_, atI_of (by decide) rfl, _, rfl, q⟩
        · simp!
          exact q
        · refine ⟨D, v, ⟨rfl, rfl⟩, k3.new hD, ?_⟩
          rw [upd_same, List.map_id, List.filter_map]
          rfl
      simp! [ha3]
      refine ite2 (fun e => ?_) (fun f2 => ⟨p3, v, ⟨rfl, rfl⟩, k3, ?_⟩)
      · obtain ⟨bb, x, i, rfl⟩ := hd_each e
        have okq : i < rs.length := ok.2
        obtain ⟨fq, hq1, nq, hq2⟩ := fl.get (i := i) (by omega)
        have hn3 := k3.old _ _ hn (by simp)
        have hq3 := k3.old _ _ hq2 (by simp)
        refine ⟨_, atI_of (by decide) rfl, ?_⟩
        simp! [hn3]
        refine ⟨_, atI_nat hq1, ?_⟩
        simp only [hq3]
        intro D hD
        have ad : a ≠ D := ne_of_none ha3 hD
        have gl := cf.le i
        refine compIf_list (fun v => match v with | .str y => !decide (y = x) | _ => false) id hq3 hD (by rw [List.length_map]; omega) (fun u hu l Q' q => ?_) (fun u hu _ l Q' q => ?_) fun v' => ?_
        · obtain ⟨y, hy, rfl⟩ := List.mem_map.mp hu
          have ha4 : upd H3 D (.lst l) a = some (.tup (rowV (.qn bb x i))) := by rw [upd_ne ad]; exact ha3
          simp! [ha4]
          exact ⟨_, atI_of (by decide) rfl, _, rfl, q⟩
        · simp!
          exact q
        · refine ⟨D, v, ⟨rfl, rfl⟩, k3.new hD, ?_⟩
          rw [upd_same, List.map_id, List.filter_map]
          rfl
      rw [e3]
      cases r with
      | qn b => cases b
                · exact absurd rfl f2
                · exact absurd rfl f1
      | _ => rfl
    rintro _ H4 ⟨p4, v, rfl, k4, e4⟩
    simp! [e4]
    have fl52 := fm_len cf hz r
    exact ⟨fm G r, rfl, by omega, fun p' ss hp' so nd me => k p' ss _ (k4.free hp') (k4.new hp') upd_same ⟨so, nd, me⟩⟩
end
def SQ (H : Hp) (a : Addr) (us : List V) : Prop := H a = some (.lst us) ∨ H a = some (.tup us)
theorem SQ.kp {H H' : Hp} {a : Addr} {us : List V} (k : Kp [] H H') (h : SQ H a us) : SQ H' a us := h.imp (fun e => k.old _ _ e (by simp)) (fun e => k.tup _ _ e)
def spFs : Sp := fun vs H Q _ => ∃ (a : Addr) (us : List V) (rs : List RS) (zs : List Str) (N : List Addr), vs = [.ref a] ∧ SQ H a us ∧ RowsAt H us rs ∧ okR zs rs ∧ zs.length ≤ 26 ∧ rs.length ≤ 100 ∧ (∀ x ∈ N, ∃ o, H x = some o) ∧
  ∀ p ys F H', H p = none → Kp [] H H' → H' p = some (.lst ys) → FL (p :: N) H' ys F → CF zs F rs → Q (.ref p) H'
structure TFs (mg : Str → Option Value) (fr : Addr) : Prop where
  m__law_names_of : mg "_law_names_of" = some (.ref fr)
def spDp : Sp := fun vs H Q _ => ∃ (a n : Addr) (r : RS) (D : List Nat) (zs : List Str), vs = [.ref a, .ref n] ∧ H a = some (.tup (rowV r)) ∧ H n = some (.lst (D.map fun n : Nat => V.int (n : Int))) ∧ r.ok zs D.length ∧
  ∀ H', Kp [] H H' → Q (.int (dp D r : Nat)) H'
structure TDp (mg : Str → Option Value) : Prop where
  n_max : mg "max" = none
def spDs : Sp := fun vs H Q _ => ∃ (a : Addr) (us : List V) (rs : List RS) (zs : List Str), vs = [.ref a] ∧ SQ H a us ∧ RowsAt H us rs ∧ okR zs rs ∧ rs.length ≤ 100 ∧
  ∀ p H', H p = none → Kp [] H H' → H' p = some (.lst ((deps rs).map fun n : Nat => V.int (n : Int))) → Q (.ref p) H'
structure TDs (mg : Str → Option Value) (fr : Addr) : Prop where
  m__law_deep : mg "_law_deep" = some (.ref fr)
theorem w_ba : ∀ t : Fin 8, inV (.str (hdw t)) [.str "yes", .str "is", .str "ahead"] = true → t = 0 ∨ t = 1 ∨ t = 2 := by decide +kernel
theorem dp_base {D : List Nat} {r : RS} (h : inV (.str (hd r)) [.str "yes", .str "is", .str "ahead"] = true) : dp D r = 0 := by
  have q := w_ba _ h
  cases r with
  | no i => rcases q with q | q | q <;> cases q
  | bin b => cases b <;> (rcases q with q | q | q <;> cases q)
  | qn b => cases b <;> (rcases q with q | q | q <;> cases q)
  | _ => rfl
section
variable {P : Program} {w : World} {K : PySem.W.Frag} {mg : Str → Option Value} {base : Heap}
abbrev s__law_frees : Stmt := top 16
theorem sc__law_frees : FnScope ["_law_saying", "_law_frees_here", "_law_row"] ["_law_saying"] (defScope s__law_frees) := ⟨rfl, rfl, rfl, by decide +kernel, rfl, by decide +kernel, by decide +kernel⟩
theorem ok__law_frees {f fr : Addr} {fd fdr : FuncData} (F : Fun K "_law_frees" "_law_frees" s__law_frees f fd) (T : TFs mg fr) (F__law_names_of : Fun K "_law_names_of" "_law_names_of" s__law_names_of fr fdr) (b__law_names_of : Binds K fdr ["_law_row", "_law_frees_here"] [])
    (G__law_names_of : FnOk P w K mg base CX0 1 fr fdr ["_law_row", "_law_frees_here"] spNO) : FnOk P w K mg base CX0 2 f fd ["_law_saying"] spFs := by
  refine F.ok sc__law_frees (fun vs H Q E h => ?_) (fun cdv A outer s H vs Q E hr h => ?_)
  · obtain ⟨a, us, rs, zs, N, rfl, _⟩ := h
    rfl
  · obtain ⟨a, us, rs, zs, N, rfl, ha, ra, ok, hz, hl, hN, k⟩ := h
    have hu := hr.units
    have hsz : sizeLine = 16777216 := PySem.sizeLine_eq
    have hul : us.length = rs.length := Paired.length ra
    refine ⟨_, (QSs.h (qpss_cons (qps_set (i := 1) sc__law_frees.nd rfl (by first | exact Or.inl rfl | exact Or.inr rfl) (qpe_lst qpa_nil))
    (qpss_cons (qps_for PassesOwn.never rfl (qpi_any (K := K) (qpv 0) rfl) (qpg_name (i := 2) sc__law_frees.nd rfl (by first | exact Or.inl rfl | exact Or.inr rfl)) (qpss_one (qps_expr (qpe_bmL PySem.F.slot_list_append PySem.F.type_list_append mt_appendU (qpv 1) (qpa_cons (qpe_call G__law_names_of (hr.mono (by decide)) rfl T.m__law_names_of F__law_names_of.kp b__law_names_of .nil pass0 (qpa_cons (qpv 2) (qpa_cons (qpv 1) qpa_nil))) qpa_nil) mono_var))))
    (qpss_one (qps_ret (qpv 1)))))), ?_⟩
    simp!
    refine ⟨by omega, fun nm hnm => ?_⟩
    let I : Nat → List (Option V) → Hp → Prop := fun i σ H' => ∃ (v : Option V) (ys : List V) (G : List (List Str)), σ = [some (.ref a), some (.ref nm), v] ∧ Kp [] H H' ∧ H' nm = some (.lst ys) ∧ FL (nm :: N) H' ys G ∧ CF zs G (rs.take i)
    have i0 : I 0 [some (.ref a), some (.ref nm), none] (upd H nm (.lst [])) := ⟨none, [], [], rfl, (Kp.refl [] H).new hnm, upd_same, .nil, CF.nil zs⟩
    have st : ∀ (i : Nat) (r : RS) (c : Addr) (v : Option V) (ys : List V) (G : List (List Str)) (H1 : Hp), rs[i]? = some r → H c = some (.tup (rowV r)) → Kp [] H H1 → H1 nm = some (.lst ys) → FL (nm :: N) H1 ys G → CF zs G (rs.take i) →
        spNO [.ref c, .ref nm] H1 (fun x H' => (∃ xs, lstOf (H' nm) = some xs ∧ xs.length < sizeLine ∧ I (i + 1) [some (.ref a), some (.ref nm), some (.ref c)] (upd H' nm (.lst (xs ++ [x]))))) E0 := by
      intro i r c v ys G H1 hri hc k1 e1 fl cf
      have hi : i < rs.length := (List.getElem?_eq_some_iff.mp hri).1
      have hl1 : (rs.take i).length = i := by rw [List.length_take]; omega
      have okr := ok i r hri
      have hyl := fl.len
      have hG := cf.len
      refine ⟨c, nm, r, nm :: N, ys, G, rs.take i, zs, rfl, k1.tup _ _ hc, e1, fl, cf, by rw [hl1]; exact okr, hz, fun q l H2 hq k2 e2 cn => ?_⟩
      have e12 := k2.old _ _ e1 (by simp)
      have kL : Kp [nm] H2 (upd H2 nm (.lst (ys ++ [.ref q]))) := (Kp.refl [nm] H2).set e12 (.inl (by simp))
      have qn : q ≠ nm := fun e => by rw [e, e1] at hq; cases hq
      refine ⟨ys, by rw [e12]; rfl, by omega, some (.ref c), ys ++ [.ref q], G ++ [l], rfl, (k1.trans k2).set e12 (.inr hnm), upd_same, ?_, ?_⟩
      · refine Paired.snoc (FL.kp (S := [nm]) (by simp) kL (FL.kp (S := []) (by simp) k2 fl)) ⟨q, rfl, fun hm => ?_, by rw [upd_ne qn]; exact e2⟩
        rcases List.mem_cons.mp hm with e | hm
        · exact qn e
        · obtain ⟨o, ho⟩ := hN q hm
          rw [k1.old _ _ ho (by simp)] at hq
          cases hq
      · rw [take_snoc hri]
        exact cf.snoc (ok.take i) (by rw [hl1]; exact okr) cn
    have ed : ∀ σ H1, I us.length σ H1 → Q (.ref nm) H1 := by
      rintro σ H1 ⟨v, ys, G, rfl, k1, e1, fl, cf⟩
      rw [hul, List.take_length] at cf
      exact k nm ys G H1 hnm k1 e1 fl cf
    rcases ha with ha | ha
    · have a0 : upd H nm (.lst []) a = some (.lst us) := by rw [upd_ne (ne_of_none ha hnm)]; exact ha
      simp only [a0]
      refine loop_list (xs := us) I i0 ?_ ?_ ?_
      · rintro i σ H' _ ⟨v, ys, G, rfl, kp, _⟩
        exact kp.old _ _ ha (by simp)
      · rintro i x σ H1 hx ⟨v, ys, G, rfl, k1, e1, fl, cf⟩
        obtain ⟨r, c, hri, rfl, hc⟩ := ra.get hx
        simp!
        refine ⟨by rw [e1]; rfl, ?_⟩
        exact st i r c v ys G H1 hri hc k1 e1 fl cf
      · rintro σ H1 hI
        have := ed σ H1 hI
        obtain ⟨v, ys, G, rfl, _⟩ := hI
        simp!
        exact this
    · have a0 : upd H nm (.lst []) a = some (.tup us) := by rw [upd_ne (ne_of_none ha hnm)]; exact ha
      simp only [a0]
      refine loop_tup (xs := us) I i0 ?_ ?_ ?_
      · rintro i σ H' _ ⟨v, ys, G, rfl, kp, _⟩
        exact kp.tup _ _ ha
      · rintro i x σ H1 hx ⟨v, ys, G, rfl, k1, e1, fl, cf⟩
        obtain ⟨r, c, hri, rfl, hc⟩ := ra.get hx
        simp!
        refine ⟨by rw [e1]; rfl, ?_⟩
        exact st i r c v ys G H1 hri hc k1 e1 fl cf
      · rintro σ H1 hI
        have := ed σ H1 hI
        obtain ⟨v, ys, G, rfl, _⟩ := hI
        simp!
        exact this
abbrev s__law_deep : Stmt := top 17
theorem sc__law_deep : FnScope ["_law_row", "_law_depths_here"] ["_law_row", "_law_depths_here"] (defScope s__law_deep) := ⟨rfl, rfl, rfl, by decide +kernel, rfl, by decide +kernel, by decide +kernel⟩
theorem ok__law_deep {f : Addr} {fd : FuncData} (F : Fun K "_law_deep" "_law_deep" s__law_deep f fd) (T : TDp mg) : FnOk P w K mg base CX0 1 f fd ["_law_row", "_law_depths_here"] spDp := by
  refine F.ok sc__law_deep (fun vs H Q E h => ?_) (fun cdv A outer s H vs Q E hr h => ?_)
  · obtain ⟨a, n, r, D, zs, rfl, _⟩ := h
    rfl
  · obtain ⟨a, n, r, D, zs, rfl, ha, hn, ok, k⟩ := h
    have hu := hr.units
    have hsz : sizeLine = 16777216 := PySem.sizeLine_eq
    refine ⟨_, (QSs.h (qpss_mid (qps_if (qpt_cmpR (op_inU (K := K) rfl) (qpe_ix ix_U (qpv 0) qpe_int (fun _ _ => rfl)) (qpe_tup (qpa_cons qpe_str (qpa_cons qpe_str (qpa_cons qpe_str qpa_nil)))) (by with_unfolding_all rfl)) (qpss_one (qps_ret qpe_int)) qpss_nil)
    (qpss_mid (qps_if (QW.pt (qpw_or (qpt_cmpR (op_eqU hu) (qpe_ix ix_U (qpv 0) qpe_int (fun _ _ => rfl)) qpe_str (nomark _)) (qpw_or1 (qpt_cmpR (op_eqU hu) (qpe_ix ix_U (qpv 0) qpe_int (fun _ _ => rfl)) qpe_str (nomark _))))) (qpss_one (qps_ret (qpe_op op_addW (qpe_ix ix_U (qpv 1) (qpe_ix ix_U (qpv 0) qpe_int (fun _ _ => rfl)) (fun _ _ => rfl)) qpe_int))) qpss_nil)
    (qpss_one (qps_ret (qpe_callB (call_maxL rfl) (by rfl) T.n_max bt_max (qpa_cons (qpe_comp rfl (compOk_of (sc := defScope s__law_deep) (N := ["_law_row", "_law_depths_here"]) (Nc := ["_law_part", "_law_depths_here"]) (js := [none, some 1]) (by decide +kernel)) (qpi_any (K := K) (qpe_slice (sl_UK (K := K) rfl) (qpv 0) (qpo_some qpe_int) qpo_none) rfl) (fun _ _ _ _ => (qpg_name (i := 0) (show List.Nodup [("_law_part" : Str), ("_law_depths_here" : Str)] from by decide +kernel) rfl (by first | exact Or.inl rfl | exact Or.inr rfl))) (fun _ _ _ _ => (qpe_ix ix_U (qpv 1) (qpv 0) (fun _ _ => rfl)))) qpa_nil))))))), ?_⟩
    refine ⟨fun σ H' => [some (.ref a), some (.ref n)] = σ ∧ Kp [] H H' ∧ inV (.str (hd r)) [.str "yes", .str "is", .str "ahead"] ≠ true, ?_, ?_⟩
    · simp! [ha]
      refine ⟨_, hd_at r, by omega, fun t ht => ?_⟩
      refine rInU.tupS (.of upd_same) rfl rfl ⟨_, rfl, ?_⟩
      rw [show (if false = true then !inV (.str (hd r)) [.str "yes", .str "is", .str "ahead"] else inV (.str (hd r)) [.str "yes", .str "is", .str "ahead"]) = inV (.str (hd r)) [.str "yes", .str "is", .str "ahead"] from rfl]
      refine ite2 (fun e => ?_) (fun e => ⟨(Kp.refl [] H).new ht, e⟩)
      have := k _ ((Kp.refl [] H).new (o := .tup [.str "yes", .str "is", .str "ahead"]) ht)
      rw [dp_base (D := D) e] at this
      exact this
    rintro _ H1 ⟨rfl, k1, b1⟩
    have ha1 := k1.tup _ _ ha
    have hn1 := k1.old _ _ hn (by simp)
    refine ⟨fun σ H' => [some (.ref a), some (.ref n)] = σ ∧ Kp [] H H' ∧ (∃ c i j, r = .bin c i j) ∨ [some (.ref a), some (.ref n)] = σ ∧ Kp [] H H' ∧ (∃ i, r = .no i), ?_, ?_⟩
    · simp! [ha1]
      refine ⟨_, hd_at r, ?_⟩
      simp! [ha1]
      refine ite2 (fun e => ?_) (fun f1 => ⟨_, hd_at r, ?_⟩)
      · obtain ⟨bb, x, i, rfl⟩ := hd_some e
        have okq : i < D.length := ok.2
        refine ⟨_, atI_of (by decide) rfl, ?_⟩
        simp! [hn1]
        refine ⟨_, atI_nat (at_int okq), ?_⟩
        simp!
        have := k _ k1
        rw [show ((dp D (.qn bb x i) : Nat) : Int) = ((D.getD i 0 : Nat) : Int) + 1 by simp [dp]] at this
        exact this
      simp! [ha1]
      refine ite2 (fun e => ?_) (fun f2 => ?_)
      · obtain ⟨bb, x, i, rfl⟩ := hd_each e
        have okq : i < D.length := ok.2
        refine ⟨_, atI_of (by decide) rfl, ?_⟩
        simp! [hn1]
        refine ⟨_, atI_nat (at_int okq), ?_⟩
        simp!
        have := k _ k1
        rw [show ((dp D (.qn bb x i) : Nat) : Int) = ((D.getD i 0 : Nat) : Int) + 1 by simp [dp]] at this
        exact this
      cases r with
      | no i => exact .inr ⟨k1, i, rfl⟩
      | bin b i j => exact .inl ⟨k1, b, i, j, rfl⟩
      | qn b => cases b
                · exact absurd rfl f2
                · exact absurd rfl f1
      | _ => exact absurd rfl b1
    rintro _ H2 (⟨rfl, k2, b, i, j, rfl⟩ | ⟨rfl, k2, i, rfl⟩)
    · have ha2 := k2.tup _ _ ha
      have hn2 := k2.old _ _ hn (by simp)
      simp!
      refine rSlU.tup ha2 (fun h => absurd h.1 (show ¬ HT.sIx 3 0 (some 1) = 0 by decide)) fun q hq => ?_
      rw [show cutV (rowV (.bin b i j)) (some 1) none = [i, j].map fun i : Nat => V.int (i : Int) from rfl]
      have k3 := k2.new (o := .tup ([i, j].map fun i : Nat => V.int (i : Int))) hq
      have et : upd H2 q (.tup ([i, j].map fun i : Nat => V.int (i : Int))) q = some (.tup ([i, j].map fun i : Nat => V.int (i : Int))) := upd_same
      have hn3 := k3.old _ _ hn (by simp)
      generalize upd H2 q (.tup ([i, j].map fun i : Nat => V.int (i : Int))) = H3 at k3 et hn3 ⊢
      simp only [et]
      intro Z hZ
      have nZ : n ≠ Z := ne_of_none hn3 hZ
      refine comp_tup (fun v => match v with | .int t => .int ((D.getD t.toNat 0 : Nat) : Int) | _ => .non) et hZ (by simp; omega) (fun u hu l Q' q => ?_) fun v' => ?_
      · obtain ⟨m, hm, rfl⟩ := List.mem_map.mp hu
        have hm' : m < D.length := pts_lt ok m hm
        have hn4 : upd H3 Z (.lst l) n = some (.lst (D.map fun n : Nat => V.int (n : Int))) := by rw [upd_ne nZ]; exact hn3
        simp! [hn4]
        exact ⟨_, atI_nat (at_int hm'), q⟩
      · refine ⟨((D.getD i 0 : Nat) : Int), [((D.getD j 0 : Nat) : Int)], by rw [upd_same]; rfl, ?_⟩
        have := k _ (k3.new (o := .lst ([i, j].map (fun i : Nat => V.int (i : Int)) |>.map fun v => match v with | .int t => .int ((D.getD t.toNat 0 : Nat) : Int) | _ => .non)) hZ)
        rw [show ((dp D (.bin b i j) : Nat) : Int) = maxL ((D.getD i 0 : Nat) : Int) [((D.getD j 0 : Nat) : Int)] by simp only [dp, maxL]; split <;> omega] at this
        exact this
    · have ha2 := k2.tup _ _ ha
      have hn2 := k2.old _ _ hn (by simp)
      simp!
      refine rSlU.tup ha2 (fun h => absurd h.1 (show ¬ HT.sIx 2 0 (some 1) = 0 by decide)) fun q hq => ?_
      rw [show cutV (rowV (.no i)) (some 1) none = [i].map fun i : Nat => V.int (i : Int) from rfl]
      have k3 := k2.new (o := .tup ([i].map fun i : Nat => V.int (i : Int))) hq
      have et : upd H2 q (.tup ([i].map fun i : Nat => V.int (i : Int))) q = some (.tup ([i].map fun i : Nat => V.int (i : Int))) := upd_same
      have hn3 := k3.old _ _ hn (by simp)
      generalize upd H2 q (.tup ([i].map fun i : Nat => V.int (i : Int))) = H3 at k3 et hn3 ⊢
      simp only [et]
      intro Z hZ
      have nZ : n ≠ Z := ne_of_none hn3 hZ
      refine comp_tup (fun v => match v with | .int t => .int ((D.getD t.toNat 0 : Nat) : Int) | _ => .non) et hZ (by simp; omega) (fun u hu l Q' q => ?_) fun v' => ?_
      · obtain ⟨m, hm, rfl⟩ := List.mem_map.mp hu
        have hm' : m < D.length := pts_lt ok m hm
        have hn4 : upd H3 Z (.lst l) n = some (.lst (D.map fun n : Nat => V.int (n : Int))) := by rw [upd_ne nZ]; exact hn3
        simp! [hn4]
        exact ⟨_, atI_nat (at_int hm'), q⟩
      · refine ⟨((D.getD i 0 : Nat) : Int), [], by rw [upd_same]; rfl, ?_⟩
        have := k _ (k3.new (o := .lst ([i].map (fun i : Nat => V.int (i : Int)) |>.map fun v => match v with | .int t => .int ((D.getD t.toNat 0 : Nat) : Int) | _ => .non)) hZ)
        exact this
abbrev s__law_depths : Stmt := top 18
theorem sc__law_depths : FnScope ["_law_saying", "_law_depths_here", "_law_row"] ["_law_saying"] (defScope s__law_depths) := ⟨rfl, rfl, rfl, by decide +kernel, rfl, by decide +kernel, by decide +kernel⟩
theorem ok__law_depths {f fr : Addr} {fd fdr : FuncData} (F : Fun K "_law_depths" "_law_depths" s__law_depths f fd) (T : TDs mg fr) (F__law_deep : Fun K "_law_deep" "_law_deep" s__law_deep fr fdr) (b__law_deep : Binds K fdr ["_law_row", "_law_depths_here"] [])
    (G__law_deep : FnOk P w K mg base CX0 1 fr fdr ["_law_row", "_law_depths_here"] spDp) : FnOk P w K mg base CX0 2 f fd ["_law_saying"] spDs := by
  refine F.ok sc__law_depths (fun vs H Q E h => ?_) (fun cdv A outer s H vs Q E hr h => ?_)
  · obtain ⟨a, us, rs, zs, rfl, _⟩ := h
    rfl
  · obtain ⟨a, us, rs, zs, rfl, ha, ra, ok, hl, k⟩ := h
    have hu := hr.units
    have hsz : sizeLine = 16777216 := PySem.sizeLine_eq
    have hul : us.length = rs.length := Paired.length ra
    refine ⟨_, (QSs.h (qpss_cons (qps_set (i := 1) sc__law_depths.nd rfl (by first | exact Or.inl rfl | exact Or.inr rfl) (qpe_lst qpa_nil))
    (qpss_cons (qps_for PassesOwn.never rfl (qpi_any (K := K) (qpv 0) rfl) (qpg_name (i := 2) sc__law_depths.nd rfl (by first | exact Or.inl rfl | exact Or.inr rfl)) (qpss_one (qps_expr (qpe_bmL PySem.F.slot_list_append PySem.F.type_list_append mt_appendU (qpv 1) (qpa_cons (qpe_call G__law_deep (hr.mono (by decide)) rfl T.m__law_deep F__law_deep.kp b__law_deep .nil pass0 (qpa_cons (qpv 2) (qpa_cons (qpv 1) qpa_nil))) qpa_nil) mono_var))))
    (qpss_one (qps_ret (qpv 1)))))), ?_⟩
    simp!
    refine ⟨by omega, fun nm hnm => ?_⟩
    let I : Nat → List (Option V) → Hp → Prop := fun i σ H' => ∃ (v : Option V), σ = [some (.ref a), some (.ref nm), v] ∧ Kp [] H H' ∧ H' nm = some (.lst ((deps (rs.take i)).map fun n : Nat => V.int (n : Int)))
    have i0 : I 0 [some (.ref a), some (.ref nm), none] (upd H nm (.lst [])) := ⟨none, rfl, (Kp.refl [] H).new hnm, upd_same⟩
    have st : ∀ (i : Nat) (r : RS) (c : Addr) (v : Option V) (H1 : Hp), rs[i]? = some r → H c = some (.tup (rowV r)) → Kp [] H H1 → H1 nm = some (.lst ((deps (rs.take i)).map fun n : Nat => V.int (n : Int))) →
        spDp [.ref c, .ref nm] H1 (fun x H' => (∃ xs, lstOf (H' nm) = some xs ∧ xs.length < sizeLine ∧ I (i + 1) [some (.ref a), some (.ref nm), some (.ref c)] (upd H' nm (.lst (xs ++ [x]))))) E0 := by
      intro i r c v H1 hri hc k1 e1
      have hi : i < rs.length := (List.getElem?_eq_some_iff.mp hri).1
      have hDl : (deps (rs.take i)).length = i := by rw [deps_len, List.length_take]; omega
      have okr := ok i r hri
      refine ⟨c, nm, r, deps (rs.take i), zs, rfl, k1.tup _ _ hc, e1, by rw [hDl]; exact okr, fun H2 k2 => ?_⟩
      have e12 := k2.old _ _ e1 (by simp)
      refine ⟨_, by rw [e12]; rfl, by rw [List.length_map]; omega, some (.ref c), rfl, (k1.trans k2).set e12 (.inr hnm), ?_⟩
      rw [upd_same, take_snoc hri, deps_snoc, List.map_append]
      rfl
    have ed : ∀ σ H1, I us.length σ H1 → Q (.ref nm) H1 := by
      rintro σ H1 ⟨v, rfl, k1, e1⟩
      rw [hul, List.take_length] at e1
      exact k nm H1 hnm k1 e1
    rcases ha with ha | ha
    · have a0 : upd H nm (.lst []) a = some (.lst us) := by rw [upd_ne (ne_of_none ha hnm)]; exact ha
      simp only [a0]
      refine loop_list (xs := us) I i0 ?_ ?_ ?_
      · rintro i σ H' _ ⟨v, rfl, kp, _⟩
        exact kp.old _ _ ha (by simp)
      · rintro i x σ H1 hx ⟨v, rfl, k1, e1⟩
        obtain ⟨r, c, hri, rfl, hc⟩ := ra.get hx
        simp!
        refine ⟨by rw [e1]; rfl, ?_⟩
        exact st i r c v H1 hri hc k1 e1
      · rintro σ H1 hI
        have := ed σ H1 hI
        obtain ⟨v, rfl, _⟩ := hI
        simp!
        exact this
    · have a0 : upd H nm (.lst []) a = some (.tup us) := by rw [upd_ne (ne_of_none ha hnm)]; exact ha
      simp only [a0]
      refine loop_tup (xs := us) I i0 ?_ ?_ ?_
      · rintro i σ H' _ ⟨v, rfl, kp, _⟩
        exact kp.tup _ _ ha
      · rintro i x σ H1 hx ⟨v, rfl, k1, e1⟩
        obtain ⟨r, c, hri, rfl, hc⟩ := ra.get hx
        simp!
        refine ⟨by rw [e1]; rfl, ?_⟩
        exact st i r c v H1 hri hc k1 e1
      · rintro σ H1 hI
        have := ed σ H1 hI
        obtain ⟨v, rfl, _⟩ := hI
        simp!
        exact this
end
def spRT : Sp := fun vs H Q _ => ∃ (b p : Addr) (z : Str) (zs : List Str) (m : Nat) (o : HO), vs = [.ref b, .str z, .ref p, .int (m : Int), .int 60] ∧ H b = some o ∧ BoxO o ∧ Letters z 4 ∧ H p = some (.lst (zs.map V.str)) ∧ 1 ≤ zs.length ∧ zs.length ≤ 26 ∧ 1 ≤ m ∧ m ≤ 60 ∧ b ≠ p ∧
  ∀ (q : Addr) (us : List V) (rs : List RS) (o' : HO) (H' : Hp), 1 ≤ rs.length → rs.length ≤ m → RowsAt H' us rs → okR zs rs → H q = none → H' q = some (.lst us) → BoxO o' → H' b = some o' → Kp [b] H H' → Q (.ref q) H'
structure TRT (mg : Str → Option Value) (fs fn fd : Addr) : Prop where
  n_len : mg "len" = none
  m__law_saying_rows : mg "_law_saying_rows" = some (.ref fs)
  m__law_names_of : mg "_law_names_of" = some (.ref fn)
  m__law_deep : mg "_law_deep" = some (.ref fd)
structure IT (H : Hp) (b A B C q : Addr) (zs : List Str) (us0 : List V) (rs0 : List RS) (us : List V) (rs : List RS) (ys : List V) (G : List (List Str)) (H' : Hp) : Prop where
  kp : Kp [b] H H'
  bx : ∃ o, BoxO o ∧ H' b = some o
  hq : H' q = some (.lst us0)
  r0 : RowsAt H' us0 rs0
  hA : H' A = some (.lst us)
  ra : RowsAt H' us rs
  ok : okR zs rs
  hB : H' B = some (.lst ys)
  fl : FL [A, B, C] H' ys G
  cf : CF zs G rs
  hC : H' C = some (.lst ((deps rs).map fun n : Nat => V.int (n : Int)))
theorem IT.mv {H : Hp} {b A B C q : Addr} {zs : List Str} {us0 : List V} {rs0 : List RS} {us : List V} {rs : List RS} {ys : List V} {G : List (List Str)} {H1 H2 : Hp} (I : IT H b A B C q zs us0 rs0 us rs ys G H1) (k : Kp [] H1 H2) : IT H b A B C q zs us0 rs0 us rs ys G H2 :=
  ⟨I.kp.trans (k.mono (by simp)), I.bx.imp fun o h => ⟨h.1, k.old _ _ h.2 (by simp)⟩, k.old _ _ I.hq (by simp), I.r0.kp k, k.old _ _ I.hA (by simp), I.ra.kp k, I.ok, k.old _ _ I.hB (by simp), I.fl.kp (by simp) k, I.cf, k.old _ _ I.hC (by simp)⟩
theorem fm0 {F : List (List Str)} {D : List Nat} {zs : List Str} : ∀ {r : RS}, r.ok zs 0 → (fm F r).length ≤ 2 ∧ dp D r = 0
  | .yes, _ => ⟨by simp [fm], rfl⟩
  | .is _ _, _ => ⟨by simp [fm], rfl⟩
  | .ahead _ _, _ => ⟨by simp [fm], rfl⟩
  | .no i, ok => absurd ok (Nat.not_lt_zero _)
  | .bin _ i j, ok => absurd ok.1 (Nat.not_lt_zero _)
  | .qn _ _ i, ok => absurd ok.2 (Nat.not_lt_zero _)
theorem kitT (K : PySem.W.Frag) (T : String) : PySem.W.kitOne K (.type T) (.type T) = some true := if_pos (by simp)
def spWhole : Sp := fun vs H Q _ => ∃ i : Int, vs = [.int i] ∧ Q (.bl true) H
structure TWh (K : PySem.W.Frag) (mg : Str → Option Value) : Prop where
  n_isinstance : mg "isinstance" = none
  n_int : mg "int" = none
  n_bool : mg "bool" = none
  ib : PySem.W.kitOne K (.type "int") (.type "bool") = some false
def spDb : Sp := fun vs H Q _ => ∃ (b p : Addr) (us : List V) (rs : List RS) (zs : List Str) (o : HO), vs = [.ref b, .ref p] ∧ H b = some o ∧ BoxO o ∧ H p = some (.lst us) ∧ RowsAt H us rs ∧ okR zs rs ∧ 1 ≤ rs.length ∧ rs.length ≤ 60 ∧ b ≠ p ∧
  ∀ (q : Addr) (us : List V) (rs : List RS) (o' : HO) (H' : Hp), rs.length = 60 → RowsAt H' us rs → okR zs rs → H q = none → H' q = some (.tup us) → BoxO o' → H' b = some o' → Kp [b] H H' → Q (.ref q) H'
structure TDb (mg : Str → Option Value) (ft : Addr) : Prop where
  n_list : mg "list" = none
  n_tuple : mg "tuple" = none
  n_len : mg "len" = none
  m__law_take : mg "_law_take" = some (.ref ft)
section
variable {P : Program} {w : World} {K : PySem.W.Frag} {mg : Str → Option Value} {base : Heap}
abbrev s__law_rows_to : Stmt := top 19
theorem sc__law_rows_to : FnScope ["_law_box_here", "_law_letters_here", "_law_names", "_law_most", "_law_deep_here", "_law_rows", "_law_frees_here", "_law_depths_here", "_law_row", "_law_one"] ["_law_box_here", "_law_letters_here", "_law_names", "_law_most", "_law_deep_here"] (defScope s__law_rows_to) := ⟨rfl, rfl, rfl, by decide +kernel, rfl, by decide +kernel, by decide +kernel⟩
theorem ok__law_rows_to {f fs fn fdp : Addr} {fd fds fdn fdd : FuncData} (F : Fun K "_law_rows_to" "_law_rows_to" s__law_rows_to f fd) (T : TRT mg fs fn fdp) (F__law_saying_rows : Fun K "_law_saying_rows" "_law_saying_rows" s__law_saying_rows fs fds) (b__law_saying_rows : Binds K fds ["_law_box_here", "_law_letters_here", "_law_names", "_law_most"] [])
    (G__law_saying_rows : FnOk P w K mg base CX0 3 fs fds ["_law_box_here", "_law_letters_here", "_law_names", "_law_most"] spSR) (F__law_names_of : Fun K "_law_names_of" "_law_names_of" s__law_names_of fn fdn) (b__law_names_of : Binds K fdn ["_law_row", "_law_frees_here"] [])
    (G__law_names_of : FnOk P w K mg base CX0 1 fn fdn ["_law_row", "_law_frees_here"] spNO) (F__law_deep : Fun K "_law_deep" "_law_deep" s__law_deep fdp fdd) (b__law_deep : Binds K fdd ["_law_row", "_law_depths_here"] [])
    (G__law_deep : FnOk P w K mg base CX0 1 fdp fdd ["_law_row", "_law_depths_here"] spDp) : FnOk P w K mg base CX0 4 f fd ["_law_box_here", "_law_letters_here", "_law_names", "_law_most", "_law_deep_here"] spRT := by
  refine F.ok sc__law_rows_to (fun vs H Q E h => ?_) (fun cdv A outer s H vs Q E hr h => ?_)
  · obtain ⟨b, p, z, zs, m, o, rfl, _⟩ := h
    rfl
  · obtain ⟨b, p, z, zs, m, o, rfl, hb, ho, hz, hp, z1, z2, m1, m2, nbp, k⟩ := h
    have hu := hr.units
    refine ⟨_, (QSs.h (qpss_cons (qps_set (i := 5) sc__law_rows_to.nd rfl (by first | exact Or.inl rfl | exact Or.inr rfl) (qpe_lst qpa_nil))
    (qpss_cons (qps_set (i := 6) sc__law_rows_to.nd rfl (by first | exact Or.inl rfl | exact Or.inr rfl) (qpe_lst qpa_nil))
    (qpss_cons (qps_set (i := 7) sc__law_rows_to.nd rfl (by first | exact Or.inl rfl | exact Or.inr rfl) (qpe_lst qpa_nil))
    (qpss_cons (qps_for PassesOwn.never rfl (qpi_any (K := K) (qpe_call G__law_saying_rows (hr.mono (by decide)) rfl T.m__law_saying_rows F__law_saying_rows.kp b__law_saying_rows .nil pass0 (qpa_cons (qpv 0) (qpa_cons (qpv 1) (qpa_cons (qpv 2) (qpa_cons (qpv 3) qpa_nil))))) rfl) (qpg_name (i := 8) sc__law_rows_to.nd rfl (by first | exact Or.inl rfl | exact Or.inr rfl)) (qpss_cons (qps_set (i := 9) sc__law_rows_to.nd rfl (by first | exact Or.inl rfl | exact Or.inr rfl) (qpv 8))
    (qpss_mid (qps_if (QW.pt (qpw_or (qpt_cmpR op_gt (qpe_callB call_lenU (by rfl) T.n_len bt_len (qpa_cons (qpe_call G__law_names_of (hr.mono (by decide)) rfl T.m__law_names_of F__law_names_of.kp b__law_names_of .nil pass0 (qpa_cons (qpv 8) (qpa_cons (qpv 6) qpa_nil))) qpa_nil)) qpe_int (nomark _)) (qpw_or1 (qpt_cmpR op_gt (qpe_call G__law_deep (hr.mono (by decide)) rfl T.m__law_deep F__law_deep.kp b__law_deep .nil pass0 (qpa_cons (qpv 8) (qpa_cons (qpv 7) qpa_nil))) (qpv 4) (nomark _))))) (qpss_one (qps_set (i := 9) sc__law_rows_to.nd rfl (by first | exact Or.inl rfl | exact Or.inr rfl) (qpe_tup (qpa_cons qpe_str (qpa_cons (qpe_op op_sub (qpe_callB call_lenU (by rfl) T.n_len bt_len (qpa_cons (qpv 5) qpa_nil)) qpe_int) qpa_nil))))) qpss_nil)
    (qpss_cons (qps_expr (qpe_bmL PySem.F.slot_list_append PySem.F.type_list_append mt_appendU (qpv 5) (qpa_cons (qpv 9) qpa_nil) mono_var))
    (qpss_cons (qps_expr (qpe_bmL PySem.F.slot_list_append PySem.F.type_list_append mt_appendU (qpv 6) (qpa_cons (qpe_call G__law_names_of (hr.mono (by decide)) rfl T.m__law_names_of F__law_names_of.kp b__law_names_of .nil pass0 (qpa_cons (qpv 9) (qpa_cons (qpv 6) qpa_nil))) qpa_nil) mono_var))
    (qpss_one (qps_expr (qpe_bmL PySem.F.slot_list_append PySem.F.type_list_append mt_appendU (qpv 7) (qpa_cons (qpe_call G__law_deep (hr.mono (by decide)) rfl T.m__law_deep F__law_deep.kp b__law_deep .nil pass0 (qpa_cons (qpv 9) (qpa_cons (qpv 7) qpa_nil))) qpa_nil) mono_var))))))))
    (qpss_one (qps_ret (qpv 5)))))))), ?_⟩
    have hsz : sizeLine = 16777216 := PySem.sizeLine_eq
    simp!
    refine ⟨by omega, fun A hA => ⟨by omega, fun B hB => ⟨by omega, fun C hC => ?_⟩⟩⟩
    have nAB : A ≠ B := ne_of_none upd_same hB
    have nBC : B ≠ C := ne_of_none upd_same hC
    have nAC : A ≠ C := ne_of_none (by rw [upd_ne nAB, upd_same]) hC
    have k0 : Kp [] H (upd (upd (upd H A (.lst [])) B (.lst [])) C (.lst [])) := (((Kp.refl [] H).new hA).new hB).new hC
    have eA : upd (upd (upd H A (.lst [])) B (.lst [])) C (.lst []) A = some (.lst []) := by rw [upd_ne nAC, upd_ne nAB, upd_same]
    have eB : upd (upd (upd H A (.lst [])) B (.lst [])) C (.lst []) B = some (.lst []) := by rw [upd_ne nBC, upd_same]
    have eC : upd (upd (upd H A (.lst [])) B (.lst [])) C (.lst []) C = some (.lst []) := upd_same
    generalize upd (upd (upd H A (.lst [])) B (.lst [])) C (.lst []) = H0 at k0 eA eB eC ⊢
    have hB0 : H B = none := by
      rw [upd_ne nAB.symm] at hB; exact hB
    have hC0 : H C = none := by
      rw [upd_ne nBC.symm, upd_ne nAC.symm] at hC; exact hC
    have nbA : b ≠ A := ne_of_none hb hA
    have nbB : b ≠ B := ne_of_none hb hB0
    have nbC : b ≠ C := ne_of_none hb hC0
    refine ⟨b, p, z, zs, m, o, rfl, k0.old _ _ hb (by simp), ho, hz, k0.old _ _ hp (by simp), z1, z2, m1, m2, nbp, fun q us0 rs0 o1 H1 l1 l2 ra0 ok0 hq0 hq1 ho1 hb1 k1 => ?_⟩
    have nqA : q ≠ A := fun e => by rw [e, eA] at hq0; cases hq0
    have nqB : q ≠ B := fun e => by rw [e, eB] at hq0; cases hq0
    have nqC : q ≠ C := fun e => by rw [e, eC] at hq0; cases hq0
    have hul : us0.length = rs0.length := Paired.length ra0
    have hK1 : Kp [b] H H1 := (k0.mono (by simp)).trans k1
    simp only [hq1]
    refine loop_list (xs := us0) (fun i σ H' => ∃ (v1 v2 : Option V) (us : List V) (rs : List RS) (ys : List V) (G : List (List Str)), σ = [some (.ref b), some (.str z), some (.ref p), some (.int (m : Int)), some (.int 60), some (.ref A), some (.ref B), some (.ref C), v1, v2] ∧ rs.length = i ∧ IT H b A B C q zs us0 rs0 us rs ys G H') ?_ ?_ ?_ ?_
    · exact ⟨none, none, [], [], [], [], rfl, rfl, hK1, ⟨o1, ho1, hb1⟩, hq1, ra0, k1.old _ _ eA (by simpa using nbA.symm), .nil, (fun k r e => by simp at e), k1.old _ _ eB (by simpa using nbB.symm), .nil, CF.nil zs, k1.old _ _ eC (by simpa using nbC.symm)⟩
    · rintro i σ H' _ ⟨_, _, _, _, _, _, rfl, _, I⟩
      exact I.hq
    · rintro i x σ H2 hx ⟨v1, v2, us, rs, ys, G, rfl, hlr, I⟩
      obtain ⟨r, c, hri, rfl, hc⟩ := I.r0.get hx
      have hi : i < rs0.length := (List.getElem?_eq_some_iff.mp hri).1
      have okr := ok0 i r hri
      simp!
      refine ⟨fun σ H' => ∃ (c' : Addr) (r' : RS), σ = [some (.ref b), some (.str z), some (.ref p), some (.int (m : Int)), some (.int 60), some (.ref A), some (.ref B), some (.ref C), some (.ref c), some (.ref c')] ∧ H' c' = some (.tup (rowV r')) ∧ r'.ok zs i ∧ IT H b A B C q zs us0 rs0 us rs ys G H', ?_, ?_⟩
      · simp!
        have uL : us.length = i := by rw [Paired.length I.ra]; exact hlr
        have nrow : ∀ H4, IT H b A B C q zs us0 rs0 us rs ys G H4 → i ≠ 0 → ∃ ys_1, seqOf (H4 A) = some ys_1 ∧ 2 ≤ sizeLine ∧ ∀ (p : Addr), H4 p = none → ∃ x, [V.str (Str.ofString "not"), V.int ((ys_1.length : Int) - 1)] = rowV x ∧ RS.ok zs i x ∧
            IT H b A B C q zs us0 rs0 us rs ys G (upd H4 p (HO.tup [V.str (Str.ofString "not"), V.int ((ys_1.length : Int) - 1)])) := fun H4 I4 h0 =>
          ⟨us, by rw [I4.hA]; rfl, by omega, fun p hp => ⟨.no (i - 1), by rw [uL, show ((i : Int) - 1) = ((i - 1 : Nat) : Int) by omega]; rfl, by show i - 1 < i; omega, I4.mv ((Kp.refl [] H4).new hp)⟩⟩
        refine ⟨c, B, r, [A, B, C], ys, G, rs, zs, rfl, hc, I.hB, I.fl, I.cf, by rw [hlr]; exact okr, z2, fun p' l H3 hp' k3 e3 cn => ?_⟩
        have I3 := I.mv k3
        have hc3 := k3.tup _ _ hc
        simp! [e3]
        refine ite2 (fun h3 => nrow H3 I3 fun h0 => ?_) (fun h3 => ⟨c, C, r, deps rs, zs, rfl, hc3, I3.hC, by rw [deps_len, hlr]; exact okr, fun H4 k4 => ⟨_, rfl, ite2 (fun h6 => nrow H4 (I3.mv k4) fun h0 => ?_) fun _ => ⟨r, k4.tup _ _ hc3, okr, I3.mv k4⟩⟩⟩)
        · rw [h0] at okr
          have := nodup_le cn.nd (fun x hx => (cn.me x).mp hx)
          have := (fm0 (F := G) (D := deps rs) okr).1
          rw [List.length_map] at h3
          omega
        · rw [h0] at okr
          have := (fm0 (F := G) (D := deps rs) okr).2
          omega
      rintro _ H3 ⟨c', r', rfl, hc', okr', I3⟩
      simp!
      have uL : us.length = i := by rw [Paired.length I3.ra]; exact hlr
      have yL : ys.length = i := by rw [I3.fl.len, I3.cf.len]; exact hlr
      have kA : Kp [A] H3 (upd H3 A (.lst (us ++ [.ref c']))) := (Kp.refl [A] H3).set I3.hA (.inl (by simp))
      have kp4 := I3.kp.set (o := .lst (us ++ [.ref c'])) I3.hA (.inr hA)
      have e4A : upd H3 A (.lst (us ++ [.ref c'])) A = some (.lst (us ++ [.ref c'])) := upd_same
      refine ⟨by rw [I3.hA]; rfl, us, by rw [I3.hA]; rfl, by omega, ?_⟩
      generalize upd H3 A (.lst (us ++ [.ref c'])) = H4 at kA kp4 e4A ⊢
      have e4B := kA.old _ _ I3.hB (by simpa using nAB.symm)
      have e4C := kA.old _ _ I3.hC (by simpa using nAC.symm)
      refine ⟨by rw [e4B]; rfl, c', B, r', [A, B, C], ys, G, rs, zs, rfl, kA.tup _ _ hc', e4B, FL.kp (S := [A]) (by simp) kA I3.fl, I3.cf, by rw [hlr]; exact okr', z2, fun p' l H5 hp' k5 e5 cn => ?_⟩
      have e5B := k5.old _ _ e4B (by simp)
      have kp5 := kp4.trans (k5.mono (by simp))
      have kB : Kp [B] H5 (upd H5 B (.lst (ys ++ [.ref p']))) := (Kp.refl [B] H5).set e5B (.inl (by simp))
      have kp6 := kp5.set (o := .lst (ys ++ [.ref p'])) e5B (.inr hB0)
      have e6B : upd H5 B (.lst (ys ++ [.ref p'])) B = some (.lst (ys ++ [.ref p'])) := upd_same
      refine ⟨ys, by rw [e5B]; rfl, by omega, ?_⟩
      generalize upd H5 B (.lst (ys ++ [.ref p'])) = H6 at kB kp6 e6B ⊢
      have npA : p' ≠ A := fun e => by rw [e, e4A] at hp'; cases hp'
      have npB : p' ≠ B := fun e => by rw [e, e4B] at hp'; cases hp'
      have npC : p' ≠ C := fun e => by rw [e, e4C] at hp'; cases hp'
      have e6C := kB.old _ _ (k5.old _ _ e4C (by simp)) (by simpa using nBC.symm)
      have k46 : Kp [A, B, C] H3 H6 := (kA.mono (by simp)).trans ((k5.mono (by simp)).trans (kB.mono (by simp)))
      refine ⟨by rw [e6C]; rfl, c', C, r', deps rs, zs, rfl, k46.tup _ _ hc', e6C, by rw [deps_len, hlr]; exact okr', fun H7 k7 => ?_⟩
      have e7C := k7.old _ _ e6C (by simp)
      have kC : Kp [C] H7 (upd H7 C (.lst (((deps rs).map fun n : Nat => V.int (n : Int)) ++ [.int (dp (deps rs) r' : Nat)]))) := (Kp.refl [C] H7).set e7C (.inl (by simp))
      have kp8 := (kp6.trans (k7.mono (by simp))).set (o := .lst (((deps rs).map fun n : Nat => V.int (n : Int)) ++ [.int (dp (deps rs) r' : Nat)])) e7C (.inr hC0)
      have e8C : upd H7 C (.lst (((deps rs).map fun n : Nat => V.int (n : Int)) ++ [.int (dp (deps rs) r' : Nat)])) C = some (.lst (((deps rs).map fun n : Nat => V.int (n : Int)) ++ [.int (dp (deps rs) r' : Nat)])) := upd_same
      refine ⟨_, by rw [e7C]; rfl, by rw [List.length_map, deps_len]; omega, _, _, ⟨rfl, rfl⟩, us ++ [.ref c'], rs ++ [r'], by simp [hlr], ys ++ [.ref p'], G ++ [l], ?_⟩
      generalize upd H7 C (.lst (((deps rs).map fun n : Nat => V.int (n : Int)) ++ [.int (dp (deps rs) r' : Nat)])) = H8 at kC kp8 e8C ⊢
      have kk : Kp [A, B, C] H3 H8 := k46.trans ((k7.mono (by simp)).trans (kC.mono (by simp)))
      obtain ⟨o3, ho3, hb3⟩ := I3.bx
      refine ⟨kp8, ⟨o3, ho3, kk.old _ _ hb3 (by simp [nbA, nbB, nbC])⟩, kk.old _ _ I3.hq (by simp [nqA, nqB, nqC]), I3.r0.kp kk, ?_, Paired.snoc (I3.ra.kp kk) ⟨c', rfl, kk.tup _ _ hc'⟩, I3.ok.snoc (by rw [hlr]; exact okr'), ?_, Paired.snoc (FL.kp (S := [A, B, C]) (by simp) kk I3.fl) ⟨p', rfl, by simp [npA, npB, npC], ?_⟩, I3.cf.snoc I3.ok (by rw [hlr]; exact okr') cn, ?_⟩
      · exact kC.old _ _ (k7.old _ _ (kB.old _ _ (k5.old _ _ e4A (by simp)) (by simpa using nAB)) (by simp)) (by simpa using nAC)
      · exact kC.old _ _ (k7.old _ _ e6B (by simp)) (by simpa using nBC)
      · exact kC.old _ _ (k7.old _ _ (kB.old _ _ e5 (by simpa using npB)) (by simp)) (by simpa using npC)
      · rw [e8C, deps_snoc, List.map_append]
        rfl
    · rintro σ H2 ⟨v1, v2, us, rs, ys, G, rfl, hlr, I⟩
      simp!
      obtain ⟨o2, ho2, hb2⟩ := I.bx
      exact k A us rs o2 H2 (by omega) (by omega) I.ra I.ok hA I.hA ho2 hb2 I.kp
abbrev s__law_whole : Stmt := top 20
theorem sc__law_whole : FnScope ["_law_found"] ["_law_found"] (defScope s__law_whole) := ⟨rfl, rfl, rfl, by decide +kernel, rfl, by decide +kernel, by decide +kernel⟩
theorem ok__law_whole {f : Addr} {fd : FuncData} (F : Fun K "_law_whole" "_law_whole" s__law_whole f fd) (T : TWh K mg) : FnOk P w K mg base CX0 1 f fd ["_law_found"] spWhole := by
  refine F.ok sc__law_whole (fun vs H Q E h => ?_) (fun cdv A outer s H vs Q E hr h => ?_)
  · obtain ⟨i, rfl, _⟩ := h
    rfl
  · obtain ⟨i, rfl, k⟩ := h
    have hu := hr.units
    refine ⟨_, (QSs.h (qpss_one (qps_ret (qpe_and (qpe_callB (call_isinstanceK (K := K) rfl) (by rfl) T.n_isinstance bt_isinstance (qpa_cons (qpv 0) (qpa_cons (qpe_bltn (v := .ty "int") rfl T.n_int bt_int rfl) qpa_nil))) (qpe_one (qpe_not (qpe_callB (call_isinstanceK (K := K) rfl) (by rfl) T.n_isinstance bt_isinstance (qpa_cons (qpv 0) (qpa_cons (qpe_bltn (v := .ty "bool") rfl T.n_bool bt_bool rfl) qpa_nil))))))))), ?_⟩
    simp!
    exact ⟨_, .int _, _, kitT K "int", by rw [if_pos rfl]; exact ⟨_, .int _, _, T.ib, k⟩⟩
abbrev s__law_doubled : Stmt := top 21
theorem sc__law_doubled : FnScope ["_law_box_here", "_law_rows", "_law_found"] ["_law_box_here", "_law_rows"] (defScope s__law_doubled) := ⟨rfl, rfl, rfl, by decide +kernel, rfl, by decide +kernel, by decide +kernel⟩
theorem ok__law_doubled {f ft : Addr} {fd fdt : FuncData} (F : Fun K "_law_doubled" "_law_doubled" s__law_doubled f fd) (T : TDb mg ft) (F__law_take : Fun K "_law_take" "_law_take" s__law_take ft fdt) (b__law_take : Binds K fdt ["_law_box_here", "_law_wide"] [])
    (G__law_take : FnOk P w K mg base CX0 1 ft fdt ["_law_box_here", "_law_wide"] spTake) : FnOk P w K mg base CX0 2 f fd ["_law_box_here", "_law_rows"] spDb := by
  refine F.ok sc__law_doubled (fun vs H Q E h => ?_) (fun cdv A outer s H vs Q E hr h => ?_)
  · obtain ⟨b, p, us, rs, zs, o, rfl, _⟩ := h
    rfl
  · obtain ⟨b, p, us, rs, zs, o, rfl, hb, ho, hp, ra, ok, l1, l2, nbp, k⟩ := h
    have hu := hr.units
    refine ⟨_, (QSs.h (qpss_cons (qps_set (i := 2) sc__law_doubled.nd rfl (by first | exact Or.inl rfl | exact Or.inr rfl) (qpe_callTy (call_listU rfl) (by rfl) T.n_list bt_list (qpa_cons (qpv 1) qpa_nil)))
    (qpss_cons (qps_while PassesOwn.never (qpt_cmpR op_ltU (qpe_callB call_lenU (by rfl) T.n_len bt_len (qpa_cons (qpv 2) qpa_nil)) qpe_int (nomark _)) (qpss_one (qps_expr (qpe_bmL PySem.F.slot_list_append PySem.F.type_list_append mt_appendU (qpv 2) (qpa_cons (qpe_tup (qpa_cons (qpe_ix ix_U (qpe_lst (qpa_cons qpe_str (qpa_cons qpe_str qpa_nil))) (qpe_call G__law_take (hr.mono (by decide)) rfl T.m__law_take F__law_take.kp b__law_take .nil pass0 (qpa_cons (qpv 0) (qpa_cons qpe_int qpa_nil))) (fun _ _ => rfl)) (qpa_cons (qpe_op op_sub (qpe_callB call_lenU (by rfl) T.n_len bt_len (qpa_cons (qpv 2) qpa_nil)) qpe_int) (qpa_cons (qpe_op op_sub (qpe_callB call_lenU (by rfl) T.n_len bt_len (qpa_cons (qpv 2) qpa_nil)) qpe_int) qpa_nil)))) qpa_nil) mono_var))))
    (qpss_one (qps_ret (qpe_callTy call_tupleU (by rfl) T.n_tuple bt_tuple (qpa_cons (qpv 2) qpa_nil))))))), ?_⟩
    have hsz : sizeLine = 16777216 := PySem.sizeLine_eq
    simp!
    refine ⟨us, by rw [hp]; rfl, fun l hl => ?_⟩
    have nbl : b ≠ l := ne_of_none hb hl
    refine ⟨fun n σ H' => ∃ (us' : List V) (rs' : List RS), σ = [some (.ref b), some (.ref p), some (.ref l)] ∧ n + rs'.length = 60 ∧ 1 ≤ rs'.length ∧ H' l = some (.lst us') ∧ RowsAt H' us' rs' ∧ okR zs rs' ∧ (∃ o, BoxO o ∧ H' b = some o) ∧ Kp [b] H H', ⟨60 - rs.length, us, rs, rfl, by omega, l1, upd_same, ra.kp ((Kp.refl [] H).new hl), ok, ⟨o, ho, by rw [upd_ne nbl]; exact hb⟩, (Kp.refl [b] H).new hl⟩, ?_⟩
    rintro n σ H1 ⟨us', rs', rfl, hn, l1', e1, ra1, ok1, ⟨o1, ho1, hb1⟩, k1⟩
    have uL : us'.length = rs'.length := Paired.length ra1
    simp! [e1]
    refine ite2 (fun h => ?_) (fun h => ?_)
    · refine ⟨fun σ H' => ∃ (us' : List V) (rs' : List RS), σ = [some (.ref b), some (.ref p), some (.ref l)] ∧ n - 1 + rs'.length = 60 ∧ 1 ≤ rs'.length ∧ H' l = some (.lst us') ∧ RowsAt H' us' rs' ∧ okR zs rs' ∧ (∃ o, BoxO o ∧ H' b = some o) ∧ Kp [b] H H', fun σ' H' ⟨us', rs', h1, h2⟩ => ⟨n - 1, by omega, h1, us', rs', h2⟩, ?_⟩
      simp! [e1]
      refine ⟨by omega, fun t ht => ⟨b, 2, o1, rfl, by rw [upd_ne (ne_of_none hb1 ht)]; exact hb1, ho1, by omega, by omega, fun d o2 d0 d1 ho2 => ?_⟩⟩
      have nbt : b ≠ t := ne_of_none hb1 ht
      have nlt : l ≠ t := ne_of_none e1 ht
      have e2t : upd (upd H1 t (.lst [.str "and", .str "or"])) b o2 t = some (.lst [.str "and", .str "or"]) := by rw [upd_ne nbt.symm, upd_same]
      have e2l : upd (upd H1 t (.lst [.str "and", .str "or"])) b o2 l = some (.lst us') := by rw [upd_ne nbl.symm, upd_ne nlt]; exact e1
      have e2b : upd (upd H1 t (.lst [.str "and", .str "or"])) b o2 b = some o2 := upd_same
      have k2 : Kp [b] H (upd (upd H1 t (.lst [.str "and", .str "or"])) b o2) := by
        obtain ⟨xs2, rfl⟩ := id ho1.lst
        exact (k1.new ht).set (by rw [upd_ne nbt]; exact hb1) (.inl (by simp))
      have r2 : RowsAt (upd (upd H1 t (.lst [.str "and", .str "or"])) b o2) us' rs' := by
        obtain ⟨xs2, rfl⟩ := id ho1.lst
        exact ra1.kp (((Kp.refl [b] H1).new ht).set (by rw [upd_ne nbt]; exact hb1) (.inl (by simp)))
      generalize upd (upd H1 t (.lst [.str "and", .str "or"])) b o2 = H2 at e2t e2l e2b k2 r2 ⊢
      obtain ⟨c, hc⟩ : ∃ c : Bool, atI [V.str "and", V.str "or"] d = some (.str (if c then "and" else "or")) := by
        rcases (by omega : d = 0 ∨ d = 1) with rfl | rfl
        · exact ⟨true, rfl⟩
        · exact ⟨false, rfl⟩
      simp! [e2t]
      refine ⟨_, hc, ?_⟩
      simp only [e2l]
      refine ⟨us', rfl, us', rfl, by omega, fun u hu' => ?_⟩
      have nbu : b ≠ u := ne_of_none e2b hu'
      have nlu : l ≠ u := ne_of_none e2l hu'
      rw [show [V.str (if c then "and" else "or"), V.int ((us'.length : Int) - 1), V.int ((us'.length : Int) - 1)] = rowV (.bin c (rs'.length - 1) (rs'.length - 1)) by rw [uL, show ((rs'.length : Int) - 1) = ((rs'.length - 1 : Nat) : Int) by omega]; rfl]
      have e3l : upd H2 u (.tup (rowV (.bin c (rs'.length - 1) (rs'.length - 1)))) l = some (.lst us') := by rw [upd_ne nlu]; exact e2l
      refine ⟨us', by rw [e3l]; rfl, by omega, us' ++ [.ref u], rs' ++ [.bin c (rs'.length - 1) (rs'.length - 1)], by simp; omega, by simp, rfl, ?_, ok1.snoc (r := .bin c (rs'.length - 1) (rs'.length - 1)) ⟨by omega, by omega⟩, ⟨o2, ho2, by rw [upd_ne nbl, upd_ne nbu]; exact e2b⟩, (k2.new hu').set e3l (.inr hl)⟩
      have kL : Kp [l] (upd H2 u (.tup (rowV (.bin c (rs'.length - 1) (rs'.length - 1))))) (upd (upd H2 u (.tup (rowV (.bin c (rs'.length - 1) (rs'.length - 1))))) l (.lst (us' ++ [.ref u]))) := (Kp.refl [l] _).set e3l (.inl (by simp))
      exact Paired.snoc ((r2.kp ((Kp.refl [] H2).new hu')).kp kL) ⟨u, rfl, kL.tup _ _ upd_same⟩
    · have h60 : rs'.length = 60 := by omega
      simp!
      exact .inl ⟨us', by rw [e1]; rfl, fun q hq => k q us' rs' o1 _ h60 (ra1.kp ((Kp.refl [] H1).new hq)) ok1 (k1.free hq) upd_same ho1 (by rw [upd_ne (ne_of_none hb1 hq)]; exact hb1) (k1.new hq)⟩
end
structure TLw (K : PySem.W.Frag) (mg : Str → Option Value) (fb fl fp ft fr fu fs fe ff fh fw : Addr) : Prop where
  n_len : mg "len" = none
  n_int : mg "int" = none
  n_tuple : mg "tuple" = none
  n_range : mg "range" = none
  n_isinstance : mg "isinstance" = none
  n_list : mg "list" = none
  m__law_box : mg "_law_box" = some (.ref fb)
  m__law_letters : mg "_law_letters" = some (.ref fl)
  m__law_place_names : mg "_law_place_names" = some (.ref fp)
  m__law_take : mg "_law_take" = some (.ref ft)
  m__law_rows_to : mg "_law_rows_to" = some (.ref fr)
  m__law_doubled : mg "_law_doubled" = some (.ref fu)
  m__law_frees : mg "_law_frees" = some (.ref fs)
  m__law_depths : mg "_law_depths" = some (.ref fe)
  m_free_names : mg "free_names" = some (.ref ff)
  m_depth_of : mg "depth_of" = some (.ref fh)
  m__law_whole : mg "_law_whole" = some (.ref fw)
theorem layT : ∀ l : List Str, (∀ x ∈ l, PyData.strOk x = true) → PyData.canLayAll0 (l.map PyData.str) = true
  | [], _ => rfl
  | x :: l, h => by simp [PyData.canLayAll0, PyData.canLay0, layT l fun y hy => h y (.tail _ hy), h x (.head _)]
theorem deepT : ∀ l : List Str, PyData.depthAll (l.map PyData.str) ≤ 8
  | [] => by simp [PyData.depthAll]
  | x :: l => by
    have := deepT l
    simp only [List.map_cons, PyData.depthAll, PyData.depth]
    omega
theorem strT_shaped (l : List Str) (h0 : ∀ x ∈ l, PyData.strOk x = true) : SeqAt.shaped (.tuple (l.map PyData.str)) = true := by
  have h := deepT l
  simp [SeqAt.shaped, PyData.canLay0, layT l h0, PyData.depth]
  omega
theorem ne_strT {H : Hp} {a b : Addr} {l : List Str} {Q : VK} (h0 : ∀ x ∈ l, PyData.strOk x = true) (ha : H a = some (.tup (l.map V.str))) (hb : H b = some (.tup (l.map V.str))) (q : Q (.bl false) H) : rNeD (.ref a) (.ref b) H Q := by
  refine ⟨.tuple (l.map PyData.str), .tuple (l.map PyData.str), ?_, ?_, strT_shaped l h0, strT_shaped l h0, by rw [show PyData.eqv (.tuple (l.map PyData.str)) (.tuple (l.map PyData.str)) = true from SeqAt.eqv_refl _ (by simp [PyData.canLay0, layT l h0])]; exact q⟩
  · simp only [Rep]
    exact ⟨a, _, rfl, ha, Reps.strs _ l⟩
  · simp only [Rep]
    exact ⟨b, _, rfl, hb, Reps.strs _ l⟩
theorem cut_to (xs : List V) (k : Nat) : cutV xs none (some (k : Int)) = xs.take k := by
  unfold cutV
  rw [HT.sIx_none, HT.sIx_nat, List.drop_zero, Nat.sub_zero]
  by_cases q : k ≤ xs.length
  · rw [Nat.min_eq_left q]
  · rw [Nat.min_eq_right (by omega), List.take_of_length_le (Nat.le_refl _), List.take_of_length_le (by omega)]
theorem RowsAt.take : ∀ {H : Hp} {us : List V} {rs : List RS} (k : Nat), RowsAt H us rs → RowsAt H (us.take k) (rs.take k)
  | _, _, _, 0, _ => by simp only [List.take_zero]; exact .nil
  | _, _, _, _ + 1, .nil => by simp only [List.take_nil]; exact .nil
  | _, _, _, k + 1, .cons h t => by simp only [List.take_succ_cons]; exact .cons h (RowsAt.take k t)
theorem SQ.seq {H : Hp} {a : Addr} {us : List V} (h : SQ H a us) : seqOf (H a) = some us := by
  rcases h with h | h <;> (rw [h]; rfl)
theorem SQ.one {H H' : Hp} {a b : Addr} {us : List V} (k : Kp [b] H H') (n : a ≠ b) (h : SQ H a us) : SQ H' a us := h.imp (fun e => k.old _ _ e (by simpa using n)) (fun e => k.tup _ _ e)
theorem tupSl {K : PySem.W.Frag} {H : Hp} {q : Addr} {us : List V} {k : Nat} {Q : VK} (sq : SQ H q us) (h : ∀ t H', Kp [] H H' → H' t = some (.tup (us.take k)) → Q (.ref t) H') : rSlV K (.ref q) none (some (k : Int)) H (fun x H1 => rTupleU [x] H1 Q) := by
  rcases sq with e | e
  · refine .inl (rSlU.lst e fun p hp => ?_)
    rw [cut_to]
    exact rTupleU_lst upd_same fun l hl => h l _ (((Kp.refl [] H).new hp).new hl) upd_same
  · refine rSlV.tup e fun p H' hp k' => ?_
    rw [cut_to] at hp
    exact .inr ⟨_, by rw [hp]; rfl, h p H' k' hp⟩
theorem nm_ok {z : Str} (h : NmOk z) : PyData.strOk z = true := by
  unfold PyData.strOk
  rw [Array.all_eq_true']
  intro c hc
  have := h.2 c (by unfold sg; exact Array.mem_toList_iff.mpr hc)
  simp
  omega
section
variable {P : Program} {w : World} {K : PySem.W.Frag} {mg : Str → Option Value} {base : Heap}
abbrev s_law : Stmt := top 22
theorem sc_law : FnScope ["_law_script", "_law_box_here", "_law_letters_here", "_law_names", "_law_most", "_law_rows", "_law_frees_here", "_law_depths_here", "_law_counts", "_law_many", "_law_free", "_law_depth"] ["_law_script"] (defScope s_law) := ⟨rfl, rfl, rfl, by decide +kernel, rfl, by decide +kernel, by decide +kernel⟩
theorem ok_law {f fb fl fp ft fr fu fs fe ff fh fw : Addr} {fd fdb fdl fdp fdt fdr fdu fds fde fdf fdh fdw : FuncData} (F : Fun K "law" "law" s_law f fd) (T : TLw K mg fb fl fp ft fr fu fs fe ff fh fw)
    (F__law_box : Fun K "_law_box" "_law_box" s__law_box fb fdb) (b__law_box : Binds K fdb ["_law_script", "_law_k"] []) (G__law_box : FnOk P w K mg base CX0 1 fb fdb ["_law_script", "_law_k"] (spBox K))
    (F__law_letters : Fun K "_law_letters" "_law_letters" s__law_letters fl fdl) (b__law_letters : Binds K fdl ["_law_box_here", "_law_most"] []) (G__law_letters : FnOk P w K mg base CX0 2 fl fdl ["_law_box_here", "_law_most"] spLetters)
    (F__law_place_names : Fun K "_law_place_names" "_law_place_names" s__law_place_names fp fdp) (b__law_place_names : Binds K fdp ["_law_box_here", "_law_many"] []) (G__law_place_names : FnOk P w K mg base CX0 2 fp fdp ["_law_box_here", "_law_many"] spPN)
    (F__law_take : Fun K "_law_take" "_law_take" s__law_take ft fdt) (b__law_take : Binds K fdt ["_law_box_here", "_law_wide"] []) (G__law_take : FnOk P w K mg base CX0 1 ft fdt ["_law_box_here", "_law_wide"] spTake)
    (F__law_rows_to : Fun K "_law_rows_to" "_law_rows_to" s__law_rows_to fr fdr) (b__law_rows_to : Binds K fdr ["_law_box_here", "_law_letters_here", "_law_names", "_law_most", "_law_deep_here"] []) (G__law_rows_to : FnOk P w K mg base CX0 4 fr fdr ["_law_box_here", "_law_letters_here", "_law_names", "_law_most", "_law_deep_here"] spRT)
    (F__law_doubled : Fun K "_law_doubled" "_law_doubled" s__law_doubled fu fdu) (b__law_doubled : Binds K fdu ["_law_box_here", "_law_rows"] []) (G__law_doubled : FnOk P w K mg base CX0 2 fu fdu ["_law_box_here", "_law_rows"] spDb)
    (F__law_frees : Fun K "_law_frees" "_law_frees" s__law_frees fs fds) (b__law_frees : Binds K fds ["_law_saying"] []) (G__law_frees : FnOk P w K mg base CX0 2 fs fds ["_law_saying"] spFs)
    (F__law_depths : Fun K "_law_depths" "_law_depths" s__law_depths fe fde) (b__law_depths : Binds K fde ["_law_saying"] []) (G__law_depths : FnOk P w K mg base CX0 2 fe fde ["_law_saying"] spDs)
    (F_free_names : Fun K "free_names" "free_names" s_free_names ff fdf) (b_free_names : Binds K fdf ["saying"] []) (G_free_names : FnOk P w K mg base CX0 4 ff fdf ["saying"] spFree)
    (F_depth_of : Fun K "depth_of" "depth_of" s_depth_of fh fdh) (b_depth_of : Binds K fdh ["saying"] []) (G_depth_of : FnOk P w K mg base CX0 2 fh fdh ["saying"] spDepth)
    (F__law_whole : Fun K "_law_whole" "_law_whole" s__law_whole fw fdw) (b__law_whole : Binds K fdw ["_law_found"] []) (G__law_whole : FnOk P w K mg base CX0 1 fw fdw ["_law_found"] spWhole) :
    FnOk P w K mg base CX0 5 f fd ["_law_script"] (spLaw K) := by
  refine F.ok sc_law (fun vs H Q E h => ?_) (fun cdv A outer s H vs Q E hr h => ?_)
  · obtain ⟨a, is, rfl, _⟩ := h
    rfl
  · obtain ⟨a, is, rfl, ha, hil, kQ⟩ := h
    have hu := hr.units
    have hu1 := hu_of hr
    have hsz : sizeLine = 16777216 := PySem.sizeLine_eq
    refine ⟨_, (QSs.h (qpss_cons (qps_set (i := 1) sc_law.nd rfl (by first | exact Or.inl rfl | exact Or.inr rfl) (qpe_call G__law_box (hr.mono (by decide)) rfl T.m__law_box F__law_box.kp b__law_box .nil pass0 (qpa_cons (qpv 0) (qpa_cons qpe_int qpa_nil))))
    (qpss_cons (qps_set (i := 2) sc_law.nd rfl (by first | exact Or.inl rfl | exact Or.inr rfl) (qpe_call G__law_letters (hr.mono (by decide)) rfl T.m__law_letters F__law_letters.kp b__law_letters .nil pass0 (qpa_cons (qpv 1) (qpa_cons qpe_int qpa_nil))))
    (qpss_cons (qps_set (i := 3) sc_law.nd rfl (by first | exact Or.inl rfl | exact Or.inr rfl) (qpe_call G__law_place_names (hr.mono (by decide)) rfl T.m__law_place_names F__law_place_names.kp b__law_place_names .nil pass0 (qpa_cons (qpv 1) (qpa_cons (qpe_op op_addW qpe_int (qpe_call G__law_take (hr.mono (by decide)) rfl T.m__law_take F__law_take.kp b__law_take .nil pass0 (qpa_cons (qpv 1) (qpa_cons qpe_int qpa_nil)))) qpa_nil))))
    (qpss_cons (qps_set (i := 4) sc_law.nd rfl (by first | exact Or.inl rfl | exact Or.inr rfl) (qpe_ix ix_U (qpe_lst (qpa_cons qpe_int (qpa_cons qpe_int qpa_nil))) (qpe_callTy call_intU (by rfl) T.n_int bt_int (qpa_cons (qpe_cmpR (op_eqU hu) (qpe_call G__law_take (hr.mono (by decide)) rfl T.m__law_take F__law_take.kp b__law_take .nil pass0 (qpa_cons (qpv 1) (qpa_cons qpe_int qpa_nil))) qpe_int (nomark _)) qpa_nil)) (fun _ _ => rfl)))
    (qpss_cons (qps_set (i := 5) sc_law.nd rfl (by first | exact Or.inl rfl | exact Or.inr rfl) (qpe_call G__law_rows_to (hr.mono (by decide)) rfl T.m__law_rows_to F__law_rows_to.kp b__law_rows_to .nil pass0 (qpa_cons (qpe_call G__law_box (hr.mono (by decide)) rfl T.m__law_box F__law_box.kp b__law_box .nil pass0 (qpa_cons (qpv 0) (qpa_cons qpe_int qpa_nil))) (qpa_cons (qpv 2) (qpa_cons (qpv 3) (qpa_cons (qpv 4) (qpa_cons qpe_int qpa_nil)))))))
    (qpss_mid (qps_if (qpt_cmpR (op_eqU hu) (qpe_call G__law_take (hr.mono (by decide)) rfl T.m__law_take F__law_take.kp b__law_take .nil pass0 (qpa_cons (qpv 1) (qpa_cons qpe_int qpa_nil))) qpe_int (nomark _)) (qpss_one (qps_set (i := 5) sc_law.nd rfl (by first | exact Or.inl rfl | exact Or.inr rfl) (qpe_call G__law_doubled (hr.mono (by decide)) rfl T.m__law_doubled F__law_doubled.kp b__law_doubled .nil pass0 (qpa_cons (qpv 1) (qpa_cons (qpe_slice (sl_VK (K := K) rfl) (qpv 5) qpo_none (qpo_some qpe_int)) qpa_nil))))) qpss_nil)
    (qpss_cons (qps_set (i := 6) sc_law.nd rfl (by first | exact Or.inl rfl | exact Or.inr rfl) (qpe_call G__law_frees (hr.mono (by decide)) rfl T.m__law_frees F__law_frees.kp b__law_frees .nil pass0 (qpa_cons (qpv 5) qpa_nil)))
    (qpss_cons (qps_set (i := 7) sc_law.nd rfl (by first | exact Or.inl rfl | exact Or.inr rfl) (qpe_call G__law_depths (hr.mono (by decide)) rfl T.m__law_depths F__law_depths.kp b__law_depths .nil pass0 (qpa_cons (qpv 5) qpa_nil)))
    (qpss_cons (qps_set (i := 8) sc_law.nd rfl (by first | exact Or.inl rfl | exact Or.inr rfl) (qpe_callTy (call_listR rfl) (by rfl) T.n_list bt_list (qpa_cons (qpe_callTy call_rangeU (by rfl) T.n_range bt_range (qpa_cons qpe_int (qpa_cons (qpe_op op_addW (qpe_callB call_lenU (by rfl) T.n_len bt_len (qpa_cons (qpv 5) qpa_nil)) qpe_int) qpa_nil))) qpa_nil)))
    (qpss_mid (qps_if (qpt_cmpR op_gt (qpe_callB call_lenU (by rfl) T.n_len bt_len (qpa_cons (qpv 5) qpa_nil)) qpe_int (nomark _)) (qpss_one (qps_set (i := 8) sc_law.nd rfl (by first | exact Or.inl rfl | exact Or.inr rfl) (qpe_op op_addW (qpe_comp rfl (compOk_of (sc := defScope s_law) (N := ["_law_script", "_law_box_here", "_law_letters_here", "_law_names", "_law_most", "_law_rows", "_law_frees_here", "_law_depths_here", "_law_counts", "_law_many", "_law_free", "_law_depth"]) (Nc := ["_law_k", "_law_box_here", "_law_rows"]) (js := [none, some 1, some 5]) (by decide +kernel)) (qpi_range1 rfl T.n_range (qpa_cons qpe_int qpa_nil)) (fun _ _ _ _ => (qpg_name (i := 0) (show List.Nodup [("_law_k" : Str), ("_law_box_here" : Str), ("_law_rows" : Str)] from by decide +kernel) rfl (by first | exact Or.inl rfl | exact Or.inr rfl))) (fun _ _ _ _ => (qpe_op op_addW qpe_int (qpe_call G__law_take (hr.mono (by decide)) rfl T.m__law_take F__law_take.kp b__law_take .nil pass0 (qpa_cons (qpv 1) (qpa_cons (qpe_callB call_lenU (by rfl) T.n_len bt_len (qpa_cons (qpv 2) qpa_nil)) qpa_nil)))))) (qpe_lst (qpa_cons (qpe_callB call_lenU (by rfl) T.n_len bt_len (qpa_cons (qpv 5) qpa_nil)) qpa_nil))))) qpss_nil)
    (qpss_cons (qps_for PassesOwn.never rfl (qpi_any (K := K) (qpv 8) rfl) (qpg_name (i := 9) sc_law.nd rfl (by first | exact Or.inl rfl | exact Or.inr rfl)) (qpss_cons (qps_set (i := 10) sc_law.nd rfl (by first | exact Or.inl rfl | exact Or.inr rfl) (qpe_call G_free_names (hr.mono (by decide)) rfl T.m_free_names F_free_names.kp b_free_names .nil pass0 (qpa_cons (qpe_callTy call_tupleU (by rfl) T.n_tuple bt_tuple (qpa_cons (qpe_slice (sl_VK (K := K) rfl) (qpv 5) qpo_none (qpo_some (qpv 9))) qpa_nil)) qpa_nil)))
    (qpss_cons (qps_set (i := 11) sc_law.nd rfl (by first | exact Or.inl rfl | exact Or.inr rfl) (qpe_call G_depth_of (hr.mono (by decide)) rfl T.m_depth_of F_depth_of.kp b_depth_of .nil pass0 (qpa_cons (qpe_callTy call_tupleU (by rfl) T.n_tuple bt_tuple (qpa_cons (qpe_slice (sl_VK (K := K) rfl) (qpv 5) qpo_none (qpo_some (qpv 9))) qpa_nil)) qpa_nil)))
    (qpss_mid (qps_if (QW.pt (qpw_or (qpt_not (qpt_val (qpe_callB (call_isinstanceK (K := K) rfl) (by rfl) T.n_isinstance bt_isinstance (qpa_cons (qpv 10) (qpa_cons (qpe_bltn (v := .ty "tuple") rfl T.n_tuple bt_tuple rfl) qpa_nil))))) (qpw_or1 (qpt_cmpR (op_neU hu) (qpv 10) (qpe_callTy call_tupleU (by rfl) T.n_tuple bt_tuple (qpa_cons (qpe_ix ix_U (qpv 6) (qpe_op op_sub (qpv 9) qpe_int) (fun _ _ => rfl)) qpa_nil)) (nomark _))))) (qpss_one (qps_ret qpe_bl)) qpss_nil)
    (qpss_one (qps_if (QW.pt (qpw_or (qpt_not (qpt_val (qpe_call G__law_whole (hr.mono (by decide)) rfl T.m__law_whole F__law_whole.kp b__law_whole .nil pass0 (qpa_cons (qpv 11) qpa_nil)))) (qpw_or1 (qpt_cmpR (op_neU hu) (qpv 11) (qpe_ix ix_U (qpv 7) (qpe_op op_sub (qpv 9) qpe_int) (fun _ _ => rfl)) (nomark _))))) (qpss_one (qps_ret qpe_bl)) qpss_nil))))))
    (qpss_one (qps_ret qpe_bl)))))))))))))), ?_⟩
    simp!
    refine ⟨a, 0, is, rfl, ha, by omega, by omega, fun b1 o1 hb1 ho1 => ?_⟩
    refine ⟨b1, 4, o1, rfl, upd_same, ho1, by omega, by omega, fun z o2 H2 hz ho2 hb2 kp2 => ?_⟩
    refine ⟨b1, 5, o2, rfl, hb2, ho2, by omega, by omega, fun d o3 d0 d1 ho3 => ?_⟩
    obtain ⟨n, rfl⟩ : ∃ n : Nat, d = (n : Int) := ⟨d.toNat, by omega⟩
    rw [rAddW_int, show (1 + (n : Int)) = ((n + 1 : Nat) : Int) by omega]
    refine ⟨b1, n + 1, o3, rfl, upd_same, ho3, by omega, by omega, fun p zs o4 H4 hzl hzs hp0 hp4 ho4 hb4 kp4 => ⟨by omega, fun l hl => ?_⟩⟩
    have nbl : b1 ≠ l := ne_of_none hb4 hl
    refine ⟨b1, 8, o4, rfl, by rw [upd_ne nbl]; exact hb4, ho4, by omega, by omega, fun e o5 e0 e1 ho5 => ?_⟩
    have nbp : b1 ≠ p := ne_of_none (show upd H2 b1 o3 b1 = some o3 from upd_same) hp0
    have npl : p ≠ l := ne_of_none hp4 hl
    have inb : ∀ x ∈ [b1], x ∈ ([] : List Addr) ∨ H x = none := fun x hx => .inr (by simp at hx; subst hx; exact hb1)
    obtain ⟨xs2, rfl⟩ := id ho2.lst
    obtain ⟨xs4, rfl⟩ := id ho4.lst
    have kH5 : Kp [] H (upd (upd H4 l (.lst [.int 12, .int 54])) b1 o5) := ((Kp.refl [] H).new hb1).trans' ((kp2.trans (((Kp.refl [b1] H2).set hb2 (.inl (by simp))).trans kp4)).trans (((Kp.refl [b1] H4).new hl).set (by rw [upd_ne nbl]; exact hb4) (.inl (by simp)))) inb
    have el5 : upd (upd H4 l (.lst [.int 12, .int 54])) b1 o5 l = some (.lst [.int 12, .int 54]) := by rw [upd_ne nbl.symm, upd_same]
    have ep5 : upd (upd H4 l (.lst [.int 12, .int 54])) b1 o5 p = some (.lst (zs.map V.str)) := by rw [upd_ne nbp.symm, upd_ne npl]; exact hp4
    have eb5 : upd (upd H4 l (.lst [.int 12, .int 54])) b1 o5 b1 = some o5 := upd_same
    generalize upd (upd H4 l (.lst [.int 12, .int 54])) b1 o5 = H5 at kH5 el5 ep5 eb5 ⊢
    simp! [el5]
    obtain ⟨m, hm, m1, m2⟩ : ∃ m : Nat, atI [V.int 12, V.int 54] (if e = 0 then 1 else 0) = some (.int (m : Int)) ∧ 1 ≤ m ∧ m ≤ 54 := by
      by_cases h : e = 0
      · rw [if_pos h]; exact ⟨54, rfl, by omega, by omega⟩
      · rw [if_neg h]; exact ⟨12, rfl, by omega, by omega⟩
    refine ⟨_, hm, a, 1, is, rfl, kH5.seq (by simp) ha, by omega, by omega, fun b ob hb hob => ?_⟩
    have npb : p ≠ b := ne_of_none ep5 hb
    have nbb : b1 ≠ b := ne_of_none eb5 hb
    refine ⟨b, p, z, zs, m, ob, rfl, upd_same, hob, hz, by rw [upd_ne npb]; exact ep5, by omega, by omega, by omega, by omega, npb.symm, fun q us rs o7 H7 l1 l2 ra ok hq hq7 ho7 hb7 kp7 => ?_⟩
    have eb7 : H7 b1 = some o5 := kp7.old _ _ (by rw [upd_ne nbb]; exact eb5) (by simpa using nbb)
    have nqb : q ≠ b1 := fun h => by rw [h, upd_ne nbb, eb5] at hq; cases hq
    refine ⟨fun σ H' => ∃ (q : Addr) (us : List V) (rs : List RS) (o : HO), σ = [some (.ref a), some (.ref b1), some (.str z), some (.ref p), some (.int (m : Int)), some (.ref q), none, none, none, none, none, none] ∧ SQ H' q us ∧ RowsAt H' us rs ∧ okR zs rs ∧ 1 ≤ rs.length ∧ rs.length ≤ 60 ∧ H' b1 = some o ∧ BoxO o ∧ q ≠ b1, ?_, ?_⟩
    · simp!
      refine ⟨b1, 8, o5, rfl, eb7, ho5, by omega, by omega, fun g o8 g0 g1 ho8 => ?_⟩
      obtain ⟨xs5, rfl⟩ := id ho5.lst
      have k8 : Kp [b1] H7 (upd H7 b1 o8) := (Kp.refl [b1] H7).set eb7 (.inl (by simp))
      have eb8 : upd H7 b1 o8 b1 = some o8 := upd_same
      generalize upd H7 b1 o8 = H8 at k8 eb8 ⊢
      have eq8 := k8.old _ _ hq7 (by simpa using nqb)
      have ra8 := ra.kp k8
      simp!
      refine ite2 (fun h => ?_) (fun h => ?_)
      · refine .inl (rSlU.lst eq8 fun t ht => ?_)
        rw [show (3 : Int) = ((3 : Nat) : Int) from rfl, cut_to]
        have nbt : b1 ≠ t := ne_of_none eb8 ht
        refine ⟨b1, t, us.take 3, rs.take 3, zs, o8, rfl, by rw [upd_ne nbt]; exact eb8, ho8, upd_same, (ra8.kp ((Kp.refl [] H8).new ht)).take 3, ok.take 3, by rw [List.length_take]; omega, by rw [List.length_take]; omega, nbt, fun q' us' rs' o9 H9 h60 ra9 ok9 hq9 hq9' ho9 hb9 kp9 => ?_⟩
        have nq9 : q' ≠ b1 := fun h => by rw [h, upd_ne nbt, eb8] at hq9; cases hq9
        exact ⟨q', rfl, us', .inr hq9', rs', ra9, ok9, by omega, by omega, o9, hb9, ho9, nq9⟩
      · exact ⟨us, .inl eq8, rs, ra8, ok, by omega, by omega, o8, eb8, ho8, nqb⟩
    clear ra ok l1 l2 hq hq7 nqb eb7 hb7 kp7
    rintro _ H8 ⟨q, us, rs, o8, rfl, sq, ra, ok, l1, l2, hb8, ho8, nqb⟩
    simp!
    refine ⟨q, us, rs, zs, [b1], rfl, sq, ra, ok, by omega, by omega, (by simpa using ⟨o8, hb8⟩), fun pf ys F H9 hpf k9 e9 fl cf => ?_⟩
    refine ⟨q, us, rs, zs, rfl, sq.kp k9, ra.kp k9, ok, by omega, fun pd H10 hpd k10 e10 => ?_⟩
    have npf : pf ≠ b1 := fun h => by rw [h, hb8] at hpf; cases hpf
    have npd : pd ≠ b1 := fun h => by rw [h, k9.old _ _ hb8 (by simp)] at hpd; cases hpd
    have k8x := k9.trans k10
    have sq10 := sq.kp k8x
    have hb10 := k8x.old _ _ hb8 (by simp)
    have ra10 := ra.kp k8x
    have ef10 := k10.old _ _ e9 (by simp)
    have fl10 := FL.kp (S := []) (by simp) k10 fl
    have hul : us.length = rs.length := Paired.length ra
    simp only [sq10.seq]
    refine ⟨us, rfl, ?_⟩
    simp!
    refine ⟨by omega, by omega, fun rg hrg => ⟨1, (us.length : Int) + 1, upd_same, by omega, by omega, by omega, by omega, by omega, fun C hC => ?_⟩⟩
    rw [show ((us.length : Int) + 1 - 1).toNat = us.length by omega]
    have k11 : Kp [] H10 (upd (upd H10 rg (.rng 1 ((us.length : Int) + 1))) C (.lst ((List.range us.length).map fun i => V.int (1 + (i : Nat))))) := ((Kp.refl [] H10).new hrg).new hC
    have eC : upd (upd H10 rg (.rng 1 ((us.length : Int) + 1))) C (.lst ((List.range us.length).map fun i => V.int (1 + (i : Nat)))) C = some (.lst ((List.range us.length).map fun i => V.int (1 + (i : Nat)))) := upd_same
    generalize upd (upd H10 rg (.rng 1 ((us.length : Int) + 1))) C (.lst ((List.range us.length).map fun i => V.int (1 + (i : Nat)))) = H11 at k11 eC ⊢
    have sq11 := sq10.kp k11
    have hb11 := k11.old _ _ hb10 (by simp)
    refine ⟨fun σ H' => ∃ (C : Addr) (cs : List Int), σ = [some (.ref a), some (.ref b1), some (.str z), some (.ref p), some (.int (m : Int)), some (.ref q), some (.ref pf), some (.ref pd), some (.ref C), none, none, none] ∧ H' C = some (.lst (cs.map V.int)) ∧ (∀ c ∈ cs, 1 ≤ c ∧ c ≤ (rs.length : Int)) ∧ cs.length ≤ 100 ∧ Kp [b1] H10 H', ?_, ?_⟩
    · simp! [sq11.seq]
      refine ite2 (fun h14 => ?_) (fun h14 => ?_)
      · refine ⟨by omega, by omega, fun D hD => ?_⟩
        have nbD : b1 ≠ D := ne_of_none hb11 hD
        refine loop_range (fun i σ H' => ∃ (v : Option V) (cs : List Int) (o : HO), σ = [v, some (.ref b1), some (.ref q)] ∧ H' D = some (.lst (cs.map V.int)) ∧ cs.length = i ∧ (∀ c ∈ cs, 1 ≤ c ∧ c ≤ (rs.length : Int)) ∧ H' b1 = some o ∧ BoxO o ∧ Kp [b1] H11 H') ?_ ?_ ?_
        · exact ⟨none, [], o8, rfl, upd_same, rfl, by simp, by rw [upd_ne nbD]; exact hb11, ho8, (Kp.refl [b1] H11).new hD⟩
        · rintro i σ H' hi ⟨v, cs, o, rfl, eD, lc, hcs, hb', ho, kp⟩
          have sq' := sq11.one kp nqb
          simp! [tEmit, sq'.seq]
          obtain ⟨xs0, rfl⟩ := id ho.lst
          refine ⟨b1, (us.length : Int), _, rfl, hb', ho, by omega, by omega, fun d o' d0 d1 ho' => ?_⟩
          simp only [rAddW_int]
          have eD' : upd H' b1 o' D = some (.lst (cs.map V.int)) := by rw [upd_ne nbD.symm]; exact eD
          refine ⟨_, by rw [eD']; rfl, by rw [List.length_map]; omega, cs ++ [1 + d], by simp, by simp [lc], fun c hc => ?_, o', by rw [upd_ne nbD, upd_same], ho', (kp.set hb' (.inl (by simp))).set eD' (.inr hD)⟩
          rcases List.mem_append.mp hc with hc | hc
          · exact hcs c hc
          · rw [List.mem_singleton.mp hc]; omega
        · rintro σ H' ⟨v, cs, o, rfl, eD, lc, hcs, hb', ho, kp⟩
          have sq' := sq11.one kp nqb
          simp! [sq'.seq]
          refine ⟨by omega, fun t ht => ?_⟩
          have nDt : D ≠ t := ne_of_none eD ht
          refine rAddW.lst (by rw [upd_ne nDt]; exact eD) upd_same (by simp; omega) fun t' ht' => ⟨t', rfl, cs ++ [(us.length : Int)], by rw [upd_same, List.map_append]; rfl, fun c hc => ?_, by simp; omega, ((((k11.mono (by simp)).trans kp).new ht).new ht')⟩
          rcases List.mem_append.mp hc with hc | hc
          · exact hcs c hc
          · rw [List.mem_singleton.mp hc]; omega
      · refine ⟨(List.range us.length).map fun i => (1 + (i : Nat) : Int), by rw [eC, List.map_map]; rfl, fun c hc => ?_, by rw [List.length_map, List.length_range]; omega, k11.mono (by simp)⟩
        obtain ⟨i, hi, rfl⟩ := List.mem_map.mp hc
        have := List.mem_range.mp hi
        omega
    rintro _ H12 ⟨C, cs, rfl, eC, hcs, lcs, k12⟩
    have sq12 := sq10.one k12 nqb
    have ra12 := ra10.kp k12
    have ef12 := k12.old _ _ ef10 (by simpa using npf)
    have ed12 := k12.old _ _ e10 (by simpa using npd)
    have fl12 := FL.kp (S := [b1]) (by simp) k12 fl10
    simp! [eC]
    refine loop_list (xs := cs.map V.int) (fun i σ H' => ∃ (v9 v10 v11 : Option V), σ = [some (.ref a), some (.ref b1), some (.str z), some (.ref p), some (.int (m : Int)), some (.ref q), some (.ref pf), some (.ref pd), some (.ref C), v9, v10, v11] ∧ Kp [] H12 H') ⟨none, none, none, rfl, Kp.refl [] H12⟩ ?_ ?_ ?_
    · rintro i σ H' _ ⟨_, _, _, rfl, kp⟩
      exact kp.old _ _ eC (by simp)
    · rintro i x σ H13 hx ⟨v9, v10, v11, rfl, k13⟩
      obtain ⟨c, hc, rfl⟩ := List.mem_map.mp (List.mem_of_getElem? hx)
      obtain ⟨c1, c2⟩ := hcs c hc
      obtain ⟨k, rfl⟩ : ∃ k : Nat, c = (k : Int) := ⟨c.toNat, by omega⟩
      have lt : (rs.take k).length = k := by rw [List.length_take]; omega
      simp!
      refine tupSl (sq12.kp k13) fun t1 H14 k14 et1 => ?_
      have k14' := k13.trans k14
      refine ⟨t1, us.take k, rs.take k, zs, rfl, et1, (ra12.kp k14').take k, ok.take k, by omega, by omega, by omega, fun fq G H15 k15 cf15 e15 => ?_⟩
      have k15' := k14'.trans k15
      refine tupSl (sq12.kp k15') fun t2 H16 k16 et2 => ?_
      have k16' := k15'.trans k16
      refine ⟨t2, us.take k, rs.take k, zs, rfl, et2, (ra12.kp k16').take k, ok.take k, by omega, by omega, fun H17 k17 => ?_⟩
      have k17' := k16'.trans k17
      have ef17 := k17'.old _ _ ef12 (by simp)
      have ed17 := k17'.old _ _ ed12 (by simp)
      have efq := ((k16.trans k17).tup _ _ e15)
      have fl17 := FL.kp (S := []) (by simp) k17' fl12
      have hG : G = F.take k := cf15.eq (ok.take k) (cf.take ok k (by omega))
      have hF := cf.len
      have hGk : G.getD ((rs.take k).length - 1) [] = F.getD (k - 1) [] := by
        rw [hG, lt, List.getD_eq_getElem?_getD, List.getD_eq_getElem?_getD, List.getElem?_take, if_pos (by omega)]
      rw [hGk] at efq
      have hDk : (deps (rs.take k)).getD ((rs.take k).length - 1) 0 = (deps rs).getD (k - 1) 0 := by
        rw [deps_take rs k (by omega), lt, List.getD_eq_getElem?_getD, List.getD_eq_getElem?_getD, List.getElem?_take, if_pos (by omega)]
      rw [hDk]
      have ek : ((k : Int) - 1) = ((k - 1 : Nat) : Int) := by omega
      refine ⟨fun σ H' => [some (.ref a), some (.ref b1), some (.str z), some (.ref p), some (.int (m : Int)), some (.ref q), some (.ref pf), some (.ref pd), some (.ref C), some (.int (k : Int)), some (.ref fq), some (.int ((deps rs).getD (k - 1) 0 : Nat))] = σ ∧ Kp [] H17 H', ?_, ?_⟩
      · obtain ⟨fa, hfa1, _, hfa2⟩ := fl17.get (i := k - 1) (by omega)
        simp! [ef17]
        refine ⟨_, .tup efq, _, kitT K "tuple", ?_⟩
        rw [if_neg (by decide), ek]
        refine ⟨_, atI_nat hfa1, ?_⟩
        refine rTupleU_lst hfa2 fun t3 ht3 => ?_
        have k18 : Kp [] H17 (upd H17 t3 (.tup ((F.getD (k - 1) []).map V.str))) := (Kp.refl [] H17).new ht3
        rw [rNeU_ref]
        exact ne_strT (fun x hx => nm_ok (hzs x (cf.sub _ x hx))) (k18.tup _ _ efq) upd_same ⟨false, rfl, by rw [if_neg (by decide)]; exact k18⟩
      rintro _ H18 ⟨rfl, k18⟩
      have ed18 := k18.old _ _ ed17 (by simp)
      simp! [ed18]
      refine ⟨_, rfl, true, rfl, ?_⟩
      rw [if_neg (by decide), ek]
      refine ⟨_, by rw [ed18]; rfl, _, atI_nat (at_int (by rw [deps_len]; omega)), ?_⟩
      simp!
      exact ⟨_, _, _, ⟨rfl, rfl, rfl⟩, k17'.trans k18⟩
    · rintro σ H13 ⟨v9, v10, v11, rfl, k13⟩
      simp!
      exact kQ H13
end
theorem us1 {C : List Value → Prop} (h : ∀ v0 : Value, C [v0]) (us : List Value) (e : us.length = 1) : C us :=
  match us, e with | [v0], _ => h v0
theorem us2 {C : List Value → Prop} (h : ∀ v0 v1 : Value, C [v0, v1]) (us : List Value) (e : us.length = 2) : C us :=
  match us, e with | [v0, v1], _ => h v0 v1
theorem us4 {C : List Value → Prop} (h : ∀ v0 v1 v2 v3 : Value, C [v0, v1, v2, v3]) (us : List Value) (e : us.length = 4) : C us :=
  match us, e with | [v0, v1, v2, v3], _ => h v0 v1 v2 v3
theorem us5 {C : List Value → Prop} (h : ∀ v0 v1 v2 v3 v4 : Value, C [v0, v1, v2, v3, v4]) (us : List Value) (e : us.length = 5) : C us :=
  match us, e with | [v0, v1, v2, v3, v4], _ => h v0 v1 v2 v3 v4
theorem all_mk {l : PySem.W.OpenLaw} {w : World} {K : PySem.W.Frag} {h : Heap} {mg : Str → Option Value} {fa f1 f2 f3 f4 f5 f6 f7 f8 f9 f10 f11 f12 f13 f14 f15 f16 f17 f18 f19 : Addr} (X : K.In h) (G : h.Ns mainGlobals mg) (hfa : mg "law" = some (.ref fa))
    {od1 od2 od3 od4 od5 od6 od7 od8 od9 od10 od11 od12 od13 od14 od15 od16 od17 od18 od19 an1 an2 an3 an4 an5 an6 an7 an8 an9 an10 an11 an12 an13 an14 an15 an16 an17 an18 an19 : Option Addr} {sl1 sl2 sl3 sl4 sl5 sl6 sl7 sl8 sl9 sl10 sl11 sl12 sl13 sl14 sl15 sl16 sl17 sl18 sl19 : Array (Option Value)} {oc1 kV1 dc1 pm1 cd1 ct1 oc2 kV2 dc2 pm2 cd2 ct2 oc3 kV3 dc3 pm3 cd3 ct3 oc4 kV4 dc4 pm4 cd4 ct4 oc5 kV5 dc5 pm5 cd5 ct5 oc6 kV6 dc6 pm6 cd6 ct6 oc7 kV7 dc7 pm7 cd7 ct7 oc8 kV8 dc8 pm8 cd8 ct8 oc9 kV9 dc9 pm9 cd9 ct9 oc10 kV10 dc10 pm10 cd10 ct10 oc11 kV11 dc11 pm11 cd11 ct11 oc12 kV12 dc12 pm12 cd12 ct12 oc13 kV13 dc13 pm13 cd13 ct13 oc14 kV14 dc14 pm14 cd14 ct14 oc15 kV15 dc15 pm15 cd15 ct15 oc16 kV16 dc16 pm16 cd16 ct16 oc17 kV17 dc17 pm17 cd17 ct17 oc18 kV18 dc18 pm18 cd18 ct18 oc19 kV19 dc19 pm19 cd19 ct19 : Value}
    {an : Addr} {odn : Option Addr} {itn : Array Value} {nn : Nat} {sln : Array (Option Value)}
    (a1 : PySem.W.nsIn K mainGlobals "parts_of" = some (some (.ref f1))) (l1 : K.lookup f1 = some ⟨oc1, od1, .func (PySem.W.fnOf "parts_of" "parts_of" (defArgs s_parts_of) (defBody s_parts_of) (defScope s_parts_of) .none kV1 dc1 pm1 an1 cd1 ct1), sl1⟩) (c1 : PySem.W.codeIn K cd1 "parts_of" = true) (k1 : PySem.W.keepIn K (.ref f1) = true)
    (a2 : PySem.W.nsIn K mainGlobals "free_names" = some (some (.ref f2))) (l2 : K.lookup f2 = some ⟨oc2, od2, .func (PySem.W.fnOf "free_names" "free_names" (defArgs s_free_names) (defBody s_free_names) (defScope s_free_names) .none kV2 dc2 pm2 an2 cd2 ct2), sl2⟩) (c2 : PySem.W.codeIn K cd2 "free_names" = true) (k2 : PySem.W.keepIn K (.ref f2) = true)
    (a3 : PySem.W.nsIn K mainGlobals "names_of_rows" = some (some (.ref f3))) (l3 : K.lookup f3 = some ⟨oc3, od3, .func (PySem.W.fnOf "names_of_rows" "names_of_rows" (defArgs s_names_of_rows) (defBody s_names_of_rows) (defScope s_names_of_rows) .none kV3 dc3 pm3 an3 cd3 ct3), sl3⟩) (c3 : PySem.W.codeIn K cd3 "names_of_rows" = true) (k3 : PySem.W.keepIn K (.ref f3) = true)
    (a4 : PySem.W.nsIn K mainGlobals "names_of_row" = some (some (.ref f4))) (l4 : K.lookup f4 = some ⟨oc4, od4, .func (PySem.W.fnOf "names_of_row" "names_of_row" (defArgs s_names_of_row) (defBody s_names_of_row) (defScope s_names_of_row) .none kV4 dc4 pm4 an4 cd4 ct4), sl4⟩) (c4 : PySem.W.codeIn K cd4 "names_of_row" = true) (k4 : PySem.W.keepIn K (.ref f4) = true)
    (a5 : PySem.W.nsIn K mainGlobals "depth_of" = some (some (.ref f5))) (l5 : K.lookup f5 = some ⟨oc5, od5, .func (PySem.W.fnOf "depth_of" "depth_of" (defArgs s_depth_of) (defBody s_depth_of) (defScope s_depth_of) .none kV5 dc5 pm5 an5 cd5 ct5), sl5⟩) (c5 : PySem.W.codeIn K cd5 "depth_of" = true) (k5 : PySem.W.keepIn K (.ref f5) = true)
    (a6 : PySem.W.nsIn K mainGlobals "_law_box" = some (some (.ref f6))) (l6 : K.lookup f6 = some ⟨oc6, od6, .func (PySem.W.fnOf "_law_box" "_law_box" (defArgs s__law_box) (defBody s__law_box) (defScope s__law_box) .none kV6 dc6 pm6 an6 cd6 ct6), sl6⟩) (c6 : PySem.W.codeIn K cd6 "_law_box" = true) (k6 : PySem.W.keepIn K (.ref f6) = true)
    (a7 : PySem.W.nsIn K mainGlobals "_law_take" = some (some (.ref f7))) (l7 : K.lookup f7 = some ⟨oc7, od7, .func (PySem.W.fnOf "_law_take" "_law_take" (defArgs s__law_take) (defBody s__law_take) (defScope s__law_take) .none kV7 dc7 pm7 an7 cd7 ct7), sl7⟩) (c7 : PySem.W.codeIn K cd7 "_law_take" = true) (k7 : PySem.W.keepIn K (.ref f7) = true)
    (a8 : PySem.W.nsIn K mainGlobals "_law_letters" = some (some (.ref f8))) (l8 : K.lookup f8 = some ⟨oc8, od8, .func (PySem.W.fnOf "_law_letters" "_law_letters" (defArgs s__law_letters) (defBody s__law_letters) (defScope s__law_letters) .none kV8 dc8 pm8 an8 cd8 ct8), sl8⟩) (c8 : PySem.W.codeIn K cd8 "_law_letters" = true) (k8 : PySem.W.keepIn K (.ref f8) = true)
    (a9 : PySem.W.nsIn K mainGlobals "_law_row_at" = some (some (.ref f9))) (l9 : K.lookup f9 = some ⟨oc9, od9, .func (PySem.W.fnOf "_law_row_at" "_law_row_at" (defArgs s__law_row_at) (defBody s__law_row_at) (defScope s__law_row_at) .none kV9 dc9 pm9 an9 cd9 ct9), sl9⟩) (c9 : PySem.W.codeIn K cd9 "_law_row_at" = true) (k9 : PySem.W.keepIn K (.ref f9) = true)
    (a10 : PySem.W.nsIn K mainGlobals "_law_place_names" = some (some (.ref f10))) (l10 : K.lookup f10 = some ⟨oc10, od10, .func (PySem.W.fnOf "_law_place_names" "_law_place_names" (defArgs s__law_place_names) (defBody s__law_place_names) (defScope s__law_place_names) .none kV10 dc10 pm10 an10 cd10 ct10), sl10⟩) (c10 : PySem.W.codeIn K cd10 "_law_place_names" = true) (k10 : PySem.W.keepIn K (.ref f10) = true)
    (a11 : PySem.W.nsIn K mainGlobals "_law_saying_rows" = some (some (.ref f11))) (l11 : K.lookup f11 = some ⟨oc11, od11, .func (PySem.W.fnOf "_law_saying_rows" "_law_saying_rows" (defArgs s__law_saying_rows) (defBody s__law_saying_rows) (defScope s__law_saying_rows) .none kV11 dc11 pm11 an11 cd11 ct11), sl11⟩) (c11 : PySem.W.codeIn K cd11 "_law_saying_rows" = true) (k11 : PySem.W.keepIn K (.ref f11) = true)
    (a12 : PySem.W.nsIn K mainGlobals "_law_names_of" = some (some (.ref f12))) (l12 : K.lookup f12 = some ⟨oc12, od12, .func (PySem.W.fnOf "_law_names_of" "_law_names_of" (defArgs s__law_names_of) (defBody s__law_names_of) (defScope s__law_names_of) .none kV12 dc12 pm12 an12 cd12 ct12), sl12⟩) (c12 : PySem.W.codeIn K cd12 "_law_names_of" = true) (k12 : PySem.W.keepIn K (.ref f12) = true)
    (a13 : PySem.W.nsIn K mainGlobals "_law_frees" = some (some (.ref f13))) (l13 : K.lookup f13 = some ⟨oc13, od13, .func (PySem.W.fnOf "_law_frees" "_law_frees" (defArgs s__law_frees) (defBody s__law_frees) (defScope s__law_frees) .none kV13 dc13 pm13 an13 cd13 ct13), sl13⟩) (c13 : PySem.W.codeIn K cd13 "_law_frees" = true) (k13 : PySem.W.keepIn K (.ref f13) = true)
    (a14 : PySem.W.nsIn K mainGlobals "_law_deep" = some (some (.ref f14))) (l14 : K.lookup f14 = some ⟨oc14, od14, .func (PySem.W.fnOf "_law_deep" "_law_deep" (defArgs s__law_deep) (defBody s__law_deep) (defScope s__law_deep) .none kV14 dc14 pm14 an14 cd14 ct14), sl14⟩) (c14 : PySem.W.codeIn K cd14 "_law_deep" = true) (k14 : PySem.W.keepIn K (.ref f14) = true)
    (a15 : PySem.W.nsIn K mainGlobals "_law_depths" = some (some (.ref f15))) (l15 : K.lookup f15 = some ⟨oc15, od15, .func (PySem.W.fnOf "_law_depths" "_law_depths" (defArgs s__law_depths) (defBody s__law_depths) (defScope s__law_depths) .none kV15 dc15 pm15 an15 cd15 ct15), sl15⟩) (c15 : PySem.W.codeIn K cd15 "_law_depths" = true) (k15 : PySem.W.keepIn K (.ref f15) = true)
    (a16 : PySem.W.nsIn K mainGlobals "_law_rows_to" = some (some (.ref f16))) (l16 : K.lookup f16 = some ⟨oc16, od16, .func (PySem.W.fnOf "_law_rows_to" "_law_rows_to" (defArgs s__law_rows_to) (defBody s__law_rows_to) (defScope s__law_rows_to) .none kV16 dc16 pm16 an16 cd16 ct16), sl16⟩) (c16 : PySem.W.codeIn K cd16 "_law_rows_to" = true) (k16 : PySem.W.keepIn K (.ref f16) = true)
    (a17 : PySem.W.nsIn K mainGlobals "_law_whole" = some (some (.ref f17))) (l17 : K.lookup f17 = some ⟨oc17, od17, .func (PySem.W.fnOf "_law_whole" "_law_whole" (defArgs s__law_whole) (defBody s__law_whole) (defScope s__law_whole) .none kV17 dc17 pm17 an17 cd17 ct17), sl17⟩) (c17 : PySem.W.codeIn K cd17 "_law_whole" = true) (k17 : PySem.W.keepIn K (.ref f17) = true)
    (a18 : PySem.W.nsIn K mainGlobals "_law_doubled" = some (some (.ref f18))) (l18 : K.lookup f18 = some ⟨oc18, od18, .func (PySem.W.fnOf "_law_doubled" "_law_doubled" (defArgs s__law_doubled) (defBody s__law_doubled) (defScope s__law_doubled) .none kV18 dc18 pm18 an18 cd18 ct18), sl18⟩) (c18 : PySem.W.codeIn K cd18 "_law_doubled" = true) (k18 : PySem.W.keepIn K (.ref f18) = true)
    (a19 : PySem.W.nsIn K mainGlobals "law" = some (some (.ref f19))) (l19 : K.lookup f19 = some ⟨oc19, od19, .func (PySem.W.fnOf "law" "law" (defArgs s_law) (defBody s_law) (defScope s_law) .none kV19 dc19 pm19 an19 cd19 ct19), sl19⟩) (c19 : PySem.W.codeIn K cd19 "law" = true) (k19 : PySem.W.keepIn K (.ref f19) = true)
    (z_len : PySem.W.nsIn K mainGlobals "len" = some none)
    (z_int : PySem.W.nsIn K mainGlobals "int" = some none)
    (z_range : PySem.W.nsIn K mainGlobals "range" = some none)
    (z_list : PySem.W.nsIn K mainGlobals "list" = some none)
    (z_tuple : PySem.W.nsIn K mainGlobals "tuple" = some none)
    (z_isinstance : PySem.W.nsIn K mainGlobals "isinstance" = some none)
    (z_bool : PySem.W.nsIn K mainGlobals "bool" = some none)
    (z_sorted : PySem.W.nsIn K mainGlobals "sorted" = some none)
    (z_set : PySem.W.nsIn K mainGlobals "set" = some none)
    (z_max : PySem.W.nsIn K mainGlobals "max" = some none)
    (en : PySem.W.nsIn K mainGlobals "BINDING" = some (some (.ref an)))
    (ln : K.lookup an = some ⟨.type "tuple", odn, .seq itn nn, sln⟩)
    (vn : Vals BN itn.toList)
    : ∃ fd : FuncData, (∀ (s : Shared) (v : Value), BindsTo s fd ⟨[v], []⟩ [("_law_script", v)]) ∧ ∀ base : Heap, K.In base → base.Ns mainGlobals mg → FnOk l.prog w K mg base CX0 5 fa fd ["_law_script"] (spLaw K) := by
  have e := hfa.symm.trans (PySem.W.mg_of X G a19)
  cases e
  have F_parts_of := fun_mk (st := s_parts_of) l1 c1 k1
  have m_parts_of := PySem.W.mg_of X G a1
  have b_parts_of := F_parts_of.binds (ps := ["row"]) fun _ _ _ _ _ _ => us1 fun _ => rfl
  have F_free_names := fun_mk (st := s_free_names) l2 c2 k2
  have m_free_names := PySem.W.mg_of X G a2
  have b_free_names := F_free_names.binds (ps := ["saying"]) fun _ _ _ _ _ _ => us1 fun _ => rfl
  have F_names_of_rows := fun_mk (st := s_names_of_rows) l3 c3 k3
  have m_names_of_rows := PySem.W.mg_of X G a3
  have b_names_of_rows := F_names_of_rows.binds (ps := ["saying"]) fun _ _ _ _ _ _ => us1 fun _ => rfl
  have F_names_of_row := fun_mk (st := s_names_of_row) l4 c4 k4
  have m_names_of_row := PySem.W.mg_of X G a4
  have b_names_of_row := F_names_of_row.binds (ps := ["row", "names"]) fun _ _ _ _ _ _ => us2 fun _ _ => rfl
  have F_depth_of := fun_mk (st := s_depth_of) l5 c5 k5
  have m_depth_of := PySem.W.mg_of X G a5
  have b_depth_of := F_depth_of.binds (ps := ["saying"]) fun _ _ _ _ _ _ => us1 fun _ => rfl
  have F__law_box := fun_mk (st := s__law_box) l6 c6 k6
  have m__law_box := PySem.W.mg_of X G a6
  have b__law_box := F__law_box.binds (ps := ["_law_script", "_law_k"]) fun _ _ _ _ _ _ => us2 fun _ _ => rfl
  have F__law_take := fun_mk (st := s__law_take) l7 c7 k7
  have m__law_take := PySem.W.mg_of X G a7
  have b__law_take := F__law_take.binds (ps := ["_law_box_here", "_law_wide"]) fun _ _ _ _ _ _ => us2 fun _ _ => rfl
  have F__law_letters := fun_mk (st := s__law_letters) l8 c8 k8
  have m__law_letters := PySem.W.mg_of X G a8
  have b__law_letters := F__law_letters.binds (ps := ["_law_box_here", "_law_most"]) fun _ _ _ _ _ _ => us2 fun _ _ => rfl
  have F__law_row_at := fun_mk (st := s__law_row_at) l9 c9 k9
  have m__law_row_at := PySem.W.mg_of X G a9
  have b__law_row_at := F__law_row_at.binds (ps := ["_law_box_here", "_law_k"]) fun _ _ _ _ _ _ => us2 fun _ _ => rfl
  have F__law_place_names := fun_mk (st := s__law_place_names) l10 c10 k10
  have m__law_place_names := PySem.W.mg_of X G a10
  have b__law_place_names := F__law_place_names.binds (ps := ["_law_box_here", "_law_many"]) fun _ _ _ _ _ _ => us2 fun _ _ => rfl
  have F__law_saying_rows := fun_mk (st := s__law_saying_rows) l11 c11 k11
  have m__law_saying_rows := PySem.W.mg_of X G a11
  have b__law_saying_rows := F__law_saying_rows.binds (ps := ["_law_box_here", "_law_letters_here", "_law_names", "_law_most"]) fun _ _ _ _ _ _ => us4 fun _ _ _ _ => rfl
  have F__law_names_of := fun_mk (st := s__law_names_of) l12 c12 k12
  have m__law_names_of := PySem.W.mg_of X G a12
  have b__law_names_of := F__law_names_of.binds (ps := ["_law_row", "_law_frees_here"]) fun _ _ _ _ _ _ => us2 fun _ _ => rfl
  have F__law_frees := fun_mk (st := s__law_frees) l13 c13 k13
  have m__law_frees := PySem.W.mg_of X G a13
  have b__law_frees := F__law_frees.binds (ps := ["_law_saying"]) fun _ _ _ _ _ _ => us1 fun _ => rfl
  have F__law_deep := fun_mk (st := s__law_deep) l14 c14 k14
  have m__law_deep := PySem.W.mg_of X G a14
  have b__law_deep := F__law_deep.binds (ps := ["_law_row", "_law_depths_here"]) fun _ _ _ _ _ _ => us2 fun _ _ => rfl
  have F__law_depths := fun_mk (st := s__law_depths) l15 c15 k15
  have m__law_depths := PySem.W.mg_of X G a15
  have b__law_depths := F__law_depths.binds (ps := ["_law_saying"]) fun _ _ _ _ _ _ => us1 fun _ => rfl
  have F__law_rows_to := fun_mk (st := s__law_rows_to) l16 c16 k16
  have m__law_rows_to := PySem.W.mg_of X G a16
  have b__law_rows_to := F__law_rows_to.binds (ps := ["_law_box_here", "_law_letters_here", "_law_names", "_law_most", "_law_deep_here"]) fun _ _ _ _ _ _ => us5 fun _ _ _ _ _ => rfl
  have F__law_whole := fun_mk (st := s__law_whole) l17 c17 k17
  have m__law_whole := PySem.W.mg_of X G a17
  have b__law_whole := F__law_whole.binds (ps := ["_law_found"]) fun _ _ _ _ _ _ => us1 fun _ => rfl
  have F__law_doubled := fun_mk (st := s__law_doubled) l18 c18 k18
  have m__law_doubled := PySem.W.mg_of X G a18
  have b__law_doubled := F__law_doubled.binds (ps := ["_law_box_here", "_law_rows"]) fun _ _ _ _ _ _ => us2 fun _ _ => rfl
  have F_law := fun_mk (st := s_law) l19 c19 k19
  have m_law := PySem.W.mg_of X G a19
  have b_law := F_law.binds (ps := ["_law_script"]) fun _ _ _ _ _ _ => us1 fun _ => rfl
  have n_len := PySem.W.mg_none_of X G z_len
  have n_int := PySem.W.mg_none_of X G z_int
  have n_range := PySem.W.mg_none_of X G z_range
  have n_list := PySem.W.mg_none_of X G z_list
  have n_tuple := PySem.W.mg_none_of X G z_tuple
  have n_isinstance := PySem.W.mg_none_of X G z_isinstance
  have n_bool := PySem.W.mg_none_of X G z_bool
  have n_sorted := PySem.W.mg_none_of X G z_sorted
  have n_set := PySem.W.mg_none_of X G z_set
  have n_max := PySem.W.mg_none_of X G z_max
  refine ⟨PySem.W.fnOf "law" "law" (defArgs s_law) (defBody s_law) (defScope s_law) .none kV19 dc19 pm19 an19 cd19 ct19, fun s v => .of_eq rfl, fun base _ _ => ?_⟩
  have g1 := ok__law_take (P := l.prog) (w := w) (mg := mg) (base := base) F__law_take
  have g2 := ok__law_letters (P := l.prog) (w := w) (base := base) F__law_letters ⟨n_len, n_list, n_range, m__law_take⟩ F__law_take b__law_take g1
  have g3 := ok__law_row_at (P := l.prog) (w := w) (base := base) F__law_row_at ⟨m__law_take⟩ F__law_take b__law_take g1
  have g4 := ok__law_place_names (P := l.prog) (w := w) (base := base) F__law_place_names ⟨n_range, m__law_take⟩ F__law_take b__law_take g1
  have g5 := ok__law_saying_rows (P := l.prog) (w := w) (base := base) F__law_saying_rows ⟨n_range, n_len, m__law_take, m__law_row_at⟩ F__law_take b__law_take g1 F__law_row_at b__law_row_at g3
  have g6 := ok__law_names_of (P := l.prog) (w := w) (base := base) F__law_names_of ⟨n_sorted, n_set⟩
  have g7 := ok__law_deep (P := l.prog) (w := w) (base := base) F__law_deep ⟨n_max⟩
  have g8 := ok__law_rows_to (P := l.prog) (w := w) (base := base) F__law_rows_to ⟨n_len, m__law_saying_rows, m__law_names_of, m__law_deep⟩ F__law_saying_rows b__law_saying_rows g5 F__law_names_of b__law_names_of g6 F__law_deep b__law_deep g7
  have iib : PySem.W.kitOne K (.type "int") (.type "bool") = some false := by
    unfold PySem.W.kitOne
    rw [if_neg (by decide)]
    unfold PySem.W.kitCls
    first | rfl | decide +kernel | simp
  have isi : PySem.W.kitOne K (.type "str") (.type "int") = some false := by
    unfold PySem.W.kitOne
    rw [if_neg (by decide)]
    unfold PySem.W.kitCls
    first | rfl | decide +kernel | simp
  have g9 := ok__law_whole (P := l.prog) (w := w) (base := base) F__law_whole ⟨n_isinstance, n_int, n_bool, iib⟩
  have g10 := ok__law_doubled (P := l.prog) (w := w) (base := base) F__law_doubled ⟨n_list, n_tuple, n_len, m__law_take⟩ F__law_take b__law_take g1
  have g11 := ok__law_frees (P := l.prog) (w := w) (base := base) F__law_frees ⟨m__law_names_of⟩ F__law_names_of b__law_names_of g6
  have g12 := ok__law_depths (P := l.prog) (w := w) (base := base) F__law_depths ⟨m__law_deep⟩ F__law_deep b__law_deep g7
  have g13 := ok_parts_of (P := l.prog) (w := w) (base := base) F_parts_of ⟨n_isinstance, n_int, isi, kitT K "int"⟩
  have kn : ∀ H, SqT K H an BN := fun H => .inr ⟨_, itn, nn, ln, rfl, rfl, by have := vn.length; simp [BN] at this; have hs : sizeLine = 16777216 := PySem.sizeLine_eq; omega, vn⟩
  have g14 := ok_names_of_row (P := l.prog) (w := w) (base := base) F_names_of_row ⟨n_tuple, n_sorted, n_set, m_parts_of, PySem.W.mg_of X G en, kn⟩ F_parts_of b_parts_of g13
  have g15 := ok_names_of_rows (P := l.prog) (w := w) (base := base) F_names_of_rows ⟨m_names_of_row⟩ F_names_of_row b_names_of_row g14
  have g16 := ok_free_names (P := l.prog) (w := w) (base := base) F_free_names ⟨m_names_of_rows⟩ F_names_of_rows b_names_of_rows g15
  have g17 := ok_depth_of (P := l.prog) (w := w) (base := base) F_depth_of ⟨n_max, m_parts_of, PySem.W.mg_of X G en, kn⟩ F_parts_of b_parts_of g13
  exact ok_law F_law ⟨n_len, n_int, n_tuple, n_range, n_isinstance, n_list, m__law_box, m__law_letters, m__law_place_names, m__law_take, m__law_rows_to, m__law_doubled, m__law_frees, m__law_depths, m_free_names, m_depth_of, m__law_whole⟩ F__law_box b__law_box (ok__law_box F__law_box ⟨n_len, n_int⟩)
    F__law_letters b__law_letters g2 F__law_place_names b__law_place_names g4 F__law_take b__law_take g1 F__law_rows_to b__law_rows_to g8 F__law_doubled b__law_doubled g10 F__law_frees b__law_frees g11 F__law_depths b__law_depths g12 F_free_names b_free_names g16 F_depth_of b_depth_of g17 F__law_whole b__law_whole g9
theorem walk {l : PySem.W.OpenLaw} {q : Program} {loose : List Str} {XP : (Str → Option Value) → Heap → Prop} {YP : World → Heap → Prop} {d : DefRec} {K : Params → PySem.W.Frag} (hn : l.most = some 63) (hdf : d.params.defaults = [])
    (hY : ∀ (w : World) (h : Heap), YP w h → (K w.params).In h)
    (F : ∀ (w : World) (mg : Str → Option Value) (fa : Addr) (h : Heap), (K w.params).In h → h.Ns mainGlobals mg → mg d.name = some (.ref fa) →
      ∃ fd : FuncData, (∀ (s : Shared) (u : Value), BindsTo s fd ⟨[u], []⟩ [("_law_script", u)]) ∧ ∀ base : Heap, (K w.params).In base → base.Ns mainGlobals mg → FnOk l.prog w (K w.params) mg base CX0 5 fa fd ["_law_script"] (spLaw (K w.params))) :
    PySem.W.WalkO q loose XP YP l.row.toRowW d [] (fun f vs => PySem.call f vs) :=
  L2.walk_of (n := 63) (k := 5) (x := "_law_script") (CX := fun _ => CX0) (sp := fun w => spLaw (K w.params)) hn (by decide) hdf ⟨rfl, by decide, by decide, rfl⟩ hY F (fun _ _ a ns hl _ hS => ⟨a, ns, rfl, hS, hl, fun _ => rfl⟩) fun _ _ _ _ _ z => z
end My
open PySem PySem.W PyProof.Rows
set_option maxRecDepth 100000 in
set_option maxHeartbeats 0 in
theorem PySem.Challenge.cw_calmword_k33_free_names_and_depths_holds : PySem.Challenge.rw_calmword_k33_free_names_and_depths.Holds := by
  w_on; o_law; k_head; (case hw => w_witness2)
  k_fill
  refine My.walk (l := PySem.Challenge.rw_calmword_k33_free_names_and_depths) rfl rfl (fun w h Y => PySem.W.kIn_of Y) ?F
  case F =>
    intro w mg fa h KX G hmg
    refine' My.all_mk KX G hmg ?a1 ?l1 ?c1 ?k1 ?a2 ?l2 ?c2 ?k2 ?a3 ?l3 ?c3 ?k3 ?a4 ?l4 ?c4 ?k4 ?a5 ?l5 ?c5 ?k5 ?a6 ?l6 ?c6 ?k6 ?a7 ?l7 ?c7 ?k7 ?a8 ?l8 ?c8 ?k8 ?a9 ?l9 ?c9 ?k9 ?a10 ?l10 ?c10 ?k10 ?a11 ?l11 ?c11 ?k11 ?a12 ?l12 ?c12 ?k12 ?a13 ?l13 ?c13 ?k13 ?a14 ?l14 ?c14 ?k14 ?a15 ?l15 ?c15 ?k15 ?a16 ?l16 ?c16 ?k16 ?a17 ?l17 ?c17 ?k17 ?a18 ?l18 ?c18 ?k18 ?a19 ?l19 ?c19 ?k19 ?z_len ?z_int ?z_range ?z_list ?z_tuple ?z_isinstance ?z_bool ?z_sorted ?z_set ?z_max ?en ?ln ?vn
    (case a1 => k_is)
    (case l1 => k_is)
    (case c1 => k_is)
    (case k1 => k_is)
    (case a2 => k_is)
    (case l2 => k_is)
    (case c2 => k_is)
    (case k2 => k_is)
    (case a3 => k_is)
    (case l3 => k_is)
    (case c3 => k_is)
    (case k3 => k_is)
    (case a4 => k_is)
    (case l4 => k_is)
    (case c4 => k_is)
    (case k4 => k_is)
    (case a5 => k_is)
    (case l5 => k_is)
    (case c5 => k_is)
    (case k5 => k_is)
    (case a6 => k_is)
    (case l6 => k_is)
    (case c6 => k_is)
    (case k6 => k_is)
    (case a7 => k_is)
    (case l7 => k_is)
    (case c7 => k_is)
    (case k7 => k_is)
    (case a8 => k_is)
    (case l8 => k_is)
    (case c8 => k_is)
    (case k8 => k_is)
    (case a9 => k_is)
    (case l9 => k_is)
    (case c9 => k_is)
    (case k9 => k_is)
    (case a10 => k_is)
    (case l10 => k_is)
    (case c10 => k_is)
    (case k10 => k_is)
    (case a11 => k_is)
    (case l11 => k_is)
    (case c11 => k_is)
    (case k11 => k_is)
    (case a12 => k_is)
    (case l12 => k_is)
    (case c12 => k_is)
    (case k12 => k_is)
    (case a13 => k_is)
    (case l13 => k_is)
    (case c13 => k_is)
    (case k13 => k_is)
    (case a14 => k_is)
    (case l14 => k_is)
    (case c14 => k_is)
    (case k14 => k_is)
    (case a15 => k_is)
    (case l15 => k_is)
    (case c15 => k_is)
    (case k15 => k_is)
    (case a16 => k_is)
    (case l16 => k_is)
    (case c16 => k_is)
    (case k16 => k_is)
    (case a17 => k_is)
    (case l17 => k_is)
    (case c17 => k_is)
    (case k17 => k_is)
    (case a18 => k_is)
    (case l18 => k_is)
    (case c18 => k_is)
    (case k18 => k_is)
    (case a19 => k_is)
    (case l19 => k_is)
    (case c19 => k_is)
    (case k19 => k_is)
    (case z_len => k_is)
    (case z_int => k_is)
    (case z_range => k_is)
    (case z_list => k_is)
    (case z_tuple => k_is)
    (case z_isinstance => k_is)
    (case z_bool => k_is)
    (case z_sorted => k_is)
    (case z_set => k_is)
    (case z_max => k_is)
    (case en => k_is)
    (case ln => k_is)
    (case vn => exact .cons ⟨_, rfl⟩ (.cons ⟨_, rfl⟩ .nil))
